/- The law IntervalQualities. -/
import Derived.Test.YtfbogakmhaiddaaDoorIy
namespace Go.Proofs.YtfbogakmhaiddaaDoor
open Go.RowKit
set_option linter.unusedVariables false
set_option linter.unusedSimpArgs false

def qU (t m : Int) : Int × Int := if dwn t m then qualI (-t) (-m) else qualI t m
theorem quality_any (t m : Int) (w : World) (h : Iv t m) (hi : IT w) :
    Calls Tryd.prog 30 #[.agg #[.int .i64 t, .int .i64 m]] w fun e w' => e = .returned (.tuple #[.int .i64 (qU t m).1, .int .i64 (qU t m).2, .int .i64 0]) ∧ Below w.heap.size w w' := by
  unfold qU
  by_cases hd : dwn t m
  · rw [if_pos hd]; exact quality_y t m w h hd hi
  · rw [if_neg hd]; exact quality_n t m w h hd hi
theorem refQual_any (t m : Int) (w : World) (h : Iv t m) :
    Calls Tryd.prog 33 #[.agg #[.int .i64 t, .int .i64 m]] w fun e w' => e = .returned (.tuple #[.int .i64 (qU t m).1, .int .i64 (qU t m).2]) ∧ Below w.heap.size w w' := by
  have t0 := h.t0; have t1 := h.t1; have m0 := h.m0; have m1 := h.m1
  unfold qU
  by_cases hd : dwn t m
  · rw [if_pos hd]
    exact refQual_of t m (-t) (-m) w (fun v' => up_y t m v' h hd) (by unfold dwn at hd; omega) (by omega) (by omega) (by omega)
  · rw [if_neg hd]
    exact refQual_of t m t m w (fun v' => up_n t m v' h hd) (by unfold dwn at hd; omega) (by omega) (by omega) (by omega)
theorem refSimp_any (t m : Int) (w : World) (h : Iv t m) :
    Calls Tryd.prog 34 #[.agg #[.int .i64 t, .int .i64 m]] w fun e w' => e = .returned (.tuple #[.agg #[.int .i64 (t - t.tdiv 7 * 7), .int .i64 (m - t.tdiv 7 * 12)], .int .i64 (t.tdiv 7)]) ∧ Below w.heap.size w w' := by
  have h2 := Int.tdiv_eq_ediv (a := t) (b := 7)
  rw [show Int.sign 7 = 1 from rfl] at h2
  by_cases hd : dwn t m
  · have t0 : t ≤ 0 := by unfold dwn at hd; omega
    rw [show t - t.tdiv 7 * 7 = -(-t - 7 * -t.tdiv 7) by omega, show m - t.tdiv 7 * 12 = -(-m - 12 * -t.tdiv 7) by omega]
    exact refSimp_y t m w h hd
  · have t0 : 0 ≤ t := by unfold dwn at hd; omega
    have e : t.tdiv 7 = t / 7 := Int.tdiv_eq_ediv_of_nonneg t0
    rw [e, show t - t / 7 * 7 = t - 7 * (t / 7) by omega, show m - t / 7 * 12 = m - 12 * (t / 7) by omega]
    exact refSimp_n t m w h hd
theorem inv_back (t m : Int) (w : World) (h : Iv t m) (k0 : 0 ≤ t) (k1 : t ≤ 7) (l : Iv (7 - t) (12 - m)) :
    Calls Tryd.prog 32 #[.agg #[.int .i64 (7 - t), .int .i64 (12 - m)]] w fun e w' => e = .returned (.tuple #[.agg #[.int .i64 t, .int .i64 m], .int .i64 0]) ∧ Below w.heap.size w w' := by
  have := inv_ok (7 - t) (12 - m) w l (by omega) (by omega) (by rw [show 7 - (7 - t) = t by omega, show 12 - (12 - m) = m by omega]; exact h)
  rwa [show 7 - (7 - t) = t by omega, show 12 - (12 - m) = m by omega] at this
set_option maxRecDepth 100000 in
set_option maxHeartbeats 2000000 in
theorem qlLaw_n (t m : Int) (w : World) (h : ¬ Iv t m) (ht : PT w) (hi : IT w) :
    Calls Tryd.prog 10 #[.agg #[.int .i64 t, .int .i64 m]] w fun e w' => e = .returned (.bool true) ∧ Below w.heap.size w w' := by
  have B0 := Lib.hid ((Bel.refl w).alloc (.cells #[.int .i64 t, .int .i64 m] 23))
  have T0 := Lib.hid (ht.below ((Below.refl _ _).alloc (Nat.le_refl _) (.cells #[.int .i64 t, .int .i64 m] 23)))
  have I0 := Lib.hid (hi.below ((Below.refl _ _).alloc (Nat.le_refl _) (.cells #[.int .i64 t, .int .i64 m] 23)))
  have X0 := Duo.new w (.int .i64 t) (.int .i64 m) 23 (w.heap.size) (by simp)
  have HP := Lib.hid h
  go_enter Tryd.func10, Tryd.ntmps10
  obtain ⟨xf0, xf1, xf2, xf3, xf4⟩ := id X0
  go_wp2_with fail
  clear xf0 xf1 xf2 xf3 xf4
  refine (quality_b t m _ HP.out).mono ?_
  rintro e w1 ⟨rfl, hb⟩
  have B1 := Lib.hid (B0.out.up hb)
  have T1 := Lib.hid (T0.out.below hb)
  have I1 := Lib.hid (I0.out.below hb)
  have X1 := X0.up hb
  clear hb B0 T0 I0 X0
  obtain ⟨xf0, xf1, xf2, xf3, xf4⟩ := id X1
  go_wp2_with fail
  clear xf0 xf1 xf2 xf3 xf4
  refine (simpleI_b t m _ HP.out).mono ?_
  rintro e w2 ⟨rfl, hb⟩
  have B2 := Lib.hid ((B1.out.up hb).alloc (.cells #[.int .i64 0, .int .i64 0] 23))
  have T2 := Lib.hid ((T1.out.below hb).below ((Below.refl _ _).alloc (Nat.le_refl _) (.cells #[.int .i64 0, .int .i64 0] 23)))
  have I2 := Lib.hid ((I1.out.below hb).below ((Below.refl _ _).alloc (Nat.le_refl _) (.cells #[.int .i64 0, .int .i64 0] 23)))
  have X2 := (X1.up hb).alloc (.cells #[.int .i64 0, .int .i64 0] 23)
  have S2 := Duo.new w2 (.int .i64 0) (.int .i64 0) 23 (w2.heap.size) (by simp)
  clear hb B1 T1 I1 X1
  obtain ⟨xf0, xf1, xf2, xf3, xf4⟩ := id X2
  obtain ⟨sf0, sf1, sf2, sf3, sf4⟩ := id S2
  go_wp2_with fail
  clear xf0 xf1 xf2 xf3 xf4 sf0 sf1 sf2 sf3 sf4
  refine (inv_b1 t m _ HP.out).mono ?_
  rintro e w3 ⟨rfl, hb⟩
  have B3 := Lib.hid ((B2.out.up hb).alloc (.cells #[.int .i64 0, .int .i64 0] 23))
  have T3 := Lib.hid ((T2.out.below hb).below ((Below.refl _ _).alloc (Nat.le_refl _) (.cells #[.int .i64 0, .int .i64 0] 23)))
  have I3 := Lib.hid ((I2.out.below hb).below ((Below.refl _ _).alloc (Nat.le_refl _) (.cells #[.int .i64 0, .int .i64 0] 23)))
  have X3 := (X2.up hb).alloc (.cells #[.int .i64 0, .int .i64 0] 23)
  have S3 := (S2.up hb).alloc (.cells #[.int .i64 0, .int .i64 0] 23)
  have V3 := Duo.new w3 (.int .i64 0) (.int .i64 0) 23 (w3.heap.size) (by simp)
  clear hb B2 T2 I2 X2 S2
  obtain ⟨xf0, xf1, xf2, xf3, xf4⟩ := id X3
  obtain ⟨sf0, sf1, sf2, sf3, sf4⟩ := id S3
  obtain ⟨vf0, vf1, vf2, vf3, vf4⟩ := id V3
  go_wp2_with fail
  clear xf0 xf1 xf2 xf3 xf4 sf0 sf1 sf2 sf3 sf4 vf0 vf1 vf2 vf3 vf4
  refine (known_any _ T3.out I3.out).mono ?_
  rintro e w4 ⟨rfl, hb⟩
  have B4 := Lib.hid (B3.out.up hb)
  have T4 := Lib.hid (T3.out.below hb)
  have I4 := Lib.hid (I3.out.below hb)
  have X4 := X3.up hb
  have S4 := S3.up hb
  have V4 := V3.up hb
  clear hb B3 T3 I3 X3 S3 V3
  obtain ⟨xf0, xf1, xf2, xf3, xf4⟩ := id X4
  obtain ⟨sf0, sf1, sf2, sf3, sf4⟩ := id S4
  obtain ⟨vf0, vf1, vf2, vf3, vf4⟩ := id V4
  go_wp2_with fail
  clear xf0 xf1 xf2 xf3 xf4 sf0 sf1 sf2 sf3 sf4 vf0 vf1 vf2 vf3 vf4
  refine (refIs_no t m _ HP.out).mono ?_
  rintro e w5 ⟨rfl, hb⟩
  have B5 := Lib.hid (B4.out.up hb)
  have T5 := Lib.hid (T4.out.below hb)
  have I5 := Lib.hid (I4.out.below hb)
  have X5 := X4.up hb
  have S5 := S4.up hb
  have V5 := V4.up hb
  clear hb B4 T4 I4 X4 S4 V4
  obtain ⟨xf0, xf1, xf2, xf3, xf4⟩ := id X5
  obtain ⟨sf0, sf1, sf2, sf3, sf4⟩ := id S5
  obtain ⟨vf0, vf1, vf2, vf3, vf4⟩ := id V5
  go_wp2_with fail
  go_ret
  exact ⟨by first | rfl | (simp; done), B5.out.out⟩
set_option maxRecDepth 100000 in
set_option maxHeartbeats 2000000 in
theorem qlLaw_1 (t m : Int) (w : World) (h : Iv t m) (k : t < 0) (ht : PT w) (hi : IT w) :
    Calls Tryd.prog 10 #[.agg #[.int .i64 t, .int .i64 m]] w fun e w' => e = .returned (.bool true) ∧ Below w.heap.size w w' := by
  have B0 := Lib.hid ((Bel.refl w).alloc (.cells #[.int .i64 t, .int .i64 m] 23))
  have T0 := Lib.hid (ht.below ((Below.refl _ _).alloc (Nat.le_refl _) (.cells #[.int .i64 t, .int .i64 m] 23)))
  have I0 := Lib.hid (hi.below ((Below.refl _ _).alloc (Nat.le_refl _) (.cells #[.int .i64 t, .int .i64 m] 23)))
  have X0 := Duo.new w (.int .i64 t) (.int .i64 m) 23 (w.heap.size) (by simp)
  have HP := Lib.hid h
  have KQ := fun v' hv => quality_any t m v' h hv
  have KR := fun v' => refQual_any t m v' h
  generalize qU t m = q at KQ KR
  have KS := fun v' => simpleI_ok t m v' h
  have KZ := fun v' => refSimp_any t m v' h
  generalize t - t.tdiv 7 * 7 = A at KS KZ
  generalize m - t.tdiv 7 * 12 = B at KS KZ
  generalize t.tdiv 7 = C at KS KZ
  replace KQ := Lib.hid KQ
  replace KR := Lib.hid KR
  replace KS := Lib.hid KS
  replace KZ := Lib.hid KZ
  have t0 := h.t0; have t1 := h.t1; have m0 := h.m0; have m1 := h.m1
  go_enter Tryd.func10, Tryd.ntmps10
  obtain ⟨xf0, xf1, xf2, xf3, xf4⟩ := id X0
  go_wp2_with fail
  clear xf0 xf1 xf2 xf3 xf4
  refine (KQ.out _ I0.out).mono ?_
  rintro e w1 ⟨rfl, hb⟩
  have B1 := Lib.hid (B0.out.up hb)
  have T1 := Lib.hid (T0.out.below hb)
  have I1 := Lib.hid (I0.out.below hb)
  have X1 := X0.up hb
  clear hb B0 T0 I0 X0
  obtain ⟨xf0, xf1, xf2, xf3, xf4⟩ := id X1
  go_wp2_with fail
  clear xf0 xf1 xf2 xf3 xf4
  refine (KS.out _).mono ?_
  rintro e w2 ⟨rfl, hb⟩
  have B2 := Lib.hid ((B1.out.up hb).alloc (.cells #[.int .i64 A, .int .i64 B] 23))
  have T2 := Lib.hid ((T1.out.below hb).below ((Below.refl _ _).alloc (Nat.le_refl _) (.cells #[.int .i64 A, .int .i64 B] 23)))
  have I2 := Lib.hid ((I1.out.below hb).below ((Below.refl _ _).alloc (Nat.le_refl _) (.cells #[.int .i64 A, .int .i64 B] 23)))
  have X2 := (X1.up hb).alloc (.cells #[.int .i64 A, .int .i64 B] 23)
  have S2 := Duo.new w2 (.int .i64 A) (.int .i64 B) 23 (w2.heap.size) (by simp)
  clear hb B1 T1 I1 X1
  obtain ⟨xf0, xf1, xf2, xf3, xf4⟩ := id X2
  obtain ⟨sf0, sf1, sf2, sf3, sf4⟩ := id S2
  go_wp2_with fail
  clear xf0 xf1 xf2 xf3 xf4 sf0 sf1 sf2 sf3 sf4
  refine (inv_b2 t m _ HP.out k).mono ?_
  rintro e w3 ⟨rfl, hb⟩
  have B3 := Lib.hid ((B2.out.up hb).alloc (.cells #[.int .i64 0, .int .i64 0] 23))
  have T3 := Lib.hid ((T2.out.below hb).below ((Below.refl _ _).alloc (Nat.le_refl _) (.cells #[.int .i64 0, .int .i64 0] 23)))
  have I3 := Lib.hid ((I2.out.below hb).below ((Below.refl _ _).alloc (Nat.le_refl _) (.cells #[.int .i64 0, .int .i64 0] 23)))
  have X3 := (X2.up hb).alloc (.cells #[.int .i64 0, .int .i64 0] 23)
  have S3 := (S2.up hb).alloc (.cells #[.int .i64 0, .int .i64 0] 23)
  have V3 := Duo.new w3 (.int .i64 0) (.int .i64 0) 23 (w3.heap.size) (by simp)
  clear hb B2 T2 I2 X2 S2
  obtain ⟨xf0, xf1, xf2, xf3, xf4⟩ := id X3
  obtain ⟨sf0, sf1, sf2, sf3, sf4⟩ := id S3
  obtain ⟨vf0, vf1, vf2, vf3, vf4⟩ := id V3
  go_wp2_with fail
  clear xf0 xf1 xf2 xf3 xf4 sf0 sf1 sf2 sf3 sf4 vf0 vf1 vf2 vf3 vf4
  refine (known_any _ T3.out I3.out).mono ?_
  rintro e w4 ⟨rfl, hb⟩
  have B4 := Lib.hid (B3.out.up hb)
  have T4 := Lib.hid (T3.out.below hb)
  have I4 := Lib.hid (I3.out.below hb)
  have X4 := X3.up hb
  have S4 := S3.up hb
  have V4 := V3.up hb
  clear hb B3 T3 I3 X3 S3 V3
  obtain ⟨xf0, xf1, xf2, xf3, xf4⟩ := id X4
  obtain ⟨sf0, sf1, sf2, sf3, sf4⟩ := id S4
  obtain ⟨vf0, vf1, vf2, vf3, vf4⟩ := id V4
  go_wp2_with fail
  clear xf0 xf1 xf2 xf3 xf4 sf0 sf1 sf2 sf3 sf4 vf0 vf1 vf2 vf3 vf4
  refine (refIs_yes t m _ HP.out).mono ?_
  rintro e w5 ⟨rfl, hb⟩
  have B5 := Lib.hid (B4.out.up hb)
  have T5 := Lib.hid (T4.out.below hb)
  have I5 := Lib.hid (I4.out.below hb)
  have X5 := X4.up hb
  have S5 := S4.up hb
  have V5 := V4.up hb
  clear hb B4 T4 I4 X4 S4 V4
  obtain ⟨xf0, xf1, xf2, xf3, xf4⟩ := id X5
  obtain ⟨sf0, sf1, sf2, sf3, sf4⟩ := id S5
  obtain ⟨vf0, vf1, vf2, vf3, vf4⟩ := id V5
  go_wp2_with fail
  clear xf0 xf1 xf2 xf3 xf4 sf0 sf1 sf2 sf3 sf4 vf0 vf1 vf2 vf3 vf4
  refine (KR.out _).mono ?_
  rintro e w6 ⟨rfl, hb⟩
  have B6 := Lib.hid (B5.out.up hb)
  have T6 := Lib.hid (T5.out.below hb)
  have I6 := Lib.hid (I5.out.below hb)
  have X6 := X5.up hb
  have S6 := S5.up hb
  have V6 := V5.up hb
  clear hb B5 T5 I5 X5 S5 V5
  obtain ⟨xf0, xf1, xf2, xf3, xf4⟩ := id X6
  obtain ⟨sf0, sf1, sf2, sf3, sf4⟩ := id S6
  obtain ⟨vf0, vf1, vf2, vf3, vf4⟩ := id V6
  go_wp2_with fail
  clear xf0 xf1 xf2 xf3 xf4 sf0 sf1 sf2 sf3 sf4 vf0 vf1 vf2 vf3 vf4
  refine (KZ.out _).mono ?_
  rintro e w7 ⟨rfl, hb⟩
  have B7 := Lib.hid ((B6.out.up hb).alloc (.cells #[.int .i64 A, .int .i64 B] 23))
  have T7 := Lib.hid ((T6.out.below hb).below ((Below.refl _ _).alloc (Nat.le_refl _) (.cells #[.int .i64 A, .int .i64 B] 23)))
  have I7 := Lib.hid ((I6.out.below hb).below ((Below.refl _ _).alloc (Nat.le_refl _) (.cells #[.int .i64 A, .int .i64 B] 23)))
  have X7 := (X6.up hb).alloc (.cells #[.int .i64 A, .int .i64 B] 23)
  have S7 := (S6.up hb).alloc (.cells #[.int .i64 A, .int .i64 B] 23)
  have V7 := (V6.up hb).alloc (.cells #[.int .i64 A, .int .i64 B] 23)
  have Z7 := Duo.new w7 (.int .i64 A) (.int .i64 B) 23 (w7.heap.size) (by simp)
  clear hb B6 T6 I6 X6 S6 V6
  obtain ⟨xf0, xf1, xf2, xf3, xf4⟩ := id X7
  obtain ⟨sf0, sf1, sf2, sf3, sf4⟩ := id S7
  obtain ⟨vf0, vf1, vf2, vf3, vf4⟩ := id V7
  obtain ⟨zf0, zf1, zf2, zf3, zf4⟩ := id Z7
  have B8 := Lib.hid (B7.out.alloc (.cells #[.int .i64 (7 - t), .int .i64 (12 - m)] 23))
  have T8 := Lib.hid (T7.out.below ((Below.refl _ _).alloc (Nat.le_refl _) (.cells #[.int .i64 (7 - t), .int .i64 (12 - m)] 23)))
  have I8 := Lib.hid (I7.out.below ((Below.refl _ _).alloc (Nat.le_refl _) (.cells #[.int .i64 (7 - t), .int .i64 (12 - m)] 23)))
  have X8 := X7.alloc (.cells #[.int .i64 (7 - t), .int .i64 (12 - m)] 23)
  obtain ⟨xk0, xk1, xk2, xk3, xk4⟩ := id X8
  have S8 := S7.alloc (.cells #[.int .i64 (7 - t), .int .i64 (12 - m)] 23)
  obtain ⟨sk0, sk1, sk2, sk3, sk4⟩ := id S8
  have V8 := V7.alloc (.cells #[.int .i64 (7 - t), .int .i64 (12 - m)] 23)
  obtain ⟨vk0, vk1, vk2, vk3, vk4⟩ := id V8
  have Z8 := Z7.alloc (.cells #[.int .i64 (7 - t), .int .i64 (12 - m)] 23)
  obtain ⟨zk0, zk1, zk2, zk3, zk4⟩ := id Z8
  have W8 := Duo.new (w7.alloc (.cells #[.int .i64 A, .int .i64 B] 23)) (.int .i64 (7 - t)) (.int .i64 (12 - m)) 23 (w7.heap.size + 1) (by simp)
  clear B7 T7 I7 X7 S7 V7 Z7
  obtain ⟨wf0, wf1, wf2, wf3, wf4⟩ := id W8
  go_wp2_with fail
  go_ret
  exact ⟨by first | rfl | (simp; done), B8.out.out⟩
set_option maxRecDepth 100000 in
set_option maxHeartbeats 2000000 in
theorem qlLaw_2 (t m : Int) (w : World) (h : Iv t m) (k : 7 < t) (ht : PT w) (hi : IT w) :
    Calls Tryd.prog 10 #[.agg #[.int .i64 t, .int .i64 m]] w fun e w' => e = .returned (.bool true) ∧ Below w.heap.size w w' := by
  have B0 := Lib.hid ((Bel.refl w).alloc (.cells #[.int .i64 t, .int .i64 m] 23))
  have T0 := Lib.hid (ht.below ((Below.refl _ _).alloc (Nat.le_refl _) (.cells #[.int .i64 t, .int .i64 m] 23)))
  have I0 := Lib.hid (hi.below ((Below.refl _ _).alloc (Nat.le_refl _) (.cells #[.int .i64 t, .int .i64 m] 23)))
  have X0 := Duo.new w (.int .i64 t) (.int .i64 m) 23 (w.heap.size) (by simp)
  have HP := Lib.hid h
  have KQ := fun v' hv => quality_any t m v' h hv
  have KR := fun v' => refQual_any t m v' h
  generalize qU t m = q at KQ KR
  have KS := fun v' => simpleI_ok t m v' h
  have KZ := fun v' => refSimp_any t m v' h
  generalize t - t.tdiv 7 * 7 = A at KS KZ
  generalize m - t.tdiv 7 * 12 = B at KS KZ
  generalize t.tdiv 7 = C at KS KZ
  replace KQ := Lib.hid KQ
  replace KR := Lib.hid KR
  replace KS := Lib.hid KS
  replace KZ := Lib.hid KZ
  have t0 := h.t0; have t1 := h.t1; have m0 := h.m0; have m1 := h.m1
  go_enter Tryd.func10, Tryd.ntmps10
  obtain ⟨xf0, xf1, xf2, xf3, xf4⟩ := id X0
  go_wp2_with fail
  clear xf0 xf1 xf2 xf3 xf4
  refine (KQ.out _ I0.out).mono ?_
  rintro e w1 ⟨rfl, hb⟩
  have B1 := Lib.hid (B0.out.up hb)
  have T1 := Lib.hid (T0.out.below hb)
  have I1 := Lib.hid (I0.out.below hb)
  have X1 := X0.up hb
  clear hb B0 T0 I0 X0
  obtain ⟨xf0, xf1, xf2, xf3, xf4⟩ := id X1
  go_wp2_with fail
  clear xf0 xf1 xf2 xf3 xf4
  refine (KS.out _).mono ?_
  rintro e w2 ⟨rfl, hb⟩
  have B2 := Lib.hid ((B1.out.up hb).alloc (.cells #[.int .i64 A, .int .i64 B] 23))
  have T2 := Lib.hid ((T1.out.below hb).below ((Below.refl _ _).alloc (Nat.le_refl _) (.cells #[.int .i64 A, .int .i64 B] 23)))
  have I2 := Lib.hid ((I1.out.below hb).below ((Below.refl _ _).alloc (Nat.le_refl _) (.cells #[.int .i64 A, .int .i64 B] 23)))
  have X2 := (X1.up hb).alloc (.cells #[.int .i64 A, .int .i64 B] 23)
  have S2 := Duo.new w2 (.int .i64 A) (.int .i64 B) 23 (w2.heap.size) (by simp)
  clear hb B1 T1 I1 X1
  obtain ⟨xf0, xf1, xf2, xf3, xf4⟩ := id X2
  obtain ⟨sf0, sf1, sf2, sf3, sf4⟩ := id S2
  go_wp2_with fail
  clear xf0 xf1 xf2 xf3 xf4 sf0 sf1 sf2 sf3 sf4
  refine (inv_b3 t m _ HP.out k).mono ?_
  rintro e w3 ⟨rfl, hb⟩
  have B3 := Lib.hid ((B2.out.up hb).alloc (.cells #[.int .i64 0, .int .i64 0] 23))
  have T3 := Lib.hid ((T2.out.below hb).below ((Below.refl _ _).alloc (Nat.le_refl _) (.cells #[.int .i64 0, .int .i64 0] 23)))
  have I3 := Lib.hid ((I2.out.below hb).below ((Below.refl _ _).alloc (Nat.le_refl _) (.cells #[.int .i64 0, .int .i64 0] 23)))
  have X3 := (X2.up hb).alloc (.cells #[.int .i64 0, .int .i64 0] 23)
  have S3 := (S2.up hb).alloc (.cells #[.int .i64 0, .int .i64 0] 23)
  have V3 := Duo.new w3 (.int .i64 0) (.int .i64 0) 23 (w3.heap.size) (by simp)
  clear hb B2 T2 I2 X2 S2
  obtain ⟨xf0, xf1, xf2, xf3, xf4⟩ := id X3
  obtain ⟨sf0, sf1, sf2, sf3, sf4⟩ := id S3
  obtain ⟨vf0, vf1, vf2, vf3, vf4⟩ := id V3
  go_wp2_with fail
  clear xf0 xf1 xf2 xf3 xf4 sf0 sf1 sf2 sf3 sf4 vf0 vf1 vf2 vf3 vf4
  refine (known_any _ T3.out I3.out).mono ?_
  rintro e w4 ⟨rfl, hb⟩
  have B4 := Lib.hid (B3.out.up hb)
  have T4 := Lib.hid (T3.out.below hb)
  have I4 := Lib.hid (I3.out.below hb)
  have X4 := X3.up hb
  have S4 := S3.up hb
  have V4 := V3.up hb
  clear hb B3 T3 I3 X3 S3 V3
  obtain ⟨xf0, xf1, xf2, xf3, xf4⟩ := id X4
  obtain ⟨sf0, sf1, sf2, sf3, sf4⟩ := id S4
  obtain ⟨vf0, vf1, vf2, vf3, vf4⟩ := id V4
  go_wp2_with fail
  clear xf0 xf1 xf2 xf3 xf4 sf0 sf1 sf2 sf3 sf4 vf0 vf1 vf2 vf3 vf4
  refine (refIs_yes t m _ HP.out).mono ?_
  rintro e w5 ⟨rfl, hb⟩
  have B5 := Lib.hid (B4.out.up hb)
  have T5 := Lib.hid (T4.out.below hb)
  have I5 := Lib.hid (I4.out.below hb)
  have X5 := X4.up hb
  have S5 := S4.up hb
  have V5 := V4.up hb
  clear hb B4 T4 I4 X4 S4 V4
  obtain ⟨xf0, xf1, xf2, xf3, xf4⟩ := id X5
  obtain ⟨sf0, sf1, sf2, sf3, sf4⟩ := id S5
  obtain ⟨vf0, vf1, vf2, vf3, vf4⟩ := id V5
  go_wp2_with fail
  clear xf0 xf1 xf2 xf3 xf4 sf0 sf1 sf2 sf3 sf4 vf0 vf1 vf2 vf3 vf4
  refine (KR.out _).mono ?_
  rintro e w6 ⟨rfl, hb⟩
  have B6 := Lib.hid (B5.out.up hb)
  have T6 := Lib.hid (T5.out.below hb)
  have I6 := Lib.hid (I5.out.below hb)
  have X6 := X5.up hb
  have S6 := S5.up hb
  have V6 := V5.up hb
  clear hb B5 T5 I5 X5 S5 V5
  obtain ⟨xf0, xf1, xf2, xf3, xf4⟩ := id X6
  obtain ⟨sf0, sf1, sf2, sf3, sf4⟩ := id S6
  obtain ⟨vf0, vf1, vf2, vf3, vf4⟩ := id V6
  go_wp2_with fail
  clear xf0 xf1 xf2 xf3 xf4 sf0 sf1 sf2 sf3 sf4 vf0 vf1 vf2 vf3 vf4
  refine (KZ.out _).mono ?_
  rintro e w7 ⟨rfl, hb⟩
  have B7 := Lib.hid ((B6.out.up hb).alloc (.cells #[.int .i64 A, .int .i64 B] 23))
  have T7 := Lib.hid ((T6.out.below hb).below ((Below.refl _ _).alloc (Nat.le_refl _) (.cells #[.int .i64 A, .int .i64 B] 23)))
  have I7 := Lib.hid ((I6.out.below hb).below ((Below.refl _ _).alloc (Nat.le_refl _) (.cells #[.int .i64 A, .int .i64 B] 23)))
  have X7 := (X6.up hb).alloc (.cells #[.int .i64 A, .int .i64 B] 23)
  have S7 := (S6.up hb).alloc (.cells #[.int .i64 A, .int .i64 B] 23)
  have V7 := (V6.up hb).alloc (.cells #[.int .i64 A, .int .i64 B] 23)
  have Z7 := Duo.new w7 (.int .i64 A) (.int .i64 B) 23 (w7.heap.size) (by simp)
  clear hb B6 T6 I6 X6 S6 V6
  obtain ⟨xf0, xf1, xf2, xf3, xf4⟩ := id X7
  obtain ⟨sf0, sf1, sf2, sf3, sf4⟩ := id S7
  obtain ⟨vf0, vf1, vf2, vf3, vf4⟩ := id V7
  obtain ⟨zf0, zf1, zf2, zf3, zf4⟩ := id Z7
  have B8 := Lib.hid (B7.out.alloc (.cells #[.int .i64 (7 - t), .int .i64 (12 - m)] 23))
  have T8 := Lib.hid (T7.out.below ((Below.refl _ _).alloc (Nat.le_refl _) (.cells #[.int .i64 (7 - t), .int .i64 (12 - m)] 23)))
  have I8 := Lib.hid (I7.out.below ((Below.refl _ _).alloc (Nat.le_refl _) (.cells #[.int .i64 (7 - t), .int .i64 (12 - m)] 23)))
  have X8 := X7.alloc (.cells #[.int .i64 (7 - t), .int .i64 (12 - m)] 23)
  obtain ⟨xk0, xk1, xk2, xk3, xk4⟩ := id X8
  have S8 := S7.alloc (.cells #[.int .i64 (7 - t), .int .i64 (12 - m)] 23)
  obtain ⟨sk0, sk1, sk2, sk3, sk4⟩ := id S8
  have V8 := V7.alloc (.cells #[.int .i64 (7 - t), .int .i64 (12 - m)] 23)
  obtain ⟨vk0, vk1, vk2, vk3, vk4⟩ := id V8
  have Z8 := Z7.alloc (.cells #[.int .i64 (7 - t), .int .i64 (12 - m)] 23)
  obtain ⟨zk0, zk1, zk2, zk3, zk4⟩ := id Z8
  have W8 := Duo.new (w7.alloc (.cells #[.int .i64 A, .int .i64 B] 23)) (.int .i64 (7 - t)) (.int .i64 (12 - m)) 23 (w7.heap.size + 1) (by simp)
  clear B7 T7 I7 X7 S7 V7 Z7
  obtain ⟨wf0, wf1, wf2, wf3, wf4⟩ := id W8
  go_wp2_with fail
  go_ret
  exact ⟨by first | rfl | (simp; done), B8.out.out⟩
set_option maxRecDepth 100000 in
set_option maxHeartbeats 2000000 in
theorem qlLaw_3 (t m : Int) (w : World) (h : Iv t m) (k0 : 0 ≤ t) (k1 : t ≤ 7) (l : ¬ Iv (7 - t) (12 - m)) (ht : PT w) (hi : IT w) :
    Calls Tryd.prog 10 #[.agg #[.int .i64 t, .int .i64 m]] w fun e w' => e = .returned (.bool true) ∧ Below w.heap.size w w' := by
  have B0 := Lib.hid ((Bel.refl w).alloc (.cells #[.int .i64 t, .int .i64 m] 23))
  have T0 := Lib.hid (ht.below ((Below.refl _ _).alloc (Nat.le_refl _) (.cells #[.int .i64 t, .int .i64 m] 23)))
  have I0 := Lib.hid (hi.below ((Below.refl _ _).alloc (Nat.le_refl _) (.cells #[.int .i64 t, .int .i64 m] 23)))
  have X0 := Duo.new w (.int .i64 t) (.int .i64 m) 23 (w.heap.size) (by simp)
  have HP := Lib.hid h
  have KQ := fun v' hv => quality_any t m v' h hv
  have KR := fun v' => refQual_any t m v' h
  generalize qU t m = q at KQ KR
  have KS := fun v' => simpleI_ok t m v' h
  have KZ := fun v' => refSimp_any t m v' h
  generalize t - t.tdiv 7 * 7 = A at KS KZ
  generalize m - t.tdiv 7 * 12 = B at KS KZ
  generalize t.tdiv 7 = C at KS KZ
  replace KQ := Lib.hid KQ
  replace KR := Lib.hid KR
  replace KS := Lib.hid KS
  replace KZ := Lib.hid KZ
  have t0 := h.t0; have t1 := h.t1; have m0 := h.m0; have m1 := h.m1
  have HL := Lib.hid l
  clear l
  go_enter Tryd.func10, Tryd.ntmps10
  obtain ⟨xf0, xf1, xf2, xf3, xf4⟩ := id X0
  go_wp2_with fail
  clear xf0 xf1 xf2 xf3 xf4
  refine (KQ.out _ I0.out).mono ?_
  rintro e w1 ⟨rfl, hb⟩
  have B1 := Lib.hid (B0.out.up hb)
  have T1 := Lib.hid (T0.out.below hb)
  have I1 := Lib.hid (I0.out.below hb)
  have X1 := X0.up hb
  clear hb B0 T0 I0 X0
  obtain ⟨xf0, xf1, xf2, xf3, xf4⟩ := id X1
  go_wp2_with fail
  clear xf0 xf1 xf2 xf3 xf4
  refine (KS.out _).mono ?_
  rintro e w2 ⟨rfl, hb⟩
  have B2 := Lib.hid ((B1.out.up hb).alloc (.cells #[.int .i64 A, .int .i64 B] 23))
  have T2 := Lib.hid ((T1.out.below hb).below ((Below.refl _ _).alloc (Nat.le_refl _) (.cells #[.int .i64 A, .int .i64 B] 23)))
  have I2 := Lib.hid ((I1.out.below hb).below ((Below.refl _ _).alloc (Nat.le_refl _) (.cells #[.int .i64 A, .int .i64 B] 23)))
  have X2 := (X1.up hb).alloc (.cells #[.int .i64 A, .int .i64 B] 23)
  have S2 := Duo.new w2 (.int .i64 A) (.int .i64 B) 23 (w2.heap.size) (by simp)
  clear hb B1 T1 I1 X1
  obtain ⟨xf0, xf1, xf2, xf3, xf4⟩ := id X2
  obtain ⟨sf0, sf1, sf2, sf3, sf4⟩ := id S2
  go_wp2_with fail
  clear xf0 xf1 xf2 xf3 xf4 sf0 sf1 sf2 sf3 sf4
  refine (inv_b4 t m _ HP.out k0 k1 HL.out).mono ?_
  rintro e w3 ⟨rfl, hb⟩
  have B3 := Lib.hid ((B2.out.up hb).alloc (.cells #[.int .i64 0, .int .i64 0] 23))
  have T3 := Lib.hid ((T2.out.below hb).below ((Below.refl _ _).alloc (Nat.le_refl _) (.cells #[.int .i64 0, .int .i64 0] 23)))
  have I3 := Lib.hid ((I2.out.below hb).below ((Below.refl _ _).alloc (Nat.le_refl _) (.cells #[.int .i64 0, .int .i64 0] 23)))
  have X3 := (X2.up hb).alloc (.cells #[.int .i64 0, .int .i64 0] 23)
  have S3 := (S2.up hb).alloc (.cells #[.int .i64 0, .int .i64 0] 23)
  have V3 := Duo.new w3 (.int .i64 0) (.int .i64 0) 23 (w3.heap.size) (by simp)
  clear hb B2 T2 I2 X2 S2
  obtain ⟨xf0, xf1, xf2, xf3, xf4⟩ := id X3
  obtain ⟨sf0, sf1, sf2, sf3, sf4⟩ := id S3
  obtain ⟨vf0, vf1, vf2, vf3, vf4⟩ := id V3
  go_wp2_with fail
  clear xf0 xf1 xf2 xf3 xf4 sf0 sf1 sf2 sf3 sf4 vf0 vf1 vf2 vf3 vf4
  refine (known_any _ T3.out I3.out).mono ?_
  rintro e w4 ⟨rfl, hb⟩
  have B4 := Lib.hid (B3.out.up hb)
  have T4 := Lib.hid (T3.out.below hb)
  have I4 := Lib.hid (I3.out.below hb)
  have X4 := X3.up hb
  have S4 := S3.up hb
  have V4 := V3.up hb
  clear hb B3 T3 I3 X3 S3 V3
  obtain ⟨xf0, xf1, xf2, xf3, xf4⟩ := id X4
  obtain ⟨sf0, sf1, sf2, sf3, sf4⟩ := id S4
  obtain ⟨vf0, vf1, vf2, vf3, vf4⟩ := id V4
  go_wp2_with fail
  clear xf0 xf1 xf2 xf3 xf4 sf0 sf1 sf2 sf3 sf4 vf0 vf1 vf2 vf3 vf4
  refine (refIs_yes t m _ HP.out).mono ?_
  rintro e w5 ⟨rfl, hb⟩
  have B5 := Lib.hid (B4.out.up hb)
  have T5 := Lib.hid (T4.out.below hb)
  have I5 := Lib.hid (I4.out.below hb)
  have X5 := X4.up hb
  have S5 := S4.up hb
  have V5 := V4.up hb
  clear hb B4 T4 I4 X4 S4 V4
  obtain ⟨xf0, xf1, xf2, xf3, xf4⟩ := id X5
  obtain ⟨sf0, sf1, sf2, sf3, sf4⟩ := id S5
  obtain ⟨vf0, vf1, vf2, vf3, vf4⟩ := id V5
  go_wp2_with fail
  clear xf0 xf1 xf2 xf3 xf4 sf0 sf1 sf2 sf3 sf4 vf0 vf1 vf2 vf3 vf4
  refine (KR.out _).mono ?_
  rintro e w6 ⟨rfl, hb⟩
  have B6 := Lib.hid (B5.out.up hb)
  have T6 := Lib.hid (T5.out.below hb)
  have I6 := Lib.hid (I5.out.below hb)
  have X6 := X5.up hb
  have S6 := S5.up hb
  have V6 := V5.up hb
  clear hb B5 T5 I5 X5 S5 V5
  obtain ⟨xf0, xf1, xf2, xf3, xf4⟩ := id X6
  obtain ⟨sf0, sf1, sf2, sf3, sf4⟩ := id S6
  obtain ⟨vf0, vf1, vf2, vf3, vf4⟩ := id V6
  go_wp2_with fail
  clear xf0 xf1 xf2 xf3 xf4 sf0 sf1 sf2 sf3 sf4 vf0 vf1 vf2 vf3 vf4
  refine (KZ.out _).mono ?_
  rintro e w7 ⟨rfl, hb⟩
  have B7 := Lib.hid ((B6.out.up hb).alloc (.cells #[.int .i64 A, .int .i64 B] 23))
  have T7 := Lib.hid ((T6.out.below hb).below ((Below.refl _ _).alloc (Nat.le_refl _) (.cells #[.int .i64 A, .int .i64 B] 23)))
  have I7 := Lib.hid ((I6.out.below hb).below ((Below.refl _ _).alloc (Nat.le_refl _) (.cells #[.int .i64 A, .int .i64 B] 23)))
  have X7 := (X6.up hb).alloc (.cells #[.int .i64 A, .int .i64 B] 23)
  have S7 := (S6.up hb).alloc (.cells #[.int .i64 A, .int .i64 B] 23)
  have V7 := (V6.up hb).alloc (.cells #[.int .i64 A, .int .i64 B] 23)
  have Z7 := Duo.new w7 (.int .i64 A) (.int .i64 B) 23 (w7.heap.size) (by simp)
  clear hb B6 T6 I6 X6 S6 V6
  obtain ⟨xf0, xf1, xf2, xf3, xf4⟩ := id X7
  obtain ⟨sf0, sf1, sf2, sf3, sf4⟩ := id S7
  obtain ⟨vf0, vf1, vf2, vf3, vf4⟩ := id V7
  obtain ⟨zf0, zf1, zf2, zf3, zf4⟩ := id Z7
  have B8 := Lib.hid (B7.out.alloc (.cells #[.int .i64 (7 - t), .int .i64 (12 - m)] 23))
  have T8 := Lib.hid (T7.out.below ((Below.refl _ _).alloc (Nat.le_refl _) (.cells #[.int .i64 (7 - t), .int .i64 (12 - m)] 23)))
  have I8 := Lib.hid (I7.out.below ((Below.refl _ _).alloc (Nat.le_refl _) (.cells #[.int .i64 (7 - t), .int .i64 (12 - m)] 23)))
  have X8 := X7.alloc (.cells #[.int .i64 (7 - t), .int .i64 (12 - m)] 23)
  obtain ⟨xk0, xk1, xk2, xk3, xk4⟩ := id X8
  have S8 := S7.alloc (.cells #[.int .i64 (7 - t), .int .i64 (12 - m)] 23)
  obtain ⟨sk0, sk1, sk2, sk3, sk4⟩ := id S8
  have V8 := V7.alloc (.cells #[.int .i64 (7 - t), .int .i64 (12 - m)] 23)
  obtain ⟨vk0, vk1, vk2, vk3, vk4⟩ := id V8
  have Z8 := Z7.alloc (.cells #[.int .i64 (7 - t), .int .i64 (12 - m)] 23)
  obtain ⟨zk0, zk1, zk2, zk3, zk4⟩ := id Z8
  have W8 := Duo.new (w7.alloc (.cells #[.int .i64 A, .int .i64 B] 23)) (.int .i64 (7 - t)) (.int .i64 (12 - m)) 23 (w7.heap.size + 1) (by simp)
  clear B7 T7 I7 X7 S7 V7 Z7
  obtain ⟨wf0, wf1, wf2, wf3, wf4⟩ := id W8
  go_wp2_with fail
  clear xf0 xf1 xf2 xf3 xf4 sf0 sf1 sf2 sf3 sf4 vf0 vf1 vf2 vf3 vf4 zf0 zf1 zf2 zf3 zf4 wf0 wf1 wf2 wf3 wf4 xk0 xk1 xk2 xk3 xk4 sk0 sk1 sk2 sk3 sk4 vk0 vk1 vk2 vk3 vk4 zk0 zk1 zk2 zk3 zk4
  refine (refIs_no (7 - t) (12 - m) _ HL.out).mono ?_
  rintro e w9 ⟨rfl, hb⟩
  have B9 := Lib.hid (B8.out.up hb)
  have T9 := Lib.hid (T8.out.below hb)
  have I9 := Lib.hid (I8.out.below hb)
  have X9 := X8.up hb
  have S9 := S8.up hb
  have V9 := V8.up hb
  have Z9 := Z8.up hb
  have W9 := W8.up hb
  clear hb B8 T8 I8 X8 S8 V8 Z8 W8
  obtain ⟨xf0, xf1, xf2, xf3, xf4⟩ := id X9
  obtain ⟨sf0, sf1, sf2, sf3, sf4⟩ := id S9
  obtain ⟨vf0, vf1, vf2, vf3, vf4⟩ := id V9
  obtain ⟨zf0, zf1, zf2, zf3, zf4⟩ := id Z9
  obtain ⟨wf0, wf1, wf2, wf3, wf4⟩ := id W9
  go_wp2_with fail
  go_ret
  exact ⟨by first | rfl | (simp; done), B9.out.out⟩
set_option maxRecDepth 100000 in
set_option maxHeartbeats 2000000 in
theorem qlLaw_4 (t m : Int) (w : World) (h : Iv t m) (k0 : 0 ≤ t) (k1 : t ≤ 7) (l : Iv (7 - t) (12 - m)) (ht : PT w) (hi : IT w) :
    Calls Tryd.prog 10 #[.agg #[.int .i64 t, .int .i64 m]] w fun e w' => e = .returned (.bool true) ∧ Below w.heap.size w w' := by
  have B0 := Lib.hid ((Bel.refl w).alloc (.cells #[.int .i64 t, .int .i64 m] 23))
  have T0 := Lib.hid (ht.below ((Below.refl _ _).alloc (Nat.le_refl _) (.cells #[.int .i64 t, .int .i64 m] 23)))
  have I0 := Lib.hid (hi.below ((Below.refl _ _).alloc (Nat.le_refl _) (.cells #[.int .i64 t, .int .i64 m] 23)))
  have X0 := Duo.new w (.int .i64 t) (.int .i64 m) 23 (w.heap.size) (by simp)
  have HP := Lib.hid h
  have KQ := fun v' hv => quality_any t m v' h hv
  have KR := fun v' => refQual_any t m v' h
  generalize qU t m = q at KQ KR
  have KS := fun v' => simpleI_ok t m v' h
  have KZ := fun v' => refSimp_any t m v' h
  generalize t - t.tdiv 7 * 7 = A at KS KZ
  generalize m - t.tdiv 7 * 12 = B at KS KZ
  generalize t.tdiv 7 = C at KS KZ
  replace KQ := Lib.hid KQ
  replace KR := Lib.hid KR
  replace KS := Lib.hid KS
  replace KZ := Lib.hid KZ
  have t0 := h.t0; have t1 := h.t1; have m0 := h.m0; have m1 := h.m1
  have HL := Lib.hid l
  clear l
  go_enter Tryd.func10, Tryd.ntmps10
  obtain ⟨xf0, xf1, xf2, xf3, xf4⟩ := id X0
  go_wp2_with fail
  clear xf0 xf1 xf2 xf3 xf4
  refine (KQ.out _ I0.out).mono ?_
  rintro e w1 ⟨rfl, hb⟩
  have B1 := Lib.hid (B0.out.up hb)
  have T1 := Lib.hid (T0.out.below hb)
  have I1 := Lib.hid (I0.out.below hb)
  have X1 := X0.up hb
  clear hb B0 T0 I0 X0
  obtain ⟨xf0, xf1, xf2, xf3, xf4⟩ := id X1
  go_wp2_with fail
  clear xf0 xf1 xf2 xf3 xf4
  refine (KS.out _).mono ?_
  rintro e w2 ⟨rfl, hb⟩
  have B2 := Lib.hid ((B1.out.up hb).alloc (.cells #[.int .i64 A, .int .i64 B] 23))
  have T2 := Lib.hid ((T1.out.below hb).below ((Below.refl _ _).alloc (Nat.le_refl _) (.cells #[.int .i64 A, .int .i64 B] 23)))
  have I2 := Lib.hid ((I1.out.below hb).below ((Below.refl _ _).alloc (Nat.le_refl _) (.cells #[.int .i64 A, .int .i64 B] 23)))
  have X2 := (X1.up hb).alloc (.cells #[.int .i64 A, .int .i64 B] 23)
  have S2 := Duo.new w2 (.int .i64 A) (.int .i64 B) 23 (w2.heap.size) (by simp)
  clear hb B1 T1 I1 X1
  obtain ⟨xf0, xf1, xf2, xf3, xf4⟩ := id X2
  obtain ⟨sf0, sf1, sf2, sf3, sf4⟩ := id S2
  go_wp2_with fail
  clear xf0 xf1 xf2 xf3 xf4 sf0 sf1 sf2 sf3 sf4
  refine (inv_ok t m _ HP.out k0 k1 HL.out).mono ?_
  rintro e w3 ⟨rfl, hb⟩
  have B3 := Lib.hid ((B2.out.up hb).alloc (.cells #[.int .i64 (7 - t), .int .i64 (12 - m)] 23))
  have T3 := Lib.hid ((T2.out.below hb).below ((Below.refl _ _).alloc (Nat.le_refl _) (.cells #[.int .i64 (7 - t), .int .i64 (12 - m)] 23)))
  have I3 := Lib.hid ((I2.out.below hb).below ((Below.refl _ _).alloc (Nat.le_refl _) (.cells #[.int .i64 (7 - t), .int .i64 (12 - m)] 23)))
  have X3 := (X2.up hb).alloc (.cells #[.int .i64 (7 - t), .int .i64 (12 - m)] 23)
  have S3 := (S2.up hb).alloc (.cells #[.int .i64 (7 - t), .int .i64 (12 - m)] 23)
  have V3 := Duo.new w3 (.int .i64 (7 - t)) (.int .i64 (12 - m)) 23 (w3.heap.size) (by simp)
  clear hb B2 T2 I2 X2 S2
  obtain ⟨xf0, xf1, xf2, xf3, xf4⟩ := id X3
  obtain ⟨sf0, sf1, sf2, sf3, sf4⟩ := id S3
  obtain ⟨vf0, vf1, vf2, vf3, vf4⟩ := id V3
  go_wp2_with fail
  clear xf0 xf1 xf2 xf3 xf4 sf0 sf1 sf2 sf3 sf4 vf0 vf1 vf2 vf3 vf4
  refine (known_any _ T3.out I3.out).mono ?_
  rintro e w4 ⟨rfl, hb⟩
  have B4 := Lib.hid (B3.out.up hb)
  have T4 := Lib.hid (T3.out.below hb)
  have I4 := Lib.hid (I3.out.below hb)
  have X4 := X3.up hb
  have S4 := S3.up hb
  have V4 := V3.up hb
  clear hb B3 T3 I3 X3 S3 V3
  obtain ⟨xf0, xf1, xf2, xf3, xf4⟩ := id X4
  obtain ⟨sf0, sf1, sf2, sf3, sf4⟩ := id S4
  obtain ⟨vf0, vf1, vf2, vf3, vf4⟩ := id V4
  go_wp2_with fail
  clear xf0 xf1 xf2 xf3 xf4 sf0 sf1 sf2 sf3 sf4 vf0 vf1 vf2 vf3 vf4
  refine (refIs_yes t m _ HP.out).mono ?_
  rintro e w5 ⟨rfl, hb⟩
  have B5 := Lib.hid (B4.out.up hb)
  have T5 := Lib.hid (T4.out.below hb)
  have I5 := Lib.hid (I4.out.below hb)
  have X5 := X4.up hb
  have S5 := S4.up hb
  have V5 := V4.up hb
  clear hb B4 T4 I4 X4 S4 V4
  obtain ⟨xf0, xf1, xf2, xf3, xf4⟩ := id X5
  obtain ⟨sf0, sf1, sf2, sf3, sf4⟩ := id S5
  obtain ⟨vf0, vf1, vf2, vf3, vf4⟩ := id V5
  go_wp2_with fail
  clear xf0 xf1 xf2 xf3 xf4 sf0 sf1 sf2 sf3 sf4 vf0 vf1 vf2 vf3 vf4
  refine (KR.out _).mono ?_
  rintro e w6 ⟨rfl, hb⟩
  have B6 := Lib.hid (B5.out.up hb)
  have T6 := Lib.hid (T5.out.below hb)
  have I6 := Lib.hid (I5.out.below hb)
  have X6 := X5.up hb
  have S6 := S5.up hb
  have V6 := V5.up hb
  clear hb B5 T5 I5 X5 S5 V5
  obtain ⟨xf0, xf1, xf2, xf3, xf4⟩ := id X6
  obtain ⟨sf0, sf1, sf2, sf3, sf4⟩ := id S6
  obtain ⟨vf0, vf1, vf2, vf3, vf4⟩ := id V6
  go_wp2_with fail
  clear xf0 xf1 xf2 xf3 xf4 sf0 sf1 sf2 sf3 sf4 vf0 vf1 vf2 vf3 vf4
  refine (KZ.out _).mono ?_
  rintro e w7 ⟨rfl, hb⟩
  have B7 := Lib.hid ((B6.out.up hb).alloc (.cells #[.int .i64 A, .int .i64 B] 23))
  have T7 := Lib.hid ((T6.out.below hb).below ((Below.refl _ _).alloc (Nat.le_refl _) (.cells #[.int .i64 A, .int .i64 B] 23)))
  have I7 := Lib.hid ((I6.out.below hb).below ((Below.refl _ _).alloc (Nat.le_refl _) (.cells #[.int .i64 A, .int .i64 B] 23)))
  have X7 := (X6.up hb).alloc (.cells #[.int .i64 A, .int .i64 B] 23)
  have S7 := (S6.up hb).alloc (.cells #[.int .i64 A, .int .i64 B] 23)
  have V7 := (V6.up hb).alloc (.cells #[.int .i64 A, .int .i64 B] 23)
  have Z7 := Duo.new w7 (.int .i64 A) (.int .i64 B) 23 (w7.heap.size) (by simp)
  clear hb B6 T6 I6 X6 S6 V6
  obtain ⟨xf0, xf1, xf2, xf3, xf4⟩ := id X7
  obtain ⟨sf0, sf1, sf2, sf3, sf4⟩ := id S7
  obtain ⟨vf0, vf1, vf2, vf3, vf4⟩ := id V7
  obtain ⟨zf0, zf1, zf2, zf3, zf4⟩ := id Z7
  have B8 := Lib.hid (B7.out.alloc (.cells #[.int .i64 (7 - t), .int .i64 (12 - m)] 23))
  have T8 := Lib.hid (T7.out.below ((Below.refl _ _).alloc (Nat.le_refl _) (.cells #[.int .i64 (7 - t), .int .i64 (12 - m)] 23)))
  have I8 := Lib.hid (I7.out.below ((Below.refl _ _).alloc (Nat.le_refl _) (.cells #[.int .i64 (7 - t), .int .i64 (12 - m)] 23)))
  have X8 := X7.alloc (.cells #[.int .i64 (7 - t), .int .i64 (12 - m)] 23)
  obtain ⟨xk0, xk1, xk2, xk3, xk4⟩ := id X8
  have S8 := S7.alloc (.cells #[.int .i64 (7 - t), .int .i64 (12 - m)] 23)
  obtain ⟨sk0, sk1, sk2, sk3, sk4⟩ := id S8
  have V8 := V7.alloc (.cells #[.int .i64 (7 - t), .int .i64 (12 - m)] 23)
  obtain ⟨vk0, vk1, vk2, vk3, vk4⟩ := id V8
  have Z8 := Z7.alloc (.cells #[.int .i64 (7 - t), .int .i64 (12 - m)] 23)
  obtain ⟨zk0, zk1, zk2, zk3, zk4⟩ := id Z8
  have W8 := Duo.new (w7.alloc (.cells #[.int .i64 A, .int .i64 B] 23)) (.int .i64 (7 - t)) (.int .i64 (12 - m)) 23 (w7.heap.size + 1) (by simp)
  clear B7 T7 I7 X7 S7 V7 Z7
  obtain ⟨wf0, wf1, wf2, wf3, wf4⟩ := id W8
  go_wp2_with fail
  clear xf0 xf1 xf2 xf3 xf4 sf0 sf1 sf2 sf3 sf4 vf0 vf1 vf2 vf3 vf4 zf0 zf1 zf2 zf3 zf4 wf0 wf1 wf2 wf3 wf4 xk0 xk1 xk2 xk3 xk4 sk0 sk1 sk2 sk3 sk4 vk0 vk1 vk2 vk3 vk4 zk0 zk1 zk2 zk3 zk4
  refine (refIs_yes (7 - t) (12 - m) _ HL.out).mono ?_
  rintro e w9 ⟨rfl, hb⟩
  have B9 := Lib.hid (B8.out.up hb)
  have T9 := Lib.hid (T8.out.below hb)
  have I9 := Lib.hid (I8.out.below hb)
  have X9 := X8.up hb
  have S9 := S8.up hb
  have V9 := V8.up hb
  have Z9 := Z8.up hb
  have W9 := W8.up hb
  clear hb B8 T8 I8 X8 S8 V8 Z8 W8
  obtain ⟨xf0, xf1, xf2, xf3, xf4⟩ := id X9
  obtain ⟨sf0, sf1, sf2, sf3, sf4⟩ := id S9
  obtain ⟨vf0, vf1, vf2, vf3, vf4⟩ := id V9
  obtain ⟨zf0, zf1, zf2, zf3, zf4⟩ := id Z9
  obtain ⟨wf0, wf1, wf2, wf3, wf4⟩ := id W9
  go_wp2_with fail
  clear xf0 xf1 xf2 xf3 xf4 sf0 sf1 sf2 sf3 sf4 vf0 vf1 vf2 vf3 vf4 zf0 zf1 zf2 zf3 zf4 wf0 wf1 wf2 wf3 wf4
  refine (inv_back t m _ HP.out k0 k1 HL.out).mono ?_
  rintro e w10 ⟨rfl, hb⟩
  have B10 := Lib.hid ((B9.out.up hb).alloc (.cells #[.int .i64 t, .int .i64 m] 23))
  have T10 := Lib.hid ((T9.out.below hb).below ((Below.refl _ _).alloc (Nat.le_refl _) (.cells #[.int .i64 t, .int .i64 m] 23)))
  have I10 := Lib.hid ((I9.out.below hb).below ((Below.refl _ _).alloc (Nat.le_refl _) (.cells #[.int .i64 t, .int .i64 m] 23)))
  have X10 := (X9.up hb).alloc (.cells #[.int .i64 t, .int .i64 m] 23)
  have S10 := (S9.up hb).alloc (.cells #[.int .i64 t, .int .i64 m] 23)
  have V10 := (V9.up hb).alloc (.cells #[.int .i64 t, .int .i64 m] 23)
  have Z10 := (Z9.up hb).alloc (.cells #[.int .i64 t, .int .i64 m] 23)
  have W10 := (W9.up hb).alloc (.cells #[.int .i64 t, .int .i64 m] 23)
  have G10 := Duo.new w10 (.int .i64 t) (.int .i64 m) 23 (w10.heap.size) (by simp)
  clear hb B9 T9 I9 X9 S9 V9 Z9 W9
  obtain ⟨xf0, xf1, xf2, xf3, xf4⟩ := id X10
  obtain ⟨sf0, sf1, sf2, sf3, sf4⟩ := id S10
  obtain ⟨vf0, vf1, vf2, vf3, vf4⟩ := id V10
  obtain ⟨zf0, zf1, zf2, zf3, zf4⟩ := id Z10
  obtain ⟨wf0, wf1, wf2, wf3, wf4⟩ := id W10
  obtain ⟨gf0, gf1, gf2, gf3, gf4⟩ := id G10
  go_wp2_with fail
  go_ret
  exact ⟨by first | rfl | (simp; done), B10.out.out⟩
theorem law_IntervalQualities (t m : Int) (w : World) (ht : PT w) (hi : IT w) :
    Calls Tryd.prog 10 #[.agg #[.int .i64 t, .int .i64 m]] w fun e w' => e = .returned (.bool true) ∧ Below w.heap.size w w' := by
  by_cases h : Iv t m
  · rcases Int.lt_or_le t 0 with k | k0
    · exact qlLaw_1 t m w h k ht hi
    · rcases Int.lt_or_le 7 t with k | k1
      · exact qlLaw_2 t m w h k ht hi
      · by_cases l : Iv (7 - t) (12 - m)
        · exact qlLaw_4 t m w h k0 k1 l ht hi
        · exact qlLaw_3 t m w h k0 k1 l ht hi
  · exact qlLaw_n t m w h ht hi
end Go.Proofs.YtfbogakmhaiddaaDoor
