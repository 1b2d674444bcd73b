/- The law IntervalExact. -/
import Derived.Test.YtfbogakmhaiddaaDoorIn
namespace Go.Proofs.YtfbogakmhaiddaaDoor
open Go.RowKit
set_option linter.unusedVariables false
set_option linter.unusedSimpArgs false

theorem exact_any (s a o t m : Int) (w : World) (h : Pit s a o) (k : Iv t m) (ht : PT w) :
    Calls Tryd.prog 22 #[.agg #[.int .i64 s, .int .i64 a, .int .i64 o], .agg #[.int .i64 t, .int .i64 m]] w (RxPost s a o t m w) := by
  by_cases hn : 0 ≤ numP s a o + m ∧ numP s a o + m ≤ 127
  · cases hf : findD (enhL (numP s a o + m)) (diaP s o + t) with
    | none => exact (exact_n s a o t m w h k hn.1 hn.2 hf ht).mono fun e w' ⟨he, hb⟩ => .inr ⟨hf, he, hb⟩
    | some q => exact (exact_y s a o t m q w h k hn.1 hn.2 hf ht).mono fun e w' ⟨he, hb⟩ => .inl ⟨q, hf, he, hb⟩
  · exact (exact_b3 s a o t m w h k (by omega) ht).mono fun e w' ⟨he, hb⟩ => .inr ⟨by rw [enhL_none (by omega)]; rfl, he, hb⟩
set_option maxRecDepth 100000 in
set_option maxHeartbeats 2000000 in
theorem exLaw1 (s a o t m : Int) (w : World) (h : ¬ Pit s a o) (ht : PT w) (hi : IT w) :
    Calls Tryd.prog 6 #[.agg #[.int .i64 s, .int .i64 a, .int .i64 o], .agg #[.int .i64 t, .int .i64 m]] w fun e w' => e = .returned (.bool true) ∧ Below w.heap.size w w' := by
  have B0 := Lib.hid (((Bel.refl w).alloc (.cells #[.int .i64 s, .int .i64 a, .int .i64 o] 41)).alloc (.cells #[.int .i64 t, .int .i64 m] 23))
  have T0 := Lib.hid ((ht.below ((Below.refl _ _).alloc (Nat.le_refl _) (.cells #[.int .i64 s, .int .i64 a, .int .i64 o] 41))).below ((Below.refl _ _).alloc (Nat.le_refl _) (.cells #[.int .i64 t, .int .i64 m] 23)))
  have I0 := Lib.hid ((hi.below ((Below.refl _ _).alloc (Nat.le_refl _) (.cells #[.int .i64 s, .int .i64 a, .int .i64 o] 41))).below ((Below.refl _ _).alloc (Nat.le_refl _) (.cells #[.int .i64 t, .int .i64 m] 23)))
  have X0 := (Tri.new w (.int .i64 s) (.int .i64 a) (.int .i64 o) 41 (w.heap.size) (by simp)).alloc (.cells #[.int .i64 t, .int .i64 m] 23)
  have Y0 := Duo.new (w.alloc (.cells #[.int .i64 s, .int .i64 a, .int .i64 o] 41)) (.int .i64 t) (.int .i64 m) 23 (w.heap.size + 1) (by simp)
  have HP := Lib.hid h
  go_enter Tryd.func6, Tryd.ntmps6
  obtain ⟨xf0, xf1, xf2, xf3, xf4, xf5, xf6⟩ := id X0
  obtain ⟨yf0, yf1, yf2, yf3, yf4⟩ := id Y0
  go_wp2_with fail
  clear xf0 xf1 xf2 xf3 xf4 xf5 xf6 yf0 yf1 yf2 yf3 yf4
  refine (exact_b1 s a o t m _ HP.out T0.out).mono ?_
  rintro e w1 ⟨rfl, hb⟩
  have B1 := Lib.hid ((B0.out.up hb).alloc (.cells #[.int .i64 0, .int .i64 0, .int .i64 0] 41))
  have T1 := Lib.hid ((T0.out.below hb).below ((Below.refl _ _).alloc (Nat.le_refl _) (.cells #[.int .i64 0, .int .i64 0, .int .i64 0] 41)))
  have I1 := Lib.hid ((I0.out.below hb).below ((Below.refl _ _).alloc (Nat.le_refl _) (.cells #[.int .i64 0, .int .i64 0, .int .i64 0] 41)))
  have X1 := (X0.up hb).alloc (.cells #[.int .i64 0, .int .i64 0, .int .i64 0] 41)
  have Y1 := (Y0.up hb).alloc (.cells #[.int .i64 0, .int .i64 0, .int .i64 0] 41)
  have Q1 := Tri.new w1 (.int .i64 0) (.int .i64 0) (.int .i64 0) 41 (w1.heap.size) (by simp)
  clear hb B0 T0 I0 X0 Y0
  obtain ⟨xf0, xf1, xf2, xf3, xf4, xf5, xf6⟩ := id X1
  obtain ⟨yf0, yf1, yf2, yf3, yf4⟩ := id Y1
  obtain ⟨qf0, qf1, qf2, qf3, qf4, qf5, qf6⟩ := id Q1
  go_wp2_with fail
  clear xf0 xf1 xf2 xf3 xf4 xf5 xf6 yf0 yf1 yf2 yf3 yf4 qf0 qf1 qf2 qf3 qf4 qf5 qf6
  refine (rexact_b1 s a o t m _ HP.out).mono ?_
  rintro e w2 ⟨rfl, hb⟩
  have B2 := Lib.hid ((B1.out.up hb).alloc (.cells #[.int .i64 0, .int .i64 0, .int .i64 0] 41))
  have T2 := Lib.hid ((T1.out.below hb).below ((Below.refl _ _).alloc (Nat.le_refl _) (.cells #[.int .i64 0, .int .i64 0, .int .i64 0] 41)))
  have I2 := Lib.hid ((I1.out.below hb).below ((Below.refl _ _).alloc (Nat.le_refl _) (.cells #[.int .i64 0, .int .i64 0, .int .i64 0] 41)))
  have X2 := (X1.up hb).alloc (.cells #[.int .i64 0, .int .i64 0, .int .i64 0] 41)
  have Y2 := (Y1.up hb).alloc (.cells #[.int .i64 0, .int .i64 0, .int .i64 0] 41)
  have Q2 := (Q1.up hb).alloc (.cells #[.int .i64 0, .int .i64 0, .int .i64 0] 41)
  have R2 := Tri.new w2 (.int .i64 0) (.int .i64 0) (.int .i64 0) 41 (w2.heap.size) (by simp)
  clear hb B1 T1 I1 X1 Y1 Q1
  obtain ⟨xf0, xf1, xf2, xf3, xf4, xf5, xf6⟩ := id X2
  obtain ⟨yf0, yf1, yf2, yf3, yf4⟩ := id Y2
  obtain ⟨qf0, qf1, qf2, qf3, qf4, qf5, qf6⟩ := id Q2
  obtain ⟨rf0, rf1, rf2, rf3, rf4, rf5, rf6⟩ := id R2
  go_wp2_with fail
  clear xf0 xf1 xf2 xf3 xf4 xf5 xf6 yf0 yf1 yf2 yf3 yf4 qf0 qf1 qf2 qf3 qf4 qf5 qf6 rf0 rf1 rf2 rf3 rf4 rf5 rf6
  refine (known_any _ T2.out I2.out).mono ?_
  rintro e w3 ⟨rfl, hb⟩
  have B3 := Lib.hid (B2.out.up hb)
  have T3 := Lib.hid (T2.out.below hb)
  have I3 := Lib.hid (I2.out.below hb)
  have X3 := X2.up hb
  have Y3 := Y2.up hb
  have Q3 := Q2.up hb
  have R3 := R2.up hb
  clear hb B2 T2 I2 X2 Y2 Q2 R2
  obtain ⟨xf0, xf1, xf2, xf3, xf4, xf5, xf6⟩ := id X3
  obtain ⟨yf0, yf1, yf2, yf3, yf4⟩ := id Y3
  obtain ⟨qf0, qf1, qf2, qf3, qf4, qf5, qf6⟩ := id Q3
  obtain ⟨rf0, rf1, rf2, rf3, rf4, rf5, rf6⟩ := id R3
  go_wp2_with fail
  go_ret
  exact ⟨by first | rfl | (simp; done), B3.out.out⟩
set_option maxRecDepth 100000 in
set_option maxHeartbeats 2000000 in
theorem exLaw2 (s a o t m : Int) (w : World) (h : Pit s a o) (k : ¬ Iv t m) (ht : PT w) (hi : IT w) :
    Calls Tryd.prog 6 #[.agg #[.int .i64 s, .int .i64 a, .int .i64 o], .agg #[.int .i64 t, .int .i64 m]] w fun e w' => e = .returned (.bool true) ∧ Below w.heap.size w w' := by
  have B0 := Lib.hid (((Bel.refl w).alloc (.cells #[.int .i64 s, .int .i64 a, .int .i64 o] 41)).alloc (.cells #[.int .i64 t, .int .i64 m] 23))
  have T0 := Lib.hid ((ht.below ((Below.refl _ _).alloc (Nat.le_refl _) (.cells #[.int .i64 s, .int .i64 a, .int .i64 o] 41))).below ((Below.refl _ _).alloc (Nat.le_refl _) (.cells #[.int .i64 t, .int .i64 m] 23)))
  have I0 := Lib.hid ((hi.below ((Below.refl _ _).alloc (Nat.le_refl _) (.cells #[.int .i64 s, .int .i64 a, .int .i64 o] 41))).below ((Below.refl _ _).alloc (Nat.le_refl _) (.cells #[.int .i64 t, .int .i64 m] 23)))
  have X0 := (Tri.new w (.int .i64 s) (.int .i64 a) (.int .i64 o) 41 (w.heap.size) (by simp)).alloc (.cells #[.int .i64 t, .int .i64 m] 23)
  have Y0 := Duo.new (w.alloc (.cells #[.int .i64 s, .int .i64 a, .int .i64 o] 41)) (.int .i64 t) (.int .i64 m) 23 (w.heap.size + 1) (by simp)
  have HP := Lib.hid h
  have HQ := Lib.hid k
  go_enter Tryd.func6, Tryd.ntmps6
  obtain ⟨xf0, xf1, xf2, xf3, xf4, xf5, xf6⟩ := id X0
  obtain ⟨yf0, yf1, yf2, yf3, yf4⟩ := id Y0
  go_wp2_with fail
  clear xf0 xf1 xf2 xf3 xf4 xf5 xf6 yf0 yf1 yf2 yf3 yf4
  refine (exact_b2 s a o t m _ HP.out HQ.out T0.out).mono ?_
  rintro e w1 ⟨rfl, hb⟩
  have B1 := Lib.hid ((B0.out.up hb).alloc (.cells #[.int .i64 0, .int .i64 0, .int .i64 0] 41))
  have T1 := Lib.hid ((T0.out.below hb).below ((Below.refl _ _).alloc (Nat.le_refl _) (.cells #[.int .i64 0, .int .i64 0, .int .i64 0] 41)))
  have I1 := Lib.hid ((I0.out.below hb).below ((Below.refl _ _).alloc (Nat.le_refl _) (.cells #[.int .i64 0, .int .i64 0, .int .i64 0] 41)))
  have X1 := (X0.up hb).alloc (.cells #[.int .i64 0, .int .i64 0, .int .i64 0] 41)
  have Y1 := (Y0.up hb).alloc (.cells #[.int .i64 0, .int .i64 0, .int .i64 0] 41)
  have Q1 := Tri.new w1 (.int .i64 0) (.int .i64 0) (.int .i64 0) 41 (w1.heap.size) (by simp)
  clear hb B0 T0 I0 X0 Y0
  obtain ⟨xf0, xf1, xf2, xf3, xf4, xf5, xf6⟩ := id X1
  obtain ⟨yf0, yf1, yf2, yf3, yf4⟩ := id Y1
  obtain ⟨qf0, qf1, qf2, qf3, qf4, qf5, qf6⟩ := id Q1
  go_wp2_with fail
  clear xf0 xf1 xf2 xf3 xf4 xf5 xf6 yf0 yf1 yf2 yf3 yf4 qf0 qf1 qf2 qf3 qf4 qf5 qf6
  refine (rexact_b2 s a o t m _ HP.out HQ.out).mono ?_
  rintro e w2 ⟨rfl, hb⟩
  have B2 := Lib.hid ((B1.out.up hb).alloc (.cells #[.int .i64 0, .int .i64 0, .int .i64 0] 41))
  have T2 := Lib.hid ((T1.out.below hb).below ((Below.refl _ _).alloc (Nat.le_refl _) (.cells #[.int .i64 0, .int .i64 0, .int .i64 0] 41)))
  have I2 := Lib.hid ((I1.out.below hb).below ((Below.refl _ _).alloc (Nat.le_refl _) (.cells #[.int .i64 0, .int .i64 0, .int .i64 0] 41)))
  have X2 := (X1.up hb).alloc (.cells #[.int .i64 0, .int .i64 0, .int .i64 0] 41)
  have Y2 := (Y1.up hb).alloc (.cells #[.int .i64 0, .int .i64 0, .int .i64 0] 41)
  have Q2 := (Q1.up hb).alloc (.cells #[.int .i64 0, .int .i64 0, .int .i64 0] 41)
  have R2 := Tri.new w2 (.int .i64 0) (.int .i64 0) (.int .i64 0) 41 (w2.heap.size) (by simp)
  clear hb B1 T1 I1 X1 Y1 Q1
  obtain ⟨xf0, xf1, xf2, xf3, xf4, xf5, xf6⟩ := id X2
  obtain ⟨yf0, yf1, yf2, yf3, yf4⟩ := id Y2
  obtain ⟨qf0, qf1, qf2, qf3, qf4, qf5, qf6⟩ := id Q2
  obtain ⟨rf0, rf1, rf2, rf3, rf4, rf5, rf6⟩ := id R2
  go_wp2_with fail
  clear xf0 xf1 xf2 xf3 xf4 xf5 xf6 yf0 yf1 yf2 yf3 yf4 qf0 qf1 qf2 qf3 qf4 qf5 qf6 rf0 rf1 rf2 rf3 rf4 rf5 rf6
  refine (known_any _ T2.out I2.out).mono ?_
  rintro e w3 ⟨rfl, hb⟩
  have B3 := Lib.hid (B2.out.up hb)
  have T3 := Lib.hid (T2.out.below hb)
  have I3 := Lib.hid (I2.out.below hb)
  have X3 := X2.up hb
  have Y3 := Y2.up hb
  have Q3 := Q2.up hb
  have R3 := R2.up hb
  clear hb B2 T2 I2 X2 Y2 Q2 R2
  obtain ⟨xf0, xf1, xf2, xf3, xf4, xf5, xf6⟩ := id X3
  obtain ⟨yf0, yf1, yf2, yf3, yf4⟩ := id Y3
  obtain ⟨qf0, qf1, qf2, qf3, qf4, qf5, qf6⟩ := id Q3
  obtain ⟨rf0, rf1, rf2, rf3, rf4, rf5, rf6⟩ := id R3
  go_wp2_with fail
  go_ret
  exact ⟨by first | rfl | (simp; done), B3.out.out⟩
set_option maxRecDepth 100000 in
set_option maxHeartbeats 2000000 in
theorem exLaw3 (s a o t m : Int) (w : World) (h : Pit s a o) (k : Iv t m) (hf : findD (enhL (numP s a o + m)) (diaP s o + t) = none) (ht : PT w) (hi : IT w) :
    Calls Tryd.prog 6 #[.agg #[.int .i64 s, .int .i64 a, .int .i64 o], .agg #[.int .i64 t, .int .i64 m]] w fun e w' => e = .returned (.bool true) ∧ Below w.heap.size w w' := by
  have B0 := Lib.hid (((Bel.refl w).alloc (.cells #[.int .i64 s, .int .i64 a, .int .i64 o] 41)).alloc (.cells #[.int .i64 t, .int .i64 m] 23))
  have T0 := Lib.hid ((ht.below ((Below.refl _ _).alloc (Nat.le_refl _) (.cells #[.int .i64 s, .int .i64 a, .int .i64 o] 41))).below ((Below.refl _ _).alloc (Nat.le_refl _) (.cells #[.int .i64 t, .int .i64 m] 23)))
  have I0 := Lib.hid ((hi.below ((Below.refl _ _).alloc (Nat.le_refl _) (.cells #[.int .i64 s, .int .i64 a, .int .i64 o] 41))).below ((Below.refl _ _).alloc (Nat.le_refl _) (.cells #[.int .i64 t, .int .i64 m] 23)))
  have X0 := (Tri.new w (.int .i64 s) (.int .i64 a) (.int .i64 o) 41 (w.heap.size) (by simp)).alloc (.cells #[.int .i64 t, .int .i64 m] 23)
  have Y0 := Duo.new (w.alloc (.cells #[.int .i64 s, .int .i64 a, .int .i64 o] 41)) (.int .i64 t) (.int .i64 m) 23 (w.heap.size + 1) (by simp)
  have HP := Lib.hid h
  have HQ := Lib.hid k
  have HF := Lib.hid hf
  go_enter Tryd.func6, Tryd.ntmps6
  obtain ⟨xf0, xf1, xf2, xf3, xf4, xf5, xf6⟩ := id X0
  obtain ⟨yf0, yf1, yf2, yf3, yf4⟩ := id Y0
  go_wp2_with fail
  clear xf0 xf1 xf2 xf3 xf4 xf5 xf6 yf0 yf1 yf2 yf3 yf4
  refine (exact_any s a o t m _ HP.out HQ.out T0.out).mono ?_
  rintro e w1 h9
  rcases h9 with ⟨q9, hq9, -, -⟩ | ⟨-, rfl, hb⟩
  · rw [HF.out] at hq9; cases hq9
  have B1 := Lib.hid ((B0.out.up hb).alloc (.cells #[.int .i64 0, .int .i64 0, .int .i64 0] 41))
  have T1 := Lib.hid ((T0.out.below hb).below ((Below.refl _ _).alloc (Nat.le_refl _) (.cells #[.int .i64 0, .int .i64 0, .int .i64 0] 41)))
  have I1 := Lib.hid ((I0.out.below hb).below ((Below.refl _ _).alloc (Nat.le_refl _) (.cells #[.int .i64 0, .int .i64 0, .int .i64 0] 41)))
  have X1 := (X0.up hb).alloc (.cells #[.int .i64 0, .int .i64 0, .int .i64 0] 41)
  have Y1 := (Y0.up hb).alloc (.cells #[.int .i64 0, .int .i64 0, .int .i64 0] 41)
  have Q1 := Tri.new w1 (.int .i64 0) (.int .i64 0) (.int .i64 0) 41 (w1.heap.size) (by simp)
  clear hb B0 T0 I0 X0 Y0
  obtain ⟨xf0, xf1, xf2, xf3, xf4, xf5, xf6⟩ := id X1
  obtain ⟨yf0, yf1, yf2, yf3, yf4⟩ := id Y1
  obtain ⟨qf0, qf1, qf2, qf3, qf4, qf5, qf6⟩ := id Q1
  go_wp2_with fail
  clear xf0 xf1 xf2 xf3 xf4 xf5 xf6 yf0 yf1 yf2 yf3 yf4 qf0 qf1 qf2 qf3 qf4 qf5 qf6
  refine (rexact_any s a o t m _ HP.out HQ.out).mono ?_
  rintro e w2 h9
  rcases h9 with ⟨q9, hq9, -, -⟩ | ⟨-, rfl, hb⟩
  · rw [HF.out] at hq9; cases hq9
  have B2 := Lib.hid ((B1.out.up hb).alloc (.cells #[.int .i64 0, .int .i64 0, .int .i64 0] 41))
  have T2 := Lib.hid ((T1.out.below hb).below ((Below.refl _ _).alloc (Nat.le_refl _) (.cells #[.int .i64 0, .int .i64 0, .int .i64 0] 41)))
  have I2 := Lib.hid ((I1.out.below hb).below ((Below.refl _ _).alloc (Nat.le_refl _) (.cells #[.int .i64 0, .int .i64 0, .int .i64 0] 41)))
  have X2 := (X1.up hb).alloc (.cells #[.int .i64 0, .int .i64 0, .int .i64 0] 41)
  have Y2 := (Y1.up hb).alloc (.cells #[.int .i64 0, .int .i64 0, .int .i64 0] 41)
  have Q2 := (Q1.up hb).alloc (.cells #[.int .i64 0, .int .i64 0, .int .i64 0] 41)
  have R2 := Tri.new w2 (.int .i64 0) (.int .i64 0) (.int .i64 0) 41 (w2.heap.size) (by simp)
  clear hb B1 T1 I1 X1 Y1 Q1
  obtain ⟨xf0, xf1, xf2, xf3, xf4, xf5, xf6⟩ := id X2
  obtain ⟨yf0, yf1, yf2, yf3, yf4⟩ := id Y2
  obtain ⟨qf0, qf1, qf2, qf3, qf4, qf5, qf6⟩ := id Q2
  obtain ⟨rf0, rf1, rf2, rf3, rf4, rf5, rf6⟩ := id R2
  go_wp2_with fail
  clear xf0 xf1 xf2 xf3 xf4 xf5 xf6 yf0 yf1 yf2 yf3 yf4 qf0 qf1 qf2 qf3 qf4 qf5 qf6 rf0 rf1 rf2 rf3 rf4 rf5 rf6
  refine (known_any _ T2.out I2.out).mono ?_
  rintro e w3 ⟨rfl, hb⟩
  have B3 := Lib.hid (B2.out.up hb)
  have T3 := Lib.hid (T2.out.below hb)
  have I3 := Lib.hid (I2.out.below hb)
  have X3 := X2.up hb
  have Y3 := Y2.up hb
  have Q3 := Q2.up hb
  have R3 := R2.up hb
  clear hb B2 T2 I2 X2 Y2 Q2 R2
  obtain ⟨xf0, xf1, xf2, xf3, xf4, xf5, xf6⟩ := id X3
  obtain ⟨yf0, yf1, yf2, yf3, yf4⟩ := id Y3
  obtain ⟨qf0, qf1, qf2, qf3, qf4, qf5, qf6⟩ := id Q3
  obtain ⟨rf0, rf1, rf2, rf3, rf4, rf5, rf6⟩ := id R3
  go_wp2_with fail
  go_ret
  exact ⟨by first | rfl | (simp; done), B3.out.out⟩
set_option maxRecDepth 100000 in
set_option maxHeartbeats 2000000 in
theorem exLaw4 (s a o t m : Int) (q : Int × Int × Int) (w : World) (h : Pit s a o) (k : Iv t m) (hf : findD (enhL (numP s a o + m)) (diaP s o + t) = some q) (ht : PT w) (hi : IT w) :
    Calls Tryd.prog 6 #[.agg #[.int .i64 s, .int .i64 a, .int .i64 o], .agg #[.int .i64 t, .int .i64 m]] w fun e w' => e = .returned (.bool true) ∧ Below w.heap.size w w' := by
  have B0 := Lib.hid (((Bel.refl w).alloc (.cells #[.int .i64 s, .int .i64 a, .int .i64 o] 41)).alloc (.cells #[.int .i64 t, .int .i64 m] 23))
  have T0 := Lib.hid ((ht.below ((Below.refl _ _).alloc (Nat.le_refl _) (.cells #[.int .i64 s, .int .i64 a, .int .i64 o] 41))).below ((Below.refl _ _).alloc (Nat.le_refl _) (.cells #[.int .i64 t, .int .i64 m] 23)))
  have I0 := Lib.hid ((hi.below ((Below.refl _ _).alloc (Nat.le_refl _) (.cells #[.int .i64 s, .int .i64 a, .int .i64 o] 41))).below ((Below.refl _ _).alloc (Nat.le_refl _) (.cells #[.int .i64 t, .int .i64 m] 23)))
  have X0 := (Tri.new w (.int .i64 s) (.int .i64 a) (.int .i64 o) 41 (w.heap.size) (by simp)).alloc (.cells #[.int .i64 t, .int .i64 m] 23)
  have Y0 := Duo.new (w.alloc (.cells #[.int .i64 s, .int .i64 a, .int .i64 o] 41)) (.int .i64 t) (.int .i64 m) 23 (w.heap.size + 1) (by simp)
  have HP := Lib.hid h
  have HQ := Lib.hid k
  have HF := Lib.hid hf
  go_enter Tryd.func6, Tryd.ntmps6
  obtain ⟨xf0, xf1, xf2, xf3, xf4, xf5, xf6⟩ := id X0
  obtain ⟨yf0, yf1, yf2, yf3, yf4⟩ := id Y0
  go_wp2_with fail
  clear xf0 xf1 xf2 xf3 xf4 xf5 xf6 yf0 yf1 yf2 yf3 yf4
  refine (exact_any s a o t m _ HP.out HQ.out T0.out).mono ?_
  rintro e w1 h9
  rcases h9 with ⟨q9, hq9, rfl, hb⟩ | ⟨hq9, -, -⟩
  rotate_left
  · rw [HF.out] at hq9; cases hq9
  rw [HF.out] at hq9
  cases hq9
  have B1 := Lib.hid ((B0.out.up hb).alloc (.cells #[.int .i64 q.1, .int .i64 q.2.1, .int .i64 q.2.2] 41))
  have T1 := Lib.hid ((T0.out.below hb).below ((Below.refl _ _).alloc (Nat.le_refl _) (.cells #[.int .i64 q.1, .int .i64 q.2.1, .int .i64 q.2.2] 41)))
  have I1 := Lib.hid ((I0.out.below hb).below ((Below.refl _ _).alloc (Nat.le_refl _) (.cells #[.int .i64 q.1, .int .i64 q.2.1, .int .i64 q.2.2] 41)))
  have X1 := (X0.up hb).alloc (.cells #[.int .i64 q.1, .int .i64 q.2.1, .int .i64 q.2.2] 41)
  have Y1 := (Y0.up hb).alloc (.cells #[.int .i64 q.1, .int .i64 q.2.1, .int .i64 q.2.2] 41)
  have Q1 := Tri.new w1 (.int .i64 q.1) (.int .i64 q.2.1) (.int .i64 q.2.2) 41 (w1.heap.size) (by simp)
  clear hb B0 T0 I0 X0 Y0
  obtain ⟨xf0, xf1, xf2, xf3, xf4, xf5, xf6⟩ := id X1
  obtain ⟨yf0, yf1, yf2, yf3, yf4⟩ := id Y1
  obtain ⟨qf0, qf1, qf2, qf3, qf4, qf5, qf6⟩ := id Q1
  go_wp2_with fail
  clear xf0 xf1 xf2 xf3 xf4 xf5 xf6 yf0 yf1 yf2 yf3 yf4 qf0 qf1 qf2 qf3 qf4 qf5 qf6
  refine (rexact_any s a o t m _ HP.out HQ.out).mono ?_
  rintro e w2 h9
  rcases h9 with ⟨q9, hq9, rfl, hb⟩ | ⟨hq9, -, -⟩
  rotate_left
  · rw [HF.out] at hq9; cases hq9
  rw [HF.out] at hq9
  cases hq9
  have B2 := Lib.hid ((B1.out.up hb).alloc (.cells #[.int .i64 q.1, .int .i64 q.2.1, .int .i64 q.2.2] 41))
  have T2 := Lib.hid ((T1.out.below hb).below ((Below.refl _ _).alloc (Nat.le_refl _) (.cells #[.int .i64 q.1, .int .i64 q.2.1, .int .i64 q.2.2] 41)))
  have I2 := Lib.hid ((I1.out.below hb).below ((Below.refl _ _).alloc (Nat.le_refl _) (.cells #[.int .i64 q.1, .int .i64 q.2.1, .int .i64 q.2.2] 41)))
  have X2 := (X1.up hb).alloc (.cells #[.int .i64 q.1, .int .i64 q.2.1, .int .i64 q.2.2] 41)
  have Y2 := (Y1.up hb).alloc (.cells #[.int .i64 q.1, .int .i64 q.2.1, .int .i64 q.2.2] 41)
  have Q2 := (Q1.up hb).alloc (.cells #[.int .i64 q.1, .int .i64 q.2.1, .int .i64 q.2.2] 41)
  have R2 := Tri.new w2 (.int .i64 q.1) (.int .i64 q.2.1) (.int .i64 q.2.2) 41 (w2.heap.size) (by simp)
  clear hb B1 T1 I1 X1 Y1 Q1
  obtain ⟨xf0, xf1, xf2, xf3, xf4, xf5, xf6⟩ := id X2
  obtain ⟨yf0, yf1, yf2, yf3, yf4⟩ := id Y2
  obtain ⟨qf0, qf1, qf2, qf3, qf4, qf5, qf6⟩ := id Q2
  obtain ⟨rf0, rf1, rf2, rf3, rf4, rf5, rf6⟩ := id R2
  go_wp2_with fail
  clear xf0 xf1 xf2 xf3 xf4 xf5 xf6 yf0 yf1 yf2 yf3 yf4 qf0 qf1 qf2 qf3 qf4 qf5 qf6 rf0 rf1 rf2 rf3 rf4 rf5 rf6
  refine (known_any _ T2.out I2.out).mono ?_
  rintro e w3 ⟨rfl, hb⟩
  have B3 := Lib.hid (B2.out.up hb)
  have T3 := Lib.hid (T2.out.below hb)
  have I3 := Lib.hid (I2.out.below hb)
  have X3 := X2.up hb
  have Y3 := Y2.up hb
  have Q3 := Q2.up hb
  have R3 := R2.up hb
  clear hb B2 T2 I2 X2 Y2 Q2 R2
  obtain ⟨xf0, xf1, xf2, xf3, xf4, xf5, xf6⟩ := id X3
  obtain ⟨yf0, yf1, yf2, yf3, yf4⟩ := id Y3
  obtain ⟨qf0, qf1, qf2, qf3, qf4, qf5, qf6⟩ := id Q3
  obtain ⟨rf0, rf1, rf2, rf3, rf4, rf5, rf6⟩ := id R3
  go_wp2_with fail
  go_ret
  exact ⟨by first | rfl | (simp; done), B3.out.out⟩
theorem law_IntervalExact (s a o t m : Int) (w : World) (ht : PT w) (hi : IT w) :
    Calls Tryd.prog 6 #[.agg #[.int .i64 s, .int .i64 a, .int .i64 o], .agg #[.int .i64 t, .int .i64 m]] w fun e w' => e = .returned (.bool true) ∧ Below w.heap.size w w' := by
  by_cases h : Pit s a o
  · by_cases k : Iv t m
    · cases hf : findD (enhL (numP s a o + m)) (diaP s o + t) with
      | none => exact exLaw3 s a o t m w h k hf ht hi
      | some q => exact exLaw4 s a o t m q w h k hf ht hi
    · exact exLaw2 s a o t m w h k ht hi
  · exact exLaw1 s a o t m w h ht hi
end Go.Proofs.YtfbogakmhaiddaaDoor
