/- The law IntervalBetween. -/
import Derived.Test.YtfbogakmhaiddaaDoorIp
namespace Go.Proofs.YtfbogakmhaiddaaDoor
open Go.RowKit
set_option linter.unusedVariables false
set_option linter.unusedSimpArgs false

theorem dia_inj {s a o t b u : Int} (hp : Pit s a o) (hq : Pit t b u) (hn : numP s a o = numP t b u) (hd : diaP s o = diaP t u) : s = t ∧ a = b ∧ o = u := by
  have := hp.s0; have := hp.s1; have := hq.s0; have := hq.s1
  unfold diaP at hd
  have e1 : s = t := by omega
  have e2 : o = u := by omega
  subst e1 e2
  unfold numP at hn
  exact ⟨rfl, by omega, rfl⟩
theorem find_self {s a o : Int} (h : Pit s a o) : findD (enhL (numP s a o)) (diaP s o) = some (s, a, o) := by
  unfold findD
  cases hf : (enhL (numP s a o)).find? (fun r => diaP r.1 r.2.2 == diaP s o) with
  | none =>
    have := List.find?_eq_none.1 hf _ (mem_enhL h)
    simp at this
  | some r =>
    have hm := List.mem_of_find?_eq_some hf
    have hd := List.find?_some hf
    obtain ⟨hr, hrn⟩ := enhL_pit r hm
    have hd2 : diaP r.1 r.2.2 = diaP s o := by simpa using hd
    obtain ⟨x1, x2, x3⟩ := dia_inj hr h hrn hd2
    obtain ⟨r1, r2, r3⟩ := r
    simp only at x1 x2 x3
    rw [x1, x2, x3]
theorem betw_iv {s a o r b q : Int} (h : Pit s a o) (k : Pit r b q) : Iv (diaP r q - diaP s o) (numP r b q - numP s a o) := by
  obtain ⟨D0, D1⟩ := dia_bd h
  obtain ⟨E0, E1⟩ := dia_bd k
  have := h.n0; have := h.n1; have := k.n0; have := k.n1
  exact ⟨by omega, by omega, by omega, by omega⟩
theorem betw_find {s a o r b q : Int} (k : Pit r b q) : findD (enhL (numP s a o + (numP r b q - numP s a o))) (diaP s o + (diaP r q - diaP s o)) = some (r, b, q) := by
  rw [show numP s a o + (numP r b q - numP s a o) = numP r b q by omega, show diaP s o + (diaP r q - diaP s o) = diaP r q by omega]
  exact find_self k
set_option maxRecDepth 100000 in
set_option maxHeartbeats 2000000 in
theorem btLaw1 (s a o r b q : Int) (w : World) (h : ¬ Pit s a o) (ht : PT w) (hi : IT w) :
    Calls Tryd.prog 5 #[.agg #[.int .i64 s, .int .i64 a, .int .i64 o], .agg #[.int .i64 r, .int .i64 b, .int .i64 q]] w fun e w' => e = .returned (.bool true) ∧ Below w.heap.size w w' := by
  have B0 := Lib.hid (((Bel.refl w).alloc (.cells #[.int .i64 s, .int .i64 a, .int .i64 o] 41)).alloc (.cells #[.int .i64 r, .int .i64 b, .int .i64 q] 41))
  have T0 := Lib.hid ((ht.below ((Below.refl _ _).alloc (Nat.le_refl _) (.cells #[.int .i64 s, .int .i64 a, .int .i64 o] 41))).below ((Below.refl _ _).alloc (Nat.le_refl _) (.cells #[.int .i64 r, .int .i64 b, .int .i64 q] 41)))
  have I0 := Lib.hid ((hi.below ((Below.refl _ _).alloc (Nat.le_refl _) (.cells #[.int .i64 s, .int .i64 a, .int .i64 o] 41))).below ((Below.refl _ _).alloc (Nat.le_refl _) (.cells #[.int .i64 r, .int .i64 b, .int .i64 q] 41)))
  have X0 := (Tri.new w (.int .i64 s) (.int .i64 a) (.int .i64 o) 41 (w.heap.size) (by simp)).alloc (.cells #[.int .i64 r, .int .i64 b, .int .i64 q] 41)
  have Y0 := Tri.new (w.alloc (.cells #[.int .i64 s, .int .i64 a, .int .i64 o] 41)) (.int .i64 r) (.int .i64 b) (.int .i64 q) 41 (w.heap.size + 1) (by simp)
  have HP := Lib.hid h
  go_enter Tryd.func5, Tryd.ntmps5
  obtain ⟨xf0, xf1, xf2, xf3, xf4, xf5, xf6⟩ := id X0
  obtain ⟨yf0, yf1, yf2, yf3, yf4, yf5, yf6⟩ := id Y0
  go_wp2_with fail
  clear xf0 xf1 xf2 xf3 xf4 xf5 xf6 yf0 yf1 yf2 yf3 yf4 yf5 yf6
  refine (betw_b1 s a o r b q _ HP.out T0.out).mono ?_
  rintro e w1 ⟨rfl, hb⟩
  have B1 := Lib.hid ((B0.out.up hb).alloc (.cells #[.int .i64 0, .int .i64 0] 23))
  have T1 := Lib.hid ((T0.out.below hb).below ((Below.refl _ _).alloc (Nat.le_refl _) (.cells #[.int .i64 0, .int .i64 0] 23)))
  have I1 := Lib.hid ((I0.out.below hb).below ((Below.refl _ _).alloc (Nat.le_refl _) (.cells #[.int .i64 0, .int .i64 0] 23)))
  have X1 := (X0.up hb).alloc (.cells #[.int .i64 0, .int .i64 0] 23)
  have Y1 := (Y0.up hb).alloc (.cells #[.int .i64 0, .int .i64 0] 23)
  have Z1 := Duo.new w1 (.int .i64 0) (.int .i64 0) 23 (w1.heap.size) (by simp)
  clear hb B0 T0 I0 X0 Y0
  obtain ⟨xf0, xf1, xf2, xf3, xf4, xf5, xf6⟩ := id X1
  obtain ⟨yf0, yf1, yf2, yf3, yf4, yf5, yf6⟩ := id Y1
  obtain ⟨zf0, zf1, zf2, zf3, zf4⟩ := id Z1
  go_wp2_with fail
  clear xf0 xf1 xf2 xf3 xf4 xf5 xf6 yf0 yf1 yf2 yf3 yf4 yf5 yf6 zf0 zf1 zf2 zf3 zf4
  refine (known_any _ T1.out I1.out).mono ?_
  rintro e w2 ⟨rfl, hb⟩
  have B2 := Lib.hid (B1.out.up hb)
  have T2 := Lib.hid (T1.out.below hb)
  have I2 := Lib.hid (I1.out.below hb)
  have X2 := X1.up hb
  have Y2 := Y1.up hb
  have Z2 := Z1.up hb
  clear hb B1 T1 I1 X1 Y1 Z1
  obtain ⟨xf0, xf1, xf2, xf3, xf4, xf5, xf6⟩ := id X2
  obtain ⟨yf0, yf1, yf2, yf3, yf4, yf5, yf6⟩ := id Y2
  obtain ⟨zf0, zf1, zf2, zf3, zf4⟩ := id Z2
  go_wp2_with fail
  clear xf0 xf1 xf2 xf3 xf4 xf5 xf6 yf0 yf1 yf2 yf3 yf4 yf5 yf6 zf0 zf1 zf2 zf3 zf4
  refine (valid_no s a o _ HP.out).mono ?_
  rintro e w3 ⟨rfl, hb⟩
  have B3 := Lib.hid (B2.out.up hb)
  have T3 := Lib.hid (T2.out.below hb)
  have I3 := Lib.hid (I2.out.below hb)
  have X3 := X2.up hb
  have Y3 := Y2.up hb
  have Z3 := Z2.up hb
  clear hb B2 T2 I2 X2 Y2 Z2
  obtain ⟨xf0, xf1, xf2, xf3, xf4, xf5, xf6⟩ := id X3
  obtain ⟨yf0, yf1, yf2, yf3, yf4, yf5, yf6⟩ := id Y3
  obtain ⟨zf0, zf1, zf2, zf3, zf4⟩ := id Z3
  go_wp2_with fail
  go_ret
  exact ⟨by first | rfl | (simp; done), B3.out.out⟩
set_option maxRecDepth 100000 in
set_option maxHeartbeats 2000000 in
theorem btLaw2 (s a o r b q : Int) (w : World) (h : Pit s a o) (k : ¬ Pit r b q) (ht : PT w) (hi : IT w) :
    Calls Tryd.prog 5 #[.agg #[.int .i64 s, .int .i64 a, .int .i64 o], .agg #[.int .i64 r, .int .i64 b, .int .i64 q]] w fun e w' => e = .returned (.bool true) ∧ Below w.heap.size w w' := by
  have B0 := Lib.hid (((Bel.refl w).alloc (.cells #[.int .i64 s, .int .i64 a, .int .i64 o] 41)).alloc (.cells #[.int .i64 r, .int .i64 b, .int .i64 q] 41))
  have T0 := Lib.hid ((ht.below ((Below.refl _ _).alloc (Nat.le_refl _) (.cells #[.int .i64 s, .int .i64 a, .int .i64 o] 41))).below ((Below.refl _ _).alloc (Nat.le_refl _) (.cells #[.int .i64 r, .int .i64 b, .int .i64 q] 41)))
  have I0 := Lib.hid ((hi.below ((Below.refl _ _).alloc (Nat.le_refl _) (.cells #[.int .i64 s, .int .i64 a, .int .i64 o] 41))).below ((Below.refl _ _).alloc (Nat.le_refl _) (.cells #[.int .i64 r, .int .i64 b, .int .i64 q] 41)))
  have X0 := (Tri.new w (.int .i64 s) (.int .i64 a) (.int .i64 o) 41 (w.heap.size) (by simp)).alloc (.cells #[.int .i64 r, .int .i64 b, .int .i64 q] 41)
  have Y0 := Tri.new (w.alloc (.cells #[.int .i64 s, .int .i64 a, .int .i64 o] 41)) (.int .i64 r) (.int .i64 b) (.int .i64 q) 41 (w.heap.size + 1) (by simp)
  have HP := Lib.hid h
  have HQ := Lib.hid k
  go_enter Tryd.func5, Tryd.ntmps5
  obtain ⟨xf0, xf1, xf2, xf3, xf4, xf5, xf6⟩ := id X0
  obtain ⟨yf0, yf1, yf2, yf3, yf4, yf5, yf6⟩ := id Y0
  go_wp2_with fail
  clear xf0 xf1 xf2 xf3 xf4 xf5 xf6 yf0 yf1 yf2 yf3 yf4 yf5 yf6
  refine (betw_b2 s a o r b q _ HP.out HQ.out T0.out).mono ?_
  rintro e w1 ⟨rfl, hb⟩
  have B1 := Lib.hid ((B0.out.up hb).alloc (.cells #[.int .i64 0, .int .i64 0] 23))
  have T1 := Lib.hid ((T0.out.below hb).below ((Below.refl _ _).alloc (Nat.le_refl _) (.cells #[.int .i64 0, .int .i64 0] 23)))
  have I1 := Lib.hid ((I0.out.below hb).below ((Below.refl _ _).alloc (Nat.le_refl _) (.cells #[.int .i64 0, .int .i64 0] 23)))
  have X1 := (X0.up hb).alloc (.cells #[.int .i64 0, .int .i64 0] 23)
  have Y1 := (Y0.up hb).alloc (.cells #[.int .i64 0, .int .i64 0] 23)
  have Z1 := Duo.new w1 (.int .i64 0) (.int .i64 0) 23 (w1.heap.size) (by simp)
  clear hb B0 T0 I0 X0 Y0
  obtain ⟨xf0, xf1, xf2, xf3, xf4, xf5, xf6⟩ := id X1
  obtain ⟨yf0, yf1, yf2, yf3, yf4, yf5, yf6⟩ := id Y1
  obtain ⟨zf0, zf1, zf2, zf3, zf4⟩ := id Z1
  go_wp2_with fail
  clear xf0 xf1 xf2 xf3 xf4 xf5 xf6 yf0 yf1 yf2 yf3 yf4 yf5 yf6 zf0 zf1 zf2 zf3 zf4
  refine (known_any _ T1.out I1.out).mono ?_
  rintro e w2 ⟨rfl, hb⟩
  have B2 := Lib.hid (B1.out.up hb)
  have T2 := Lib.hid (T1.out.below hb)
  have I2 := Lib.hid (I1.out.below hb)
  have X2 := X1.up hb
  have Y2 := Y1.up hb
  have Z2 := Z1.up hb
  clear hb B1 T1 I1 X1 Y1 Z1
  obtain ⟨xf0, xf1, xf2, xf3, xf4, xf5, xf6⟩ := id X2
  obtain ⟨yf0, yf1, yf2, yf3, yf4, yf5, yf6⟩ := id Y2
  obtain ⟨zf0, zf1, zf2, zf3, zf4⟩ := id Z2
  go_wp2_with fail
  clear xf0 xf1 xf2 xf3 xf4 xf5 xf6 yf0 yf1 yf2 yf3 yf4 yf5 yf6 zf0 zf1 zf2 zf3 zf4
  refine (valid_yes s a o _ HP.out).mono ?_
  rintro e w3 ⟨rfl, hb⟩
  have B3 := Lib.hid (B2.out.up hb)
  have T3 := Lib.hid (T2.out.below hb)
  have I3 := Lib.hid (I2.out.below hb)
  have X3 := X2.up hb
  have Y3 := Y2.up hb
  have Z3 := Z2.up hb
  clear hb B2 T2 I2 X2 Y2 Z2
  obtain ⟨xf0, xf1, xf2, xf3, xf4, xf5, xf6⟩ := id X3
  obtain ⟨yf0, yf1, yf2, yf3, yf4, yf5, yf6⟩ := id Y3
  obtain ⟨zf0, zf1, zf2, zf3, zf4⟩ := id Z3
  go_wp2_with fail
  clear xf0 xf1 xf2 xf3 xf4 xf5 xf6 yf0 yf1 yf2 yf3 yf4 yf5 yf6 zf0 zf1 zf2 zf3 zf4
  refine (valid_no r b q _ HQ.out).mono ?_
  rintro e w4 ⟨rfl, hb⟩
  have B4 := Lib.hid (B3.out.up hb)
  have T4 := Lib.hid (T3.out.below hb)
  have I4 := Lib.hid (I3.out.below hb)
  have X4 := X3.up hb
  have Y4 := Y3.up hb
  have Z4 := Z3.up hb
  clear hb B3 T3 I3 X3 Y3 Z3
  obtain ⟨xf0, xf1, xf2, xf3, xf4, xf5, xf6⟩ := id X4
  obtain ⟨yf0, yf1, yf2, yf3, yf4, yf5, yf6⟩ := id Y4
  obtain ⟨zf0, zf1, zf2, zf3, zf4⟩ := id Z4
  go_wp2_with fail
  go_ret
  exact ⟨by first | rfl | (simp; done), B4.out.out⟩
set_option maxRecDepth 100000 in
set_option maxHeartbeats 2000000 in
theorem btLaw3 (s a o r b q : Int) (w : World) (h : Pit s a o) (k : Pit r b q) (ht : PT w) (hi : IT w) :
    Calls Tryd.prog 5 #[.agg #[.int .i64 s, .int .i64 a, .int .i64 o], .agg #[.int .i64 r, .int .i64 b, .int .i64 q]] w fun e w' => e = .returned (.bool true) ∧ Below w.heap.size w w' := by
  have B0 := Lib.hid (((Bel.refl w).alloc (.cells #[.int .i64 s, .int .i64 a, .int .i64 o] 41)).alloc (.cells #[.int .i64 r, .int .i64 b, .int .i64 q] 41))
  have T0 := Lib.hid ((ht.below ((Below.refl _ _).alloc (Nat.le_refl _) (.cells #[.int .i64 s, .int .i64 a, .int .i64 o] 41))).below ((Below.refl _ _).alloc (Nat.le_refl _) (.cells #[.int .i64 r, .int .i64 b, .int .i64 q] 41)))
  have I0 := Lib.hid ((hi.below ((Below.refl _ _).alloc (Nat.le_refl _) (.cells #[.int .i64 s, .int .i64 a, .int .i64 o] 41))).below ((Below.refl _ _).alloc (Nat.le_refl _) (.cells #[.int .i64 r, .int .i64 b, .int .i64 q] 41)))
  have X0 := (Tri.new w (.int .i64 s) (.int .i64 a) (.int .i64 o) 41 (w.heap.size) (by simp)).alloc (.cells #[.int .i64 r, .int .i64 b, .int .i64 q] 41)
  have Y0 := Tri.new (w.alloc (.cells #[.int .i64 s, .int .i64 a, .int .i64 o] 41)) (.int .i64 r) (.int .i64 b) (.int .i64 q) 41 (w.heap.size + 1) (by simp)
  have HP := Lib.hid h
  have HQ := Lib.hid k
  have KB := fun v' => betw_ok s a o r b q v' h k
  have KR := fun v' => refBetw_ok s a o r b q v' h k
  have KX := fun v' hv => exact_y s a o _ _ _ v' h (betw_iv h k) (by have := k.n0; omega) (by have := k.n1; omega) (betw_find k) hv
  have KI := betw_iv h k
  generalize diaP r q - diaP s o = D at KB KR KX KI
  generalize numP r b q - numP s a o = N at KB KR KX KI
  replace KB := Lib.hid KB
  replace KR := Lib.hid KR
  replace KX := Lib.hid KX
  replace KI := Lib.hid KI
  clear h k
  go_enter Tryd.func5, Tryd.ntmps5
  obtain ⟨xf0, xf1, xf2, xf3, xf4, xf5, xf6⟩ := id X0
  obtain ⟨yf0, yf1, yf2, yf3, yf4, yf5, yf6⟩ := id Y0
  go_wp2_with fail
  clear xf0 xf1 xf2 xf3 xf4 xf5 xf6 yf0 yf1 yf2 yf3 yf4 yf5 yf6
  refine (KB.out _ T0.out).mono ?_
  rintro e w1 ⟨rfl, hb⟩
  have B1 := Lib.hid ((B0.out.up hb).alloc (.cells #[.int .i64 D, .int .i64 N] 23))
  have T1 := Lib.hid ((T0.out.below hb).below ((Below.refl _ _).alloc (Nat.le_refl _) (.cells #[.int .i64 D, .int .i64 N] 23)))
  have I1 := Lib.hid ((I0.out.below hb).below ((Below.refl _ _).alloc (Nat.le_refl _) (.cells #[.int .i64 D, .int .i64 N] 23)))
  have X1 := (X0.up hb).alloc (.cells #[.int .i64 D, .int .i64 N] 23)
  have Y1 := (Y0.up hb).alloc (.cells #[.int .i64 D, .int .i64 N] 23)
  have Z1 := Duo.new w1 (.int .i64 D) (.int .i64 N) 23 (w1.heap.size) (by simp)
  clear hb B0 T0 I0 X0 Y0
  obtain ⟨xf0, xf1, xf2, xf3, xf4, xf5, xf6⟩ := id X1
  obtain ⟨yf0, yf1, yf2, yf3, yf4, yf5, yf6⟩ := id Y1
  obtain ⟨zf0, zf1, zf2, zf3, zf4⟩ := id Z1
  go_wp2_with fail
  clear xf0 xf1 xf2 xf3 xf4 xf5 xf6 yf0 yf1 yf2 yf3 yf4 yf5 yf6 zf0 zf1 zf2 zf3 zf4
  refine (known_any _ T1.out I1.out).mono ?_
  rintro e w2 ⟨rfl, hb⟩
  have B2 := Lib.hid (B1.out.up hb)
  have T2 := Lib.hid (T1.out.below hb)
  have I2 := Lib.hid (I1.out.below hb)
  have X2 := X1.up hb
  have Y2 := Y1.up hb
  have Z2 := Z1.up hb
  clear hb B1 T1 I1 X1 Y1 Z1
  obtain ⟨xf0, xf1, xf2, xf3, xf4, xf5, xf6⟩ := id X2
  obtain ⟨yf0, yf1, yf2, yf3, yf4, yf5, yf6⟩ := id Y2
  obtain ⟨zf0, zf1, zf2, zf3, zf4⟩ := id Z2
  go_wp2_with fail
  clear xf0 xf1 xf2 xf3 xf4 xf5 xf6 yf0 yf1 yf2 yf3 yf4 yf5 yf6 zf0 zf1 zf2 zf3 zf4
  refine (valid_yes s a o _ HP.out).mono ?_
  rintro e w3 ⟨rfl, hb⟩
  have B3 := Lib.hid (B2.out.up hb)
  have T3 := Lib.hid (T2.out.below hb)
  have I3 := Lib.hid (I2.out.below hb)
  have X3 := X2.up hb
  have Y3 := Y2.up hb
  have Z3 := Z2.up hb
  clear hb B2 T2 I2 X2 Y2 Z2
  obtain ⟨xf0, xf1, xf2, xf3, xf4, xf5, xf6⟩ := id X3
  obtain ⟨yf0, yf1, yf2, yf3, yf4, yf5, yf6⟩ := id Y3
  obtain ⟨zf0, zf1, zf2, zf3, zf4⟩ := id Z3
  go_wp2_with fail
  clear xf0 xf1 xf2 xf3 xf4 xf5 xf6 yf0 yf1 yf2 yf3 yf4 yf5 yf6 zf0 zf1 zf2 zf3 zf4
  refine (valid_yes r b q _ HQ.out).mono ?_
  rintro e w4 ⟨rfl, hb⟩
  have B4 := Lib.hid (B3.out.up hb)
  have T4 := Lib.hid (T3.out.below hb)
  have I4 := Lib.hid (I3.out.below hb)
  have X4 := X3.up hb
  have Y4 := Y3.up hb
  have Z4 := Z3.up hb
  clear hb B3 T3 I3 X3 Y3 Z3
  obtain ⟨xf0, xf1, xf2, xf3, xf4, xf5, xf6⟩ := id X4
  obtain ⟨yf0, yf1, yf2, yf3, yf4, yf5, yf6⟩ := id Y4
  obtain ⟨zf0, zf1, zf2, zf3, zf4⟩ := id Z4
  go_wp2_with fail
  clear xf0 xf1 xf2 xf3 xf4 xf5 xf6 yf0 yf1 yf2 yf3 yf4 yf5 yf6 zf0 zf1 zf2 zf3 zf4
  refine (KX.out _ T4.out).mono ?_
  rintro e w5 ⟨rfl, hb⟩
  have B5 := Lib.hid ((B4.out.up hb).alloc (.cells #[.int .i64 r, .int .i64 b, .int .i64 q] 41))
  have T5 := Lib.hid ((T4.out.below hb).below ((Below.refl _ _).alloc (Nat.le_refl _) (.cells #[.int .i64 r, .int .i64 b, .int .i64 q] 41)))
  have I5 := Lib.hid ((I4.out.below hb).below ((Below.refl _ _).alloc (Nat.le_refl _) (.cells #[.int .i64 r, .int .i64 b, .int .i64 q] 41)))
  have X5 := (X4.up hb).alloc (.cells #[.int .i64 r, .int .i64 b, .int .i64 q] 41)
  have Y5 := (Y4.up hb).alloc (.cells #[.int .i64 r, .int .i64 b, .int .i64 q] 41)
  have Z5 := (Z4.up hb).alloc (.cells #[.int .i64 r, .int .i64 b, .int .i64 q] 41)
  have V5 := Tri.new w5 (.int .i64 r) (.int .i64 b) (.int .i64 q) 41 (w5.heap.size) (by simp)
  clear hb B4 T4 I4 X4 Y4 Z4
  obtain ⟨xf0, xf1, xf2, xf3, xf4, xf5, xf6⟩ := id X5
  obtain ⟨yf0, yf1, yf2, yf3, yf4, yf5, yf6⟩ := id Y5
  obtain ⟨zf0, zf1, zf2, zf3, zf4⟩ := id Z5
  obtain ⟨vf0, vf1, vf2, vf3, vf4, vf5, vf6⟩ := id V5
  go_wp2_with fail
  clear xf0 xf1 xf2 xf3 xf4 xf5 xf6 yf0 yf1 yf2 yf3 yf4 yf5 yf6 zf0 zf1 zf2 zf3 zf4 vf0 vf1 vf2 vf3 vf4 vf5 vf6
  refine Qt.regionAll (by kernel_rfl) (by kernel_rfl) ?_
  intro T f F hne
  have RB := Lib.hid (fun g => B5.out.up (F.below g))
  have RT := Lib.hid (fun g => T5.out.below (F.below g))
  have RI := Lib.hid (fun g => I5.out.below (F.below g))
  have RX := fun g => X5.up (F.below g)
  have RX0 := fun g => (RX g).c0
  have RX1 := fun g => (RX g).c1
  have RX2 := fun g => (RX g).c2
  have RY := fun g => Y5.up (F.below g)
  have RY0 := fun g => (RY g).c0
  have RY1 := fun g => (RY g).c1
  have RY2 := fun g => (RY g).c2
  have RZ := fun g => Z5.up (F.below g)
  have RZ0 := fun g => (RZ g).c0
  have RZ1 := fun g => (RZ g).c1
  have RV := fun g => V5.up (F.below g)
  have RV0 := fun g => (RV g).c0
  have RV1 := fun g => (RV g).c1
  have RV2 := fun g => (RV g).c2
  repeat (go_big_quiet_step (first | (go_at_call 23; with_reducible exact F.call (KR.out _)) | (go_at_call 16; with_reducible exact F.call (checkI_ok D N _ KI.out))))
  refine wpQuiet_nil ?_
  rintro _ ⟨g, rfl⟩
  have B6 := Lib.hid (RB.out g)
  have T6 := Lib.hid (RT.out g)
  have I6 := Lib.hid (RI.out g)
  have X6 := RX g
  have Y6 := RY g
  have Z6 := RZ g
  have V6 := RV g
  clear F RB hne RT RI RX RX0 RX1 RX2 RY RY0 RY1 RY2 RZ RZ0 RZ1 RV RV0 RV1 RV2 B5 T5 I5 X5 Y5 Z5 V5
  generalize f g = w6 at *
  clear f
  obtain ⟨xf0, xf1, xf2, xf3, xf4, xf5, xf6⟩ := id X6
  obtain ⟨yf0, yf1, yf2, yf3, yf4, yf5, yf6⟩ := id Y6
  obtain ⟨zf0, zf1, zf2, zf3, zf4⟩ := id Z6
  obtain ⟨vf0, vf1, vf2, vf3, vf4, vf5, vf6⟩ := id V6
  go_wp2_with fail
  go_ret
  exact ⟨by first | rfl | (simp; done), B6.out.out⟩
theorem law_IntervalBetween (s a o r b q : Int) (w : World) (ht : PT w) (hi : IT w) :
    Calls Tryd.prog 5 #[.agg #[.int .i64 s, .int .i64 a, .int .i64 o], .agg #[.int .i64 r, .int .i64 b, .int .i64 q]] w fun e w' => e = .returned (.bool true) ∧ Below w.heap.size w w' := by
  by_cases h : Pit s a o
  · by_cases k : Pit r b q
    · exact btLaw3 s a o r b q w h k ht hi
    · exact btLaw2 s a o r b q w h k ht hi
  · exact btLaw1 s a o r b q w h ht hi
end Go.Proofs.YtfbogakmhaiddaaDoor
