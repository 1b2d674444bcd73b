/- Intervals: the chapter's examples. -/
import Derived.Test.YtfbogakmhaiddaaDoorIi
import Derived.Test.YtfbogakmhaiddaaDoorIb
import Derived.Test.YtfbogakmhaiddaaDoorShelf
namespace Go.Proofs.YtfbogakmhaiddaaDoor
open Go.RowKit
set_option linter.unusedVariables false
set_option linter.unusedSimpArgs false

set_option maxHeartbeats 1000000 in
theorem repeat_one (s : ByteArray) (w : World) :
    Calls Tryd.prog 68 #[.string s, .int .i64 1] w fun e w' => e = .returned (.string s) ∧ w = w' := by
  go_enter Tryd.func68, Tryd.ntmps68
  go_wp2_with fail
  go_ret
  exact ⟨rfl, rfl⟩
theorem itoa_three (w : World) : Calls Tryd.prog 69 #[.int .i64 3] w fun e w' => e = .returned (.string ⟨#[51]⟩) ∧ w = w' :=
  (Tryd.strconv_Itoa_small 3 (by omega) w).mono fun e w' ⟨he, hw⟩ => ⟨by rw [he]; simp [Lib.decDigits], hw.symm⟩
set_option maxRecDepth 100000 in
set_option maxHeartbeats 2000000 in
theorem short_known  (w : World) (hi : IT w) :
    Calls Tryd.prog 58 #[.agg #[.int .i64 2, .int .i64 3]] w fun e w' => e = .returned (.string ⟨#[109, 51]⟩) ∧ Below w.heap.size w w' := by
  have B0 := Lib.hid ((Bel.refl w).alloc (.cells #[.int .i64 2, .int .i64 3] 23))
  have I0 := Lib.hid (hi.below ((Below.refl _ _).alloc (Nat.le_refl _) (.cells #[.int .i64 2, .int .i64 3] 23)))
  have X0 := Duo.new w (.int .i64 2) (.int .i64 3) 23 (w.heap.size) (by simp)
  go_enter Tryd.func58, Tryd.ntmps58
  obtain ⟨xf0, xf1, xf2, xf3, xf4⟩ := id X0
  go_wp2_with fail
  clear xf0 xf1 xf2 xf3 xf4
  refine (qualOf_ok 2 3 _ (by omega) (by omega) (by omega) (by omega) I0.out).mono ?_
  rintro e w1 ⟨rfl, hb⟩
  rw [show qualI 2 3 = (-1, 0) from by decide]
  have B1 := Lib.hid (B0.out.up hb)
  have I1 := Lib.hid (I0.out.below hb)
  have X1 := X0.up hb
  clear hb B0 I0 X0
  obtain ⟨xf0, xf1, xf2, xf3, xf4⟩ := id X1
  go_wp2_with fail
  clear xf0 xf1 xf2 xf3 xf4
  refine Qt.regionAll (by kernel_rfl) (by kernel_rfl) ?_
  intro T f F hne
  have RB := Lib.hid (fun g => B1.out.up (F.below g))
  have RI := Lib.hid (fun g => I1.out.below (F.below g))
  have RX := fun g => X1.up (F.below g)
  have RX0 := fun g => (RX g).c0
  have RX1 := fun g => (RX g).c1
  repeat (go_big_quiet_step (first | (go_at_call 68; exact F.callSame (repeat_one _ _)) | (go_at_call 69; exact F.callSame (itoa_three _))))
  refine wpQuiet_nil ?_
  rintro _ ⟨g, rfl⟩
  have B2 := Lib.hid (RB.out g)
  have I2 := Lib.hid (RI.out g)
  have X2 := RX g
  clear F RB hne RI RX RX0 RX1 B1 I1 X1
  generalize f g = w2 at *
  clear f
  obtain ⟨xf0, xf1, xf2, xf3, xf4⟩ := id X2
  go_wp2_with fail
  go_ret
  exact ⟨by first | rfl | (simp; done) | decide, B2.out.out⟩
def dwn (t m : Int) : Prop := t < 0 ∨ (t = 0 ∧ m < 0)
instance (t m : Int) : Decidable (dwn t m) := inferInstanceAs (Decidable (t < 0 ∨ (t = 0 ∧ m < 0)))
set_option maxHeartbeats 1000000 in
theorem desc_any (t m : Int) (w : World) :
    Calls Tryd.prog 52 #[.agg #[.int .i64 t, .int .i64 m]] w fun e w' => e = .returned (.bool (decide (dwn t m))) ∧ Below w.heap.size w w' := by
  rcases (show t < 0 ∨ (t = 0 ∧ m < 0) ∨ (t = 0 ∧ ¬ m < 0) ∨ 0 < t by omega) with h | ⟨rfl, h⟩ | ⟨rfl, h⟩ | h
  · rw [show (decide (dwn _ m)) = true from by simp only [decide_eq_true_eq]; unfold dwn; omega]
    go_enter Tryd.func52, Tryd.ntmps52
    go_wp2_with fail
    try (go_quiet (fail); go_wp2_with fail)
    go_ret
    exact ⟨by first | rfl | (simp [go_sem]; done) | (simp [go_sem]; omega), by first | exact (Below.refl _ _).alloc (Nat.le_refl _) _ | exact below_drewN ((Below.refl _ _).alloc (Nat.le_refl _) _) _⟩
  · rw [show (decide (dwn _ m)) = true from by simp only [decide_eq_true_eq]; unfold dwn; omega]
    go_enter Tryd.func52, Tryd.ntmps52
    go_wp2_with fail
    try (go_quiet (fail); go_wp2_with fail)
    go_ret
    exact ⟨by first | rfl | (simp [go_sem]; done) | (simp [go_sem]; omega), by first | exact (Below.refl _ _).alloc (Nat.le_refl _) _ | exact below_drewN ((Below.refl _ _).alloc (Nat.le_refl _) _) _⟩
  · rw [show (decide (dwn _ m)) = false from by simp only [decide_eq_false_iff_not]; unfold dwn; omega]
    go_enter Tryd.func52, Tryd.ntmps52
    go_wp2_with fail
    try (go_quiet (fail); go_wp2_with fail)
    go_ret
    exact ⟨by first | rfl | (simp [go_sem]; done) | (simp [go_sem]; omega), by first | exact (Below.refl _ _).alloc (Nat.le_refl _) _ | exact below_drewN ((Below.refl _ _).alloc (Nat.le_refl _) _) _⟩
  · rw [show (decide (dwn _ m)) = false from by simp only [decide_eq_false_iff_not]; unfold dwn; omega]
    go_enter Tryd.func52, Tryd.ntmps52
    go_wp2_with fail
    try (go_quiet (fail); go_wp2_with fail)
    go_ret
    exact ⟨by first | rfl | (simp [go_sem]; done) | (simp [go_sem]; omega), by first | exact (Below.refl _ _).alloc (Nat.le_refl _) _ | exact below_drewN ((Below.refl _ _).alloc (Nat.le_refl _) _) _⟩
set_option maxRecDepth 100000 in
set_option maxHeartbeats 2000000 in
theorem desc_known  (w : World) (hi : IT w) :
    Calls Tryd.prog 57 #[.agg #[.int .i64 2, .int .i64 3], .string ⟨#[45]⟩, .func (.func 58) #[] #[]] w fun e w' => e = .returned (.tuple #[.string ⟨#[109, 51]⟩, .int .i64 0]) ∧ Below w.heap.size w w' := by
  have B0 := Lib.hid ((Bel.refl w).alloc (.cells #[.int .i64 2, .int .i64 3] 23))
  have I0 := Lib.hid (hi.below ((Below.refl _ _).alloc (Nat.le_refl _) (.cells #[.int .i64 2, .int .i64 3] 23)))
  have X0 := Duo.new w (.int .i64 2) (.int .i64 3) 23 (w.heap.size) (by simp)
  go_enter Tryd.func57, Tryd.ntmps57
  obtain ⟨xf0, xf1, xf2, xf3, xf4⟩ := id X0
  go_wp2_with fail
  clear xf0 xf1 xf2 xf3 xf4
  refine (checkI_ok 2 3 _ ⟨by omega, by omega, by omega, by omega⟩).mono ?_
  rintro e w1 ⟨rfl, hb⟩
  have B1 := Lib.hid (B0.out.up hb)
  have I1 := Lib.hid (I0.out.below hb)
  have X1 := X0.up hb
  clear hb B0 I0 X0
  obtain ⟨xf0, xf1, xf2, xf3, xf4⟩ := id X1
  go_wp2_with fail
  clear xf0 xf1 xf2 xf3 xf4
  refine (desc_any 2 3 _).mono ?_
  rintro e w2 ⟨rfl, hb⟩
  rw [show (decide (dwn 2 3)) = false from by decide]
  have B2 := Lib.hid (B1.out.up hb)
  have I2 := Lib.hid (I1.out.below hb)
  have X2 := X1.up hb
  clear hb B1 I1 X1
  obtain ⟨xf0, xf1, xf2, xf3, xf4⟩ := id X2
  go_wp2_with fail
  clear xf0 xf1 xf2 xf3 xf4
  refine (short_known _ I2.out).mono ?_
  rintro e w3 ⟨rfl, hb⟩
  have B3 := Lib.hid (B2.out.up hb)
  have I3 := Lib.hid (I2.out.below hb)
  have X3 := X2.up hb
  clear hb B2 I2 X2
  obtain ⟨xf0, xf1, xf2, xf3, xf4⟩ := id X3
  go_wp2_with fail
  go_ret2
  exact ⟨rfl, B3.out.out⟩
set_option maxRecDepth 100000 in
set_option maxHeartbeats 2000000 in
theorem text_known  (w : World) (hi : IT w) :
    Calls Tryd.prog 38 #[.agg #[.int .i64 2, .int .i64 3]] w fun e w' => e = .returned (.tuple #[.string ⟨#[109, 51]⟩, .int .i64 0]) ∧ Below w.heap.size w w' := by
  have B0 := Lib.hid ((Bel.refl w).alloc (.cells #[.int .i64 2, .int .i64 3] 23))
  have I0 := Lib.hid (hi.below ((Below.refl _ _).alloc (Nat.le_refl _) (.cells #[.int .i64 2, .int .i64 3] 23)))
  have X0 := Duo.new w (.int .i64 2) (.int .i64 3) 23 (w.heap.size) (by simp)
  go_enter Tryd.func38, Tryd.ntmps38
  obtain ⟨xf0, xf1, xf2, xf3, xf4⟩ := id X0
  go_wp2_with fail
  clear xf0 xf1 xf2 xf3 xf4
  refine (desc_known _ I0.out).mono ?_
  rintro e w1 ⟨rfl, hb⟩
  have B1 := Lib.hid (B0.out.up hb)
  have I1 := Lib.hid (I0.out.below hb)
  have X1 := X0.up hb
  clear hb B0 I0 X0
  obtain ⟨xf0, xf1, xf2, xf3, xf4⟩ := id X1
  go_wp2_with fail
  go_ret2
  exact ⟨rfl, B1.out.out⟩
theorem betw_known (w : World) (ht : PT w) :
    Calls Tryd.prog 20 #[.agg #[.int .i64 0, .int .i64 0, .int .i64 4], .agg #[.int .i64 2, .int .i64 (-1), .int .i64 4]] w fun e w' => e = .returned (.tuple #[.agg #[.int .i64 2, .int .i64 3], .int .i64 0]) ∧ Below w.heap.size w w' :=
  betw_ok 0 0 4 2 (-1) 4 w (by decide) (by decide) ht
theorem transp_known (w : World) (ht : PT w) :
    Calls Tryd.prog 25 #[.agg #[.int .i64 3, .int .i64 2, .int .i64 4], .agg #[.int .i64 0, .int .i64 1]] w fun e w' => e = .returned (.tuple #[.agg #[.int .i64 4, .int .i64 1, .int .i64 4], .int .i64 0]) ∧ Below w.heap.size w w' :=
  transp_ok 3 2 4 0 1 (4, 1, 4) (4, 1, 4) w (by decide) (by decide) (by decide) (by decide) (by decide) (by decide) ht
set_option maxRecDepth 100000 in
set_option maxHeartbeats 2000000 in
theorem known_any  (w : World) (ht : PT w) (hi : IT w) :
    Calls Tryd.prog 15 #[] w fun e w' => e = .returned (.bool true) ∧ Below w.heap.size w w' := by
  have B0 := Lib.hid (Bel.refl w)
  have T0 := Lib.hid ht
  have I0 := Lib.hid hi
  go_enter Tryd.func15, Tryd.ntmps15
  go_wp2_with fail
  refine (betw_known _ T0.out).mono ?_
  rintro e w1 ⟨rfl, hb⟩
  have B1 := Lib.hid ((B0.out.up hb).alloc (.cells #[.int .i64 2, .int .i64 3] 23))
  have T1 := Lib.hid ((T0.out.below hb).below ((Below.refl _ _).alloc (Nat.le_refl _) (.cells #[.int .i64 2, .int .i64 3] 23)))
  have I1 := Lib.hid ((I0.out.below hb).below ((Below.refl _ _).alloc (Nat.le_refl _) (.cells #[.int .i64 2, .int .i64 3] 23)))
  have A1 := Duo.new w1 (.int .i64 2) (.int .i64 3) 23 (w1.heap.size) (by simp)
  clear hb B0 T0 I0 
  obtain ⟨af0, af1, af2, af3, af4⟩ := id A1
  go_wp2_with fail
  clear af0 af1 af2 af3 af4
  refine (text_known _ I1.out).mono ?_
  rintro e w2 ⟨rfl, hb⟩
  have B2 := Lib.hid (B1.out.up hb)
  have T2 := Lib.hid (T1.out.below hb)
  have I2 := Lib.hid (I1.out.below hb)
  have A2 := A1.up hb
  clear hb B1 T1 I1 A1
  obtain ⟨af0, af1, af2, af3, af4⟩ := id A2
  go_wp2_with fail
  clear af0 af1 af2 af3 af4
  refine (transp_known _ T2.out).mono ?_
  rintro e w3 ⟨rfl, hb⟩
  have B3 := Lib.hid ((B2.out.up hb).alloc (.cells #[.int .i64 4, .int .i64 1, .int .i64 4] 41))
  have T3 := Lib.hid ((T2.out.below hb).below ((Below.refl _ _).alloc (Nat.le_refl _) (.cells #[.int .i64 4, .int .i64 1, .int .i64 4] 41)))
  have I3 := Lib.hid ((I2.out.below hb).below ((Below.refl _ _).alloc (Nat.le_refl _) (.cells #[.int .i64 4, .int .i64 1, .int .i64 4] 41)))
  have A3 := (A2.up hb).alloc (.cells #[.int .i64 4, .int .i64 1, .int .i64 4] 41)
  have Q3 := Tri.new w3 (.int .i64 4) (.int .i64 1) (.int .i64 4) 41 (w3.heap.size) (by simp)
  clear hb B2 T2 I2 A2
  obtain ⟨af0, af1, af2, af3, af4⟩ := id A3
  obtain ⟨qf0, qf1, qf2, qf3, qf4, qf5, qf6⟩ := id Q3
  go_wp2_with fail
  go_ret
  exact ⟨by first | rfl | simp, B3.out.out⟩
end Go.Proofs.YtfbogakmhaiddaaDoor
