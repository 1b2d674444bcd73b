/- Intervals: the places of pitches, Between. -/
import Derived.Test.YtfbogakmhaiddaaDoorIa
import Derived.Test.YtfbogakmhaiddaaDoorQn
namespace Go.Proofs.YtfbogakmhaiddaaDoor
open Go.RowKit
set_option linter.unusedVariables false
set_option linter.unusedSimpArgs false

set_option maxRecDepth 100000 in
set_option maxHeartbeats 2000000 in
theorem place_ok (s a o : Int) (w : World) (h : Pit s a o) (ht : PT w) :
    Calls Tryd.prog 39 #[.agg #[.int .i64 s, .int .i64 a, .int .i64 o]] w fun e w' => e = .returned (.tuple #[.agg #[.int .i64 (diaP s o), .int .i64 (numP s a o)], .int .i64 0]) ∧ Below w.heap.size w w' := by
  have B0 := Lib.hid (((Bel.refl w).alloc (.cells #[.int .i64 s, .int .i64 a, .int .i64 o] 41)).alloc (.cells #[.int .i64 0, .int .i64 0] 68))
  have T0 := Lib.hid ((ht.below ((Below.refl _ _).alloc (Nat.le_refl _) (.cells #[.int .i64 s, .int .i64 a, .int .i64 o] 41))).below ((Below.refl _ _).alloc (Nat.le_refl _) (.cells #[.int .i64 0, .int .i64 0] 68)))
  have X0 := (Tri.new w (.int .i64 s) (.int .i64 a) (.int .i64 o) 41 (w.heap.size) (by simp)).alloc (.cells #[.int .i64 0, .int .i64 0] 68)
  have R0 := Duo.new (w.alloc (.cells #[.int .i64 s, .int .i64 a, .int .i64 o] 41)) (.int .i64 0) (.int .i64 0) 68 (w.heap.size + 1) (by simp)
  have HP := Lib.hid h
  go_enter Tryd.func39, Tryd.ntmps39
  obtain ⟨xf0, xf1, xf2, xf3, xf4, xf5, xf6⟩ := id X0
  obtain ⟨rf0, rf1, rf2, rf3, rf4⟩ := id R0
  go_wp2_with fail
  clear xf0 xf1 xf2 xf3 xf4 xf5 xf6 rf0 rf1 rf2 rf3 rf4
  refine (dia2_ok s a o _ HP.out T0.out).mono ?_
  rintro e w1 ⟨rfl, hb⟩
  have B1 := Lib.hid (B0.out.up hb)
  have T1 := Lib.hid (T0.out.below hb)
  have X1 := X0.up hb
  have R1 := R0.up hb
  clear hb B0 T0 X0 R0
  obtain ⟨xf0, xf1, xf2, xf3, xf4, xf5, xf6⟩ := id X1
  obtain ⟨rf0, rf1, rf2, rf3, rf4⟩ := id R1
  go_wp2_with fail
  clear xf0 xf1 xf2 xf3 xf4 xf5 xf6 rf0 rf1 rf2 rf3 rf4
  refine (number2_ok s a o _ HP.out T1.out).mono ?_
  rintro e w2 ⟨rfl, hb⟩
  have B2 := Lib.hid (B1.out.up hb)
  have T2 := Lib.hid (T1.out.below hb)
  have X2 := X1.up hb
  have R2 := R1.up hb
  clear hb B1 T1 X1 R1
  obtain ⟨xf0, xf1, xf2, xf3, xf4, xf5, xf6⟩ := id X2
  obtain ⟨rf0, rf1, rf2, rf3, rf4⟩ := id R2
  go_wp2_with fail
  have Tf := R2.store (u := .int .i64 (diaP s o)) (v := .int .i64 (numP s a o))
  exact bodyPost_ret (v := .tuple #[.agg #[.int .i64 (diaP s o), .int .i64 (numP s a o)], .int .i64 0]) (by first | (simp [results, Tryd.results39, go_sem, Tf.c0, Tf.c1]; done) | (simp [results, Tryd.results39, go_sem, Tf.c0, Tf.c1]; omega)) rfl ⟨rfl, ((B2.out.set (Nat.le_succ _) _ _).set (Nat.le_succ _) _ _)⟩
set_option maxRecDepth 100000 in
set_option maxHeartbeats 2000000 in
theorem place_bad (s a o : Int) (w : World) (h : ¬ Pit s a o) (ht : PT w) :
    Calls Tryd.prog 39 #[.agg #[.int .i64 s, .int .i64 a, .int .i64 o]] w fun e w' => e = .returned (.tuple #[.agg #[.int .i64 0, .int .i64 0], .int .i64 18]) ∧ Below w.heap.size w w' := by
  have B0 := Lib.hid (((Bel.refl w).alloc (.cells #[.int .i64 s, .int .i64 a, .int .i64 o] 41)).alloc (.cells #[.int .i64 0, .int .i64 0] 68))
  have T0 := Lib.hid ((ht.below ((Below.refl _ _).alloc (Nat.le_refl _) (.cells #[.int .i64 s, .int .i64 a, .int .i64 o] 41))).below ((Below.refl _ _).alloc (Nat.le_refl _) (.cells #[.int .i64 0, .int .i64 0] 68)))
  have X0 := (Tri.new w (.int .i64 s) (.int .i64 a) (.int .i64 o) 41 (w.heap.size) (by simp)).alloc (.cells #[.int .i64 0, .int .i64 0] 68)
  have R0 := Duo.new (w.alloc (.cells #[.int .i64 s, .int .i64 a, .int .i64 o] 41)) (.int .i64 0) (.int .i64 0) 68 (w.heap.size + 1) (by simp)
  have HP := Lib.hid h
  go_enter Tryd.func39, Tryd.ntmps39
  obtain ⟨xf0, xf1, xf2, xf3, xf4, xf5, xf6⟩ := id X0
  obtain ⟨rf0, rf1, rf2, rf3, rf4⟩ := id R0
  go_wp2_with fail
  clear xf0 xf1 xf2 xf3 xf4 xf5 xf6 rf0 rf1 rf2 rf3 rf4
  refine (dia2_bad s a o _ HP.out T0.out).mono ?_
  rintro e w1 ⟨rfl, hb⟩
  have B1 := Lib.hid (B0.out.up hb)
  have T1 := Lib.hid (T0.out.below hb)
  have X1 := X0.up hb
  have R1 := R0.up hb
  clear hb B0 T0 X0 R0
  obtain ⟨xf0, xf1, xf2, xf3, xf4, xf5, xf6⟩ := id X1
  obtain ⟨rf0, rf1, rf2, rf3, rf4⟩ := id R1
  go_wp2_with fail
  have Tf := R1.store (u := .int .i64 0) (v := .int .i64 0)
  exact bodyPost_ret (v := .tuple #[.agg #[.int .i64 0, .int .i64 0], .int .i64 18]) (by first | (simp [results, Tryd.results39, go_sem, Tf.c0, Tf.c1]; done) | (simp [results, Tryd.results39, go_sem, Tf.c0, Tf.c1]; omega)) rfl ⟨rfl, ((B1.out.set (Nat.le_succ _) _ _).set (Nat.le_succ _) _ _)⟩
end Go.Proofs.YtfbogakmhaiddaaDoor
