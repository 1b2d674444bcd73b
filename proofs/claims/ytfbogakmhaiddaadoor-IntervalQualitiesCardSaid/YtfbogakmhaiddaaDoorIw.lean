/- Intervals: Quality, Simple, Invert. -/
import Derived.Test.YtfbogakmhaiddaaDoorIj
import Derived.Test.YtfbogakmhaiddaaDoorIl
namespace Go.Proofs.YtfbogakmhaiddaaDoor
open Go.RowKit
set_option linter.unusedVariables false
set_option linter.unusedSimpArgs false

set_option maxHeartbeats 1000000 in
theorem rdown_any (t m : Int) (w : World) :
    Calls Tryd.prog 56 #[.agg #[.int .i64 t, .int .i64 m]] w fun e w' => e = .returned (.bool (decide (dwn t m))) ∧ Below w.heap.size w w' := by
  rcases (show t < 0 ∨ (t = 0 ∧ m < 0) ∨ (t = 0 ∧ ¬ m < 0) ∨ 0 < t by omega) with h | ⟨rfl, h⟩ | ⟨rfl, h⟩ | h
  · rw [show (decide (dwn _ m)) = true from by simp only [decide_eq_true_eq]; unfold dwn; omega]
    go_enter Tryd.func56, Tryd.ntmps56
    go_wp2_with fail
    try (go_quiet (fail); go_wp2_with fail)
    go_ret
    exact ⟨by first | rfl | (simp [go_sem]; done) | (simp [go_sem]; omega), by first | exact (Below.refl _ _).alloc (Nat.le_refl _) _ | exact below_drewN ((Below.refl _ _).alloc (Nat.le_refl _) _) _⟩
  · rw [show (decide (dwn _ m)) = true from by simp only [decide_eq_true_eq]; unfold dwn; omega]
    go_enter Tryd.func56, Tryd.ntmps56
    go_wp2_with fail
    try (go_quiet (fail); go_wp2_with fail)
    go_ret
    exact ⟨by first | rfl | (simp [go_sem]; done) | (simp [go_sem]; omega), by first | exact (Below.refl _ _).alloc (Nat.le_refl _) _ | exact below_drewN ((Below.refl _ _).alloc (Nat.le_refl _) _) _⟩
  · rw [show (decide (dwn _ m)) = false from by simp only [decide_eq_false_iff_not]; unfold dwn; omega]
    go_enter Tryd.func56, Tryd.ntmps56
    go_wp2_with fail
    try (go_quiet (fail); go_wp2_with fail)
    go_ret
    exact ⟨by first | rfl | (simp [go_sem]; done) | (simp [go_sem]; omega), by first | exact (Below.refl _ _).alloc (Nat.le_refl _) _ | exact below_drewN ((Below.refl _ _).alloc (Nat.le_refl _) _) _⟩
  · rw [show (decide (dwn _ m)) = false from by simp only [decide_eq_false_iff_not]; unfold dwn; omega]
    go_enter Tryd.func56, Tryd.ntmps56
    go_wp2_with fail
    try (go_quiet (fail); go_wp2_with fail)
    go_ret
    exact ⟨by first | rfl | (simp [go_sem]; done) | (simp [go_sem]; omega), by first | exact (Below.refl _ _).alloc (Nat.le_refl _) _ | exact below_drewN ((Below.refl _ _).alloc (Nat.le_refl _) _) _⟩
theorem desc_y (t m : Int) (w : World) (h : dwn t m) :
    Calls Tryd.prog 52 #[.agg #[.int .i64 t, .int .i64 m]] w fun e w' => e = .returned (.bool true) ∧ Below w.heap.size w w' := by
  have := desc_any t m w
  rwa [show decide (dwn t m) = true by simp [h]] at this
theorem desc_n (t m : Int) (w : World) (h : ¬ dwn t m) :
    Calls Tryd.prog 52 #[.agg #[.int .i64 t, .int .i64 m]] w fun e w' => e = .returned (.bool false) ∧ Below w.heap.size w w' := by
  have := desc_any t m w
  rwa [show decide (dwn t m) = false by simp [h]] at this
theorem rdown_y (t m : Int) (w : World) (h : dwn t m) :
    Calls Tryd.prog 56 #[.agg #[.int .i64 t, .int .i64 m]] w fun e w' => e = .returned (.bool true) ∧ Below w.heap.size w w' := by
  have := rdown_any t m w
  rwa [show decide (dwn t m) = true by simp [h]] at this
theorem rdown_n (t m : Int) (w : World) (h : ¬ dwn t m) :
    Calls Tryd.prog 56 #[.agg #[.int .i64 t, .int .i64 m]] w fun e w' => e = .returned (.bool false) ∧ Below w.heap.size w w' := by
  have := rdown_any t m w
  rwa [show decide (dwn t m) = false by simp [h]] at this
set_option maxRecDepth 100000 in
set_option maxHeartbeats 2000000 in
theorem octave_ok  (w : World)  :
    Calls Tryd.prog 54 #[] w fun e w' => e = .returned (.agg #[.int .i64 7, .int .i64 12]) ∧ Below w.heap.size w w' := by
  have B0 := Lib.hid ((Bel.refl w).alloc (.cells #[.int .i64 0, .int .i64 0] 23))
  have R0 := Duo.new w (.int .i64 0) (.int .i64 0) 23 (w.heap.size) (by simp)
  go_enter Tryd.func54, Tryd.ntmps54
  obtain ⟨rf0, rf1, rf2, rf3, rf4⟩ := id R0
  go_wp2_with fail
  exact bodyPost_ret (v := .agg #[.int .i64 7, .int .i64 12]) (by simp [results, Tryd.results54, go_sem]) rfl ⟨rfl, (Below.refl _ _).alloc (Nat.le_refl _) _⟩
set_option maxRecDepth 100000 in
set_option maxHeartbeats 2000000 in
theorem up_n (t m : Int) (w : World) (h : Iv t m) (hd : ¬ dwn t m) :
    Calls Tryd.prog 55 #[.agg #[.int .i64 t, .int .i64 m]] w fun e w' => e = .returned (.agg #[.int .i64 t, .int .i64 m]) ∧ Below w.heap.size w w' := by
  have B0 := Lib.hid (((Bel.refl w).alloc (.cells #[.int .i64 t, .int .i64 m] 23)).alloc (.cells #[.int .i64 0, .int .i64 0] 23))
  have X0 := (Duo.new w (.int .i64 t) (.int .i64 m) 23 (w.heap.size) (by simp)).alloc (.cells #[.int .i64 0, .int .i64 0] 23)
  have R0 := Duo.new (w.alloc (.cells #[.int .i64 t, .int .i64 m] 23)) (.int .i64 0) (.int .i64 0) 23 (w.heap.size + 1) (by simp)
  have HD := Lib.hid hd
  go_enter Tryd.func55, Tryd.ntmps55
  obtain ⟨xf0, xf1, xf2, xf3, xf4⟩ := id X0
  obtain ⟨rf0, rf1, rf2, rf3, rf4⟩ := id R0
  go_wp2_with fail
  clear xf0 xf1 xf2 xf3 xf4 rf0 rf1 rf2 rf3 rf4
  refine (rdown_n t m _ HD.out).mono ?_
  rintro e w1 ⟨rfl, hb⟩
  have B1 := Lib.hid (B0.out.up hb)
  have X1 := X0.up hb
  have R1 := R0.up hb
  clear hb B0  X0 R0
  obtain ⟨xf0, xf1, xf2, xf3, xf4⟩ := id X1
  obtain ⟨rf0, rf1, rf2, rf3, rf4⟩ := id R1
  go_wp2_with fail
  have Tf := R1.store (u := .int .i64 t) (v := .int .i64 m)
  exact bodyPost_ret (v := .agg #[.int .i64 t, .int .i64 m]) (by first | (simp [results, Tryd.results55, go_sem, Tf.c0, Tf.c1]; done) | (simp [results, Tryd.results55, go_sem, Tf.c0, Tf.c1]; omega)) rfl ⟨rfl, ((B1.out.set (Nat.le_succ _) _ _).set (Nat.le_succ _) _ _)⟩
set_option maxRecDepth 100000 in
set_option maxHeartbeats 2000000 in
theorem up_y (t m : Int) (w : World) (h : Iv t m) (hd : dwn t m) :
    Calls Tryd.prog 55 #[.agg #[.int .i64 t, .int .i64 m]] w fun e w' => e = .returned (.agg #[.int .i64 (-t), .int .i64 (-m)]) ∧ Below w.heap.size w w' := by
  have B0 := Lib.hid (((Bel.refl w).alloc (.cells #[.int .i64 t, .int .i64 m] 23)).alloc (.cells #[.int .i64 0, .int .i64 0] 23))
  have X0 := (Duo.new w (.int .i64 t) (.int .i64 m) 23 (w.heap.size) (by simp)).alloc (.cells #[.int .i64 0, .int .i64 0] 23)
  have R0 := Duo.new (w.alloc (.cells #[.int .i64 t, .int .i64 m] 23)) (.int .i64 0) (.int .i64 0) 23 (w.heap.size + 1) (by simp)
  have HD := Lib.hid hd
  obtain ⟨t0, t1, m0, m1⟩ := h
  go_enter Tryd.func55, Tryd.ntmps55
  obtain ⟨xf0, xf1, xf2, xf3, xf4⟩ := id X0
  obtain ⟨rf0, rf1, rf2, rf3, rf4⟩ := id R0
  go_wp2_with fail
  clear xf0 xf1 xf2 xf3 xf4 rf0 rf1 rf2 rf3 rf4
  refine (rdown_y t m _ HD.out).mono ?_
  rintro e w1 ⟨rfl, hb⟩
  have B1 := Lib.hid (B0.out.up hb)
  have X1 := X0.up hb
  have R1 := R0.up hb
  clear hb B0  X0 R0
  obtain ⟨xf0, xf1, xf2, xf3, xf4⟩ := id X1
  obtain ⟨rf0, rf1, rf2, rf3, rf4⟩ := id R1
  go_wp2_with fail
  try (go_quiet (fail); go_wp2_with fail)
  first
    | (have Tf := R1.store (u := .int .i64 (-t)) (v := .int .i64 (-m))
       exact bodyPost_ret (v := .agg #[.int .i64 (-t), .int .i64 (-m)]) (by simp [results, Tryd.results55, go_sem, Tf.c0, Tf.c1]) rfl ⟨rfl, ((B1.out.set (Nat.le_succ _) _ _).set (Nat.le_succ _) _ _)⟩)
end Go.Proofs.YtfbogakmhaiddaaDoor
