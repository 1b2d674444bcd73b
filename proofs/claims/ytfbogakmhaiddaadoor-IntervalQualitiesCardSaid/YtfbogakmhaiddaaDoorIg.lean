/- Intervals: Exact and Transpose. -/
import Derived.Test.YtfbogakmhaiddaaDoorIf
namespace Go.Proofs.YtfbogakmhaiddaaDoor
open Go.RowKit
set_option linter.unusedVariables false
set_option linter.unusedSimpArgs false

set_option maxRecDepth 100000 in
set_option maxHeartbeats 2000000 in
theorem exact_b1 (s a o t m : Int) (w : World) (h : ¬ Pit s a o) (ht : PT w) :
    Calls Tryd.prog 22 #[.agg #[.int .i64 s, .int .i64 a, .int .i64 o], .agg #[.int .i64 t, .int .i64 m]] w fun e w' => e = .returned (.tuple #[.agg #[.int .i64 0, .int .i64 0, .int .i64 0], .int .i64 18]) ∧ Below w.heap.size w w' := by
  have B0 := Lib.hid ((((Bel.refl w).alloc (.cells #[.int .i64 s, .int .i64 a, .int .i64 o] 41)).alloc (.cells #[.int .i64 t, .int .i64 m] 23)).alloc (.cells #[.int .i64 0, .int .i64 0, .int .i64 0] 41))
  have T0 := Lib.hid (((ht.below ((Below.refl _ _).alloc (Nat.le_refl _) (.cells #[.int .i64 s, .int .i64 a, .int .i64 o] 41))).below ((Below.refl _ _).alloc (Nat.le_refl _) (.cells #[.int .i64 t, .int .i64 m] 23))).below ((Below.refl _ _).alloc (Nat.le_refl _) (.cells #[.int .i64 0, .int .i64 0, .int .i64 0] 41)))
  have X0 := ((Tri.new w (.int .i64 s) (.int .i64 a) (.int .i64 o) 41 (w.heap.size) (by simp)).alloc (.cells #[.int .i64 t, .int .i64 m] 23)).alloc (.cells #[.int .i64 0, .int .i64 0, .int .i64 0] 41)
  have Y0 := (Duo.new (w.alloc (.cells #[.int .i64 s, .int .i64 a, .int .i64 o] 41)) (.int .i64 t) (.int .i64 m) 23 (w.heap.size + 1) (by simp)).alloc (.cells #[.int .i64 0, .int .i64 0, .int .i64 0] 41)
  have R0 := Tri.new ((w.alloc (.cells #[.int .i64 s, .int .i64 a, .int .i64 o] 41)).alloc (.cells #[.int .i64 t, .int .i64 m] 23)) (.int .i64 0) (.int .i64 0) (.int .i64 0) 41 (w.heap.size + 1 + 1) (by simp)
  have HP := Lib.hid h
  go_enter Tryd.func22, Tryd.ntmps22
  obtain ⟨xf0, xf1, xf2, xf3, xf4, xf5, xf6⟩ := id X0
  obtain ⟨yf0, yf1, yf2, yf3, yf4⟩ := id Y0
  obtain ⟨rf0, rf1, rf2, rf3, rf4, rf5, rf6⟩ := id R0
  go_wp2_with fail
  clear xf0 xf1 xf2 xf3 xf4 xf5 xf6 yf0 yf1 yf2 yf3 yf4 rf0 rf1 rf2 rf3 rf4 rf5 rf6
  refine (reach_b1 s a o t m _ HP.out T0.out).mono ?_
  rintro e w1 ⟨rfl, hb⟩
  have B1 := Lib.hid ((B0.out.up hb).alloc (.cells #[.int .i64 0] 3))
  have T1 := Lib.hid ((T0.out.below hb).below ((Below.refl _ _).alloc (Nat.le_refl _) (.cells #[.int .i64 0] 3)))
  have X1 := (X0.up hb).alloc (.cells #[.int .i64 0] 3)
  have Y1 := (Y0.up hb).alloc (.cells #[.int .i64 0] 3)
  have R1 := (R0.up hb).alloc (.cells #[.int .i64 0] 3)
  have V1 := Uno.new w1 (.int .i64 0) 3 (w1.heap.size) (by simp)
  clear hb B0 T0 X0 Y0 R0
  obtain ⟨xf0, xf1, xf2, xf3, xf4, xf5, xf6⟩ := id X1
  obtain ⟨yf0, yf1, yf2, yf3, yf4⟩ := id Y1
  obtain ⟨rf0, rf1, rf2, rf3, rf4, rf5, rf6⟩ := id R1
  obtain ⟨vf0, vf1, vf2⟩ := id V1
  go_wp2_with fail
  have Tf := R1.store (u := .int .i64 0) (v := .int .i64 0) (t := .int .i64 0)
  exact bodyPost_ret (v := .tuple #[.agg #[.int .i64 0, .int .i64 0, .int .i64 0], .int .i64 18]) (by first | (simp [results, Tryd.results22, go_sem, Tf.c0, Tf.c1, Tf.c2]; done) | (simp [results, Tryd.results22, go_sem, Tf.c0, Tf.c1, Tf.c2]; omega)) rfl ⟨rfl, (((B1.out.set (Nat.le_succ_of_le (Nat.le_succ _)) _ _).set (Nat.le_succ_of_le (Nat.le_succ _)) _ _).set (Nat.le_succ_of_le (Nat.le_succ _)) _ _)⟩
set_option maxRecDepth 100000 in
set_option maxHeartbeats 2000000 in
theorem exact_b2 (s a o t m : Int) (w : World) (h : Pit s a o) (k : ¬ Iv t m) (ht : PT w) :
    Calls Tryd.prog 22 #[.agg #[.int .i64 s, .int .i64 a, .int .i64 o], .agg #[.int .i64 t, .int .i64 m]] w fun e w' => e = .returned (.tuple #[.agg #[.int .i64 0, .int .i64 0, .int .i64 0], .int .i64 2]) ∧ Below w.heap.size w w' := by
  have B0 := Lib.hid ((((Bel.refl w).alloc (.cells #[.int .i64 s, .int .i64 a, .int .i64 o] 41)).alloc (.cells #[.int .i64 t, .int .i64 m] 23)).alloc (.cells #[.int .i64 0, .int .i64 0, .int .i64 0] 41))
  have T0 := Lib.hid (((ht.below ((Below.refl _ _).alloc (Nat.le_refl _) (.cells #[.int .i64 s, .int .i64 a, .int .i64 o] 41))).below ((Below.refl _ _).alloc (Nat.le_refl _) (.cells #[.int .i64 t, .int .i64 m] 23))).below ((Below.refl _ _).alloc (Nat.le_refl _) (.cells #[.int .i64 0, .int .i64 0, .int .i64 0] 41)))
  have X0 := ((Tri.new w (.int .i64 s) (.int .i64 a) (.int .i64 o) 41 (w.heap.size) (by simp)).alloc (.cells #[.int .i64 t, .int .i64 m] 23)).alloc (.cells #[.int .i64 0, .int .i64 0, .int .i64 0] 41)
  have Y0 := (Duo.new (w.alloc (.cells #[.int .i64 s, .int .i64 a, .int .i64 o] 41)) (.int .i64 t) (.int .i64 m) 23 (w.heap.size + 1) (by simp)).alloc (.cells #[.int .i64 0, .int .i64 0, .int .i64 0] 41)
  have R0 := Tri.new ((w.alloc (.cells #[.int .i64 s, .int .i64 a, .int .i64 o] 41)).alloc (.cells #[.int .i64 t, .int .i64 m] 23)) (.int .i64 0) (.int .i64 0) (.int .i64 0) 41 (w.heap.size + 1 + 1) (by simp)
  have HP := Lib.hid h
  have HQ := Lib.hid k
  go_enter Tryd.func22, Tryd.ntmps22
  obtain ⟨xf0, xf1, xf2, xf3, xf4, xf5, xf6⟩ := id X0
  obtain ⟨yf0, yf1, yf2, yf3, yf4⟩ := id Y0
  obtain ⟨rf0, rf1, rf2, rf3, rf4, rf5, rf6⟩ := id R0
  go_wp2_with fail
  clear xf0 xf1 xf2 xf3 xf4 xf5 xf6 yf0 yf1 yf2 yf3 yf4 rf0 rf1 rf2 rf3 rf4 rf5 rf6
  refine (reach_b2 s a o t m _ HP.out HQ.out T0.out).mono ?_
  rintro e w1 ⟨rfl, hb⟩
  have B1 := Lib.hid ((B0.out.up hb).alloc (.cells #[.int .i64 0] 3))
  have T1 := Lib.hid ((T0.out.below hb).below ((Below.refl _ _).alloc (Nat.le_refl _) (.cells #[.int .i64 0] 3)))
  have X1 := (X0.up hb).alloc (.cells #[.int .i64 0] 3)
  have Y1 := (Y0.up hb).alloc (.cells #[.int .i64 0] 3)
  have R1 := (R0.up hb).alloc (.cells #[.int .i64 0] 3)
  have V1 := Uno.new w1 (.int .i64 0) 3 (w1.heap.size) (by simp)
  clear hb B0 T0 X0 Y0 R0
  obtain ⟨xf0, xf1, xf2, xf3, xf4, xf5, xf6⟩ := id X1
  obtain ⟨yf0, yf1, yf2, yf3, yf4⟩ := id Y1
  obtain ⟨rf0, rf1, rf2, rf3, rf4, rf5, rf6⟩ := id R1
  obtain ⟨vf0, vf1, vf2⟩ := id V1
  go_wp2_with fail
  have Tf := R1.store (u := .int .i64 0) (v := .int .i64 0) (t := .int .i64 0)
  exact bodyPost_ret (v := .tuple #[.agg #[.int .i64 0, .int .i64 0, .int .i64 0], .int .i64 2]) (by first | (simp [results, Tryd.results22, go_sem, Tf.c0, Tf.c1, Tf.c2]; done) | (simp [results, Tryd.results22, go_sem, Tf.c0, Tf.c1, Tf.c2]; omega)) rfl ⟨rfl, (((B1.out.set (Nat.le_succ_of_le (Nat.le_succ _)) _ _).set (Nat.le_succ_of_le (Nat.le_succ _)) _ _).set (Nat.le_succ_of_le (Nat.le_succ _)) _ _)⟩
set_option maxRecDepth 100000 in
set_option maxHeartbeats 2000000 in
theorem exact_b3 (s a o t m : Int) (w : World) (h : Pit s a o) (k : Iv t m) (l : numP s a o + m < 0 ∨ 127 < numP s a o + m) (ht : PT w) :
    Calls Tryd.prog 22 #[.agg #[.int .i64 s, .int .i64 a, .int .i64 o], .agg #[.int .i64 t, .int .i64 m]] w fun e w' => e = .returned (.tuple #[.agg #[.int .i64 0, .int .i64 0, .int .i64 0], .int .i64 18]) ∧ Below w.heap.size w w' := by
  have B0 := Lib.hid ((((Bel.refl w).alloc (.cells #[.int .i64 s, .int .i64 a, .int .i64 o] 41)).alloc (.cells #[.int .i64 t, .int .i64 m] 23)).alloc (.cells #[.int .i64 0, .int .i64 0, .int .i64 0] 41))
  have T0 := Lib.hid (((ht.below ((Below.refl _ _).alloc (Nat.le_refl _) (.cells #[.int .i64 s, .int .i64 a, .int .i64 o] 41))).below ((Below.refl _ _).alloc (Nat.le_refl _) (.cells #[.int .i64 t, .int .i64 m] 23))).below ((Below.refl _ _).alloc (Nat.le_refl _) (.cells #[.int .i64 0, .int .i64 0, .int .i64 0] 41)))
  have X0 := ((Tri.new w (.int .i64 s) (.int .i64 a) (.int .i64 o) 41 (w.heap.size) (by simp)).alloc (.cells #[.int .i64 t, .int .i64 m] 23)).alloc (.cells #[.int .i64 0, .int .i64 0, .int .i64 0] 41)
  have Y0 := (Duo.new (w.alloc (.cells #[.int .i64 s, .int .i64 a, .int .i64 o] 41)) (.int .i64 t) (.int .i64 m) 23 (w.heap.size + 1) (by simp)).alloc (.cells #[.int .i64 0, .int .i64 0, .int .i64 0] 41)
  have R0 := Tri.new ((w.alloc (.cells #[.int .i64 s, .int .i64 a, .int .i64 o] 41)).alloc (.cells #[.int .i64 t, .int .i64 m] 23)) (.int .i64 0) (.int .i64 0) (.int .i64 0) 41 (w.heap.size + 1 + 1) (by simp)
  have HP := Lib.hid h
  have HQ := Lib.hid k
  have HL := Lib.hid l
  go_enter Tryd.func22, Tryd.ntmps22
  obtain ⟨xf0, xf1, xf2, xf3, xf4, xf5, xf6⟩ := id X0
  obtain ⟨yf0, yf1, yf2, yf3, yf4⟩ := id Y0
  obtain ⟨rf0, rf1, rf2, rf3, rf4, rf5, rf6⟩ := id R0
  go_wp2_with fail
  clear xf0 xf1 xf2 xf3 xf4 xf5 xf6 yf0 yf1 yf2 yf3 yf4 rf0 rf1 rf2 rf3 rf4 rf5 rf6
  refine (reach_b3 s a o t m _ HP.out HQ.out HL.out T0.out).mono ?_
  rintro e w1 ⟨rfl, hb⟩
  have B1 := Lib.hid ((B0.out.up hb).alloc (.cells #[.int .i64 0] 3))
  have T1 := Lib.hid ((T0.out.below hb).below ((Below.refl _ _).alloc (Nat.le_refl _) (.cells #[.int .i64 0] 3)))
  have X1 := (X0.up hb).alloc (.cells #[.int .i64 0] 3)
  have Y1 := (Y0.up hb).alloc (.cells #[.int .i64 0] 3)
  have R1 := (R0.up hb).alloc (.cells #[.int .i64 0] 3)
  have V1 := Uno.new w1 (.int .i64 0) 3 (w1.heap.size) (by simp)
  clear hb B0 T0 X0 Y0 R0
  obtain ⟨xf0, xf1, xf2, xf3, xf4, xf5, xf6⟩ := id X1
  obtain ⟨yf0, yf1, yf2, yf3, yf4⟩ := id Y1
  obtain ⟨rf0, rf1, rf2, rf3, rf4, rf5, rf6⟩ := id R1
  obtain ⟨vf0, vf1, vf2⟩ := id V1
  go_wp2_with fail
  have Tf := R1.store (u := .int .i64 0) (v := .int .i64 0) (t := .int .i64 0)
  exact bodyPost_ret (v := .tuple #[.agg #[.int .i64 0, .int .i64 0, .int .i64 0], .int .i64 18]) (by first | (simp [results, Tryd.results22, go_sem, Tf.c0, Tf.c1, Tf.c2]; done) | (simp [results, Tryd.results22, go_sem, Tf.c0, Tf.c1, Tf.c2]; omega)) rfl ⟨rfl, (((B1.out.set (Nat.le_succ_of_le (Nat.le_succ _)) _ _).set (Nat.le_succ_of_le (Nat.le_succ _)) _ _).set (Nat.le_succ_of_le (Nat.le_succ _)) _ _)⟩
set_option maxRecDepth 100000 in
set_option maxHeartbeats 2000000 in
theorem transp_b1 (s a o t m : Int) (w : World) (h : ¬ Pit s a o) (ht : PT w) :
    Calls Tryd.prog 25 #[.agg #[.int .i64 s, .int .i64 a, .int .i64 o], .agg #[.int .i64 t, .int .i64 m]] w fun e w' => e = .returned (.tuple #[.agg #[.int .i64 0, .int .i64 0, .int .i64 0], .int .i64 18]) ∧ Below w.heap.size w w' := by
  have B0 := Lib.hid ((((Bel.refl w).alloc (.cells #[.int .i64 s, .int .i64 a, .int .i64 o] 41)).alloc (.cells #[.int .i64 t, .int .i64 m] 23)).alloc (.cells #[.int .i64 0, .int .i64 0, .int .i64 0] 41))
  have T0 := Lib.hid (((ht.below ((Below.refl _ _).alloc (Nat.le_refl _) (.cells #[.int .i64 s, .int .i64 a, .int .i64 o] 41))).below ((Below.refl _ _).alloc (Nat.le_refl _) (.cells #[.int .i64 t, .int .i64 m] 23))).below ((Below.refl _ _).alloc (Nat.le_refl _) (.cells #[.int .i64 0, .int .i64 0, .int .i64 0] 41)))
  have X0 := ((Tri.new w (.int .i64 s) (.int .i64 a) (.int .i64 o) 41 (w.heap.size) (by simp)).alloc (.cells #[.int .i64 t, .int .i64 m] 23)).alloc (.cells #[.int .i64 0, .int .i64 0, .int .i64 0] 41)
  have Y0 := (Duo.new (w.alloc (.cells #[.int .i64 s, .int .i64 a, .int .i64 o] 41)) (.int .i64 t) (.int .i64 m) 23 (w.heap.size + 1) (by simp)).alloc (.cells #[.int .i64 0, .int .i64 0, .int .i64 0] 41)
  have R0 := Tri.new ((w.alloc (.cells #[.int .i64 s, .int .i64 a, .int .i64 o] 41)).alloc (.cells #[.int .i64 t, .int .i64 m] 23)) (.int .i64 0) (.int .i64 0) (.int .i64 0) 41 (w.heap.size + 1 + 1) (by simp)
  have HP := Lib.hid h
  go_enter Tryd.func25, Tryd.ntmps25
  obtain ⟨xf0, xf1, xf2, xf3, xf4, xf5, xf6⟩ := id X0
  obtain ⟨yf0, yf1, yf2, yf3, yf4⟩ := id Y0
  obtain ⟨rf0, rf1, rf2, rf3, rf4, rf5, rf6⟩ := id R0
  go_wp2_with fail
  clear xf0 xf1 xf2 xf3 xf4 xf5 xf6 yf0 yf1 yf2 yf3 yf4 rf0 rf1 rf2 rf3 rf4 rf5 rf6
  refine (reach_b1 s a o t m _ HP.out T0.out).mono ?_
  rintro e w1 ⟨rfl, hb⟩
  have B1 := Lib.hid ((B0.out.up hb).alloc (.cells #[.int .i64 0] 3))
  have T1 := Lib.hid ((T0.out.below hb).below ((Below.refl _ _).alloc (Nat.le_refl _) (.cells #[.int .i64 0] 3)))
  have X1 := (X0.up hb).alloc (.cells #[.int .i64 0] 3)
  have Y1 := (Y0.up hb).alloc (.cells #[.int .i64 0] 3)
  have R1 := (R0.up hb).alloc (.cells #[.int .i64 0] 3)
  have V1 := Uno.new w1 (.int .i64 0) 3 (w1.heap.size) (by simp)
  clear hb B0 T0 X0 Y0 R0
  obtain ⟨xf0, xf1, xf2, xf3, xf4, xf5, xf6⟩ := id X1
  obtain ⟨yf0, yf1, yf2, yf3, yf4⟩ := id Y1
  obtain ⟨rf0, rf1, rf2, rf3, rf4, rf5, rf6⟩ := id R1
  obtain ⟨vf0, vf1, vf2⟩ := id V1
  go_wp2_with fail
  have Tf := R1.store (u := .int .i64 0) (v := .int .i64 0) (t := .int .i64 0)
  exact bodyPost_ret (v := .tuple #[.agg #[.int .i64 0, .int .i64 0, .int .i64 0], .int .i64 18]) (by first | (simp [results, Tryd.results25, go_sem, Tf.c0, Tf.c1, Tf.c2]; done) | (simp [results, Tryd.results25, go_sem, Tf.c0, Tf.c1, Tf.c2]; omega)) rfl ⟨rfl, (((B1.out.set (Nat.le_succ_of_le (Nat.le_succ _)) _ _).set (Nat.le_succ_of_le (Nat.le_succ _)) _ _).set (Nat.le_succ_of_le (Nat.le_succ _)) _ _)⟩
set_option maxRecDepth 100000 in
set_option maxHeartbeats 2000000 in
theorem transp_b2 (s a o t m : Int) (w : World) (h : Pit s a o) (k : ¬ Iv t m) (ht : PT w) :
    Calls Tryd.prog 25 #[.agg #[.int .i64 s, .int .i64 a, .int .i64 o], .agg #[.int .i64 t, .int .i64 m]] w fun e w' => e = .returned (.tuple #[.agg #[.int .i64 0, .int .i64 0, .int .i64 0], .int .i64 2]) ∧ Below w.heap.size w w' := by
  have B0 := Lib.hid ((((Bel.refl w).alloc (.cells #[.int .i64 s, .int .i64 a, .int .i64 o] 41)).alloc (.cells #[.int .i64 t, .int .i64 m] 23)).alloc (.cells #[.int .i64 0, .int .i64 0, .int .i64 0] 41))
  have T0 := Lib.hid (((ht.below ((Below.refl _ _).alloc (Nat.le_refl _) (.cells #[.int .i64 s, .int .i64 a, .int .i64 o] 41))).below ((Below.refl _ _).alloc (Nat.le_refl _) (.cells #[.int .i64 t, .int .i64 m] 23))).below ((Below.refl _ _).alloc (Nat.le_refl _) (.cells #[.int .i64 0, .int .i64 0, .int .i64 0] 41)))
  have X0 := ((Tri.new w (.int .i64 s) (.int .i64 a) (.int .i64 o) 41 (w.heap.size) (by simp)).alloc (.cells #[.int .i64 t, .int .i64 m] 23)).alloc (.cells #[.int .i64 0, .int .i64 0, .int .i64 0] 41)
  have Y0 := (Duo.new (w.alloc (.cells #[.int .i64 s, .int .i64 a, .int .i64 o] 41)) (.int .i64 t) (.int .i64 m) 23 (w.heap.size + 1) (by simp)).alloc (.cells #[.int .i64 0, .int .i64 0, .int .i64 0] 41)
  have R0 := Tri.new ((w.alloc (.cells #[.int .i64 s, .int .i64 a, .int .i64 o] 41)).alloc (.cells #[.int .i64 t, .int .i64 m] 23)) (.int .i64 0) (.int .i64 0) (.int .i64 0) 41 (w.heap.size + 1 + 1) (by simp)
  have HP := Lib.hid h
  have HQ := Lib.hid k
  go_enter Tryd.func25, Tryd.ntmps25
  obtain ⟨xf0, xf1, xf2, xf3, xf4, xf5, xf6⟩ := id X0
  obtain ⟨yf0, yf1, yf2, yf3, yf4⟩ := id Y0
  obtain ⟨rf0, rf1, rf2, rf3, rf4, rf5, rf6⟩ := id R0
  go_wp2_with fail
  clear xf0 xf1 xf2 xf3 xf4 xf5 xf6 yf0 yf1 yf2 yf3 yf4 rf0 rf1 rf2 rf3 rf4 rf5 rf6
  refine (reach_b2 s a o t m _ HP.out HQ.out T0.out).mono ?_
  rintro e w1 ⟨rfl, hb⟩
  have B1 := Lib.hid ((B0.out.up hb).alloc (.cells #[.int .i64 0] 3))
  have T1 := Lib.hid ((T0.out.below hb).below ((Below.refl _ _).alloc (Nat.le_refl _) (.cells #[.int .i64 0] 3)))
  have X1 := (X0.up hb).alloc (.cells #[.int .i64 0] 3)
  have Y1 := (Y0.up hb).alloc (.cells #[.int .i64 0] 3)
  have R1 := (R0.up hb).alloc (.cells #[.int .i64 0] 3)
  have V1 := Uno.new w1 (.int .i64 0) 3 (w1.heap.size) (by simp)
  clear hb B0 T0 X0 Y0 R0
  obtain ⟨xf0, xf1, xf2, xf3, xf4, xf5, xf6⟩ := id X1
  obtain ⟨yf0, yf1, yf2, yf3, yf4⟩ := id Y1
  obtain ⟨rf0, rf1, rf2, rf3, rf4, rf5, rf6⟩ := id R1
  obtain ⟨vf0, vf1, vf2⟩ := id V1
  go_wp2_with fail
  have Tf := R1.store (u := .int .i64 0) (v := .int .i64 0) (t := .int .i64 0)
  exact bodyPost_ret (v := .tuple #[.agg #[.int .i64 0, .int .i64 0, .int .i64 0], .int .i64 2]) (by first | (simp [results, Tryd.results25, go_sem, Tf.c0, Tf.c1, Tf.c2]; done) | (simp [results, Tryd.results25, go_sem, Tf.c0, Tf.c1, Tf.c2]; omega)) rfl ⟨rfl, (((B1.out.set (Nat.le_succ_of_le (Nat.le_succ _)) _ _).set (Nat.le_succ_of_le (Nat.le_succ _)) _ _).set (Nat.le_succ_of_le (Nat.le_succ _)) _ _)⟩
set_option maxRecDepth 100000 in
set_option maxHeartbeats 2000000 in
theorem transp_b3 (s a o t m : Int) (w : World) (h : Pit s a o) (k : Iv t m) (l : numP s a o + m < 0 ∨ 127 < numP s a o + m) (ht : PT w) :
    Calls Tryd.prog 25 #[.agg #[.int .i64 s, .int .i64 a, .int .i64 o], .agg #[.int .i64 t, .int .i64 m]] w fun e w' => e = .returned (.tuple #[.agg #[.int .i64 0, .int .i64 0, .int .i64 0], .int .i64 18]) ∧ Below w.heap.size w w' := by
  have B0 := Lib.hid ((((Bel.refl w).alloc (.cells #[.int .i64 s, .int .i64 a, .int .i64 o] 41)).alloc (.cells #[.int .i64 t, .int .i64 m] 23)).alloc (.cells #[.int .i64 0, .int .i64 0, .int .i64 0] 41))
  have T0 := Lib.hid (((ht.below ((Below.refl _ _).alloc (Nat.le_refl _) (.cells #[.int .i64 s, .int .i64 a, .int .i64 o] 41))).below ((Below.refl _ _).alloc (Nat.le_refl _) (.cells #[.int .i64 t, .int .i64 m] 23))).below ((Below.refl _ _).alloc (Nat.le_refl _) (.cells #[.int .i64 0, .int .i64 0, .int .i64 0] 41)))
  have X0 := ((Tri.new w (.int .i64 s) (.int .i64 a) (.int .i64 o) 41 (w.heap.size) (by simp)).alloc (.cells #[.int .i64 t, .int .i64 m] 23)).alloc (.cells #[.int .i64 0, .int .i64 0, .int .i64 0] 41)
  have Y0 := (Duo.new (w.alloc (.cells #[.int .i64 s, .int .i64 a, .int .i64 o] 41)) (.int .i64 t) (.int .i64 m) 23 (w.heap.size + 1) (by simp)).alloc (.cells #[.int .i64 0, .int .i64 0, .int .i64 0] 41)
  have R0 := Tri.new ((w.alloc (.cells #[.int .i64 s, .int .i64 a, .int .i64 o] 41)).alloc (.cells #[.int .i64 t, .int .i64 m] 23)) (.int .i64 0) (.int .i64 0) (.int .i64 0) 41 (w.heap.size + 1 + 1) (by simp)
  have HP := Lib.hid h
  have HQ := Lib.hid k
  have HL := Lib.hid l
  go_enter Tryd.func25, Tryd.ntmps25
  obtain ⟨xf0, xf1, xf2, xf3, xf4, xf5, xf6⟩ := id X0
  obtain ⟨yf0, yf1, yf2, yf3, yf4⟩ := id Y0
  obtain ⟨rf0, rf1, rf2, rf3, rf4, rf5, rf6⟩ := id R0
  go_wp2_with fail
  clear xf0 xf1 xf2 xf3 xf4 xf5 xf6 yf0 yf1 yf2 yf3 yf4 rf0 rf1 rf2 rf3 rf4 rf5 rf6
  refine (reach_b3 s a o t m _ HP.out HQ.out HL.out T0.out).mono ?_
  rintro e w1 ⟨rfl, hb⟩
  have B1 := Lib.hid ((B0.out.up hb).alloc (.cells #[.int .i64 0] 3))
  have T1 := Lib.hid ((T0.out.below hb).below ((Below.refl _ _).alloc (Nat.le_refl _) (.cells #[.int .i64 0] 3)))
  have X1 := (X0.up hb).alloc (.cells #[.int .i64 0] 3)
  have Y1 := (Y0.up hb).alloc (.cells #[.int .i64 0] 3)
  have R1 := (R0.up hb).alloc (.cells #[.int .i64 0] 3)
  have V1 := Uno.new w1 (.int .i64 0) 3 (w1.heap.size) (by simp)
  clear hb B0 T0 X0 Y0 R0
  obtain ⟨xf0, xf1, xf2, xf3, xf4, xf5, xf6⟩ := id X1
  obtain ⟨yf0, yf1, yf2, yf3, yf4⟩ := id Y1
  obtain ⟨rf0, rf1, rf2, rf3, rf4, rf5, rf6⟩ := id R1
  obtain ⟨vf0, vf1, vf2⟩ := id V1
  go_wp2_with fail
  have Tf := R1.store (u := .int .i64 0) (v := .int .i64 0) (t := .int .i64 0)
  exact bodyPost_ret (v := .tuple #[.agg #[.int .i64 0, .int .i64 0, .int .i64 0], .int .i64 18]) (by first | (simp [results, Tryd.results25, go_sem, Tf.c0, Tf.c1, Tf.c2]; done) | (simp [results, Tryd.results25, go_sem, Tf.c0, Tf.c1, Tf.c2]; omega)) rfl ⟨rfl, (((B1.out.set (Nat.le_succ_of_le (Nat.le_succ _)) _ _).set (Nat.le_succ_of_le (Nat.le_succ _)) _ _).set (Nat.le_succ_of_le (Nat.le_succ _)) _ _)⟩
set_option maxRecDepth 100000 in
set_option maxHeartbeats 2000000 in
theorem exact_n (s a o t m : Int) (w : World) (h : Pit s a o) (k : Iv t m) (n0 : 0 ≤ numP s a o + m) (n1 : numP s a o + m ≤ 127) (hf : findD (enhL (numP s a o + m)) (diaP s o + t) = none) (ht : PT w) :
    Calls Tryd.prog 22 #[.agg #[.int .i64 s, .int .i64 a, .int .i64 o], .agg #[.int .i64 t, .int .i64 m]] w fun e w' => e = .returned (.tuple #[.agg #[.int .i64 0, .int .i64 0, .int .i64 0], .int .i64 18]) ∧ Below w.heap.size w w' := by
  have B0 := Lib.hid ((((Bel.refl w).alloc (.cells #[.int .i64 s, .int .i64 a, .int .i64 o] 41)).alloc (.cells #[.int .i64 t, .int .i64 m] 23)).alloc (.cells #[.int .i64 0, .int .i64 0, .int .i64 0] 41))
  have T0 := Lib.hid (((ht.below ((Below.refl _ _).alloc (Nat.le_refl _) (.cells #[.int .i64 s, .int .i64 a, .int .i64 o] 41))).below ((Below.refl _ _).alloc (Nat.le_refl _) (.cells #[.int .i64 t, .int .i64 m] 23))).below ((Below.refl _ _).alloc (Nat.le_refl _) (.cells #[.int .i64 0, .int .i64 0, .int .i64 0] 41)))
  have X0 := ((Tri.new w (.int .i64 s) (.int .i64 a) (.int .i64 o) 41 (w.heap.size) (by simp)).alloc (.cells #[.int .i64 t, .int .i64 m] 23)).alloc (.cells #[.int .i64 0, .int .i64 0, .int .i64 0] 41)
  have Y0 := (Duo.new (w.alloc (.cells #[.int .i64 s, .int .i64 a, .int .i64 o] 41)) (.int .i64 t) (.int .i64 m) 23 (w.heap.size + 1) (by simp)).alloc (.cells #[.int .i64 0, .int .i64 0, .int .i64 0] 41)
  have R0 := Tri.new ((w.alloc (.cells #[.int .i64 s, .int .i64 a, .int .i64 o] 41)).alloc (.cells #[.int .i64 t, .int .i64 m] 23)) (.int .i64 0) (.int .i64 0) (.int .i64 0) 41 (w.heap.size + 1 + 1) (by simp)
  have HP := Lib.hid h
  have HQ := Lib.hid k
  have hpit := Lib.hid (enhL_pit (n := numP s a o + m))
  have hne := enhL_some n0 n1
  have hlen := enhL_len (numP s a o + m)
  have hpos := List.length_pos_iff.2 hne
  have N0 := h.n0; have N1 := h.n1; have M0 := k.m0; have M1 := k.m1; have T0' := k.t0; have T1' := k.t1
  obtain ⟨D0, D1⟩ := dia_bd h
  go_enter Tryd.func22, Tryd.ntmps22
  obtain ⟨xf0, xf1, xf2, xf3, xf4, xf5, xf6⟩ := id X0
  obtain ⟨yf0, yf1, yf2, yf3, yf4⟩ := id Y0
  obtain ⟨rf0, rf1, rf2, rf3, rf4, rf5, rf6⟩ := id R0
  go_wp2_with fail
  clear xf0 xf1 xf2 xf3 xf4 xf5 xf6 yf0 yf1 yf2 yf3 yf4 rf0 rf1 rf2 rf3 rf4 rf5 rf6
  refine (reach_ok s a o t m _ HP.out HQ.out n0 n1 T0.out).mono ?_
  rintro e w1 ⟨g, cap, rfl, hrow, hb⟩
  have G1 := Lib.hid (hrow.up ((Below.refl _ _).alloc (Nat.le_refl _) (.cells #[.int .i64 (diaP s o + t)] 3)))
  clear hrow
  have B1 := Lib.hid ((B0.out.up hb).alloc (.cells #[.int .i64 (diaP s o + t)] 3))
  have T1 := Lib.hid ((T0.out.below hb).below ((Below.refl _ _).alloc (Nat.le_refl _) (.cells #[.int .i64 (diaP s o + t)] 3)))
  have X1 := (X0.up hb).alloc (.cells #[.int .i64 (diaP s o + t)] 3)
  have Y1 := (Y0.up hb).alloc (.cells #[.int .i64 (diaP s o + t)] 3)
  have R1 := (R0.up hb).alloc (.cells #[.int .i64 (diaP s o + t)] 3)
  have V1 := Uno.new w1 (.int .i64 (diaP s o + t)) 3 (w1.heap.size) (by simp)
  clear hb B0 T0 X0 Y0 R0
  obtain ⟨xf0, xf1, xf2, xf3, xf4, xf5, xf6⟩ := id X1
  obtain ⟨yf0, yf1, yf2, yf3, yf4⟩ := id Y1
  obtain ⟨rf0, rf1, rf2, rf3, rf4, rf5, rf6⟩ := id R1
  obtain ⟨vf0, vf1, vf2⟩ := id V1
  obtain ⟨L, hL⟩ : ∃ L, enhL (numP s a o + m) = L := ⟨_, rfl⟩
  have HL := Lib.hid hL
  rw [hL] at hlen hpos G1 hpit hf ⊢
  clear hL hne
  go_wp2_with fail
  clear xf0 xf1 xf2 xf3 xf4 xf5 xf6 yf0 yf1 yf2 yf3 yf4 rf0 rf1 rf2 rf3 rf4 rf5 rf6 vf0 vf1 vf2
  refine (indexFunc_ok L g cap _ (diaP s o + t) _ (fun q hq => (hpit.out q hq).1) (by omega) (by omega) (by omega) T1.out V1 G1.out).mono ?_
  rintro e w2 h9
  rcases h9 with ⟨k9, q9, -, hq9, -, -⟩ | ⟨-, rfl, hb⟩
  · rw [hf] at hq9; cases hq9
  have B2 := Lib.hid (B1.out.up hb)
  have T2 := Lib.hid (T1.out.below hb)
  have G2 := Lib.hid (G1.out.up hb)
  have X2 := X1.up hb
  have Y2 := Y1.up hb
  have R2 := R1.up hb
  have V2 := V1.up hb
  clear hb B1 T1 G1 X1 Y1 R1 V1
  obtain ⟨xf0, xf1, xf2, xf3, xf4, xf5, xf6⟩ := id X2
  obtain ⟨yf0, yf1, yf2, yf3, yf4⟩ := id Y2
  obtain ⟨rf0, rf1, rf2, rf3, rf4, rf5, rf6⟩ := id R2
  obtain ⟨vf0, vf1, vf2⟩ := id V2
  go_wp2_with fail
  have Tf := R2.store (u := .int .i64 0) (v := .int .i64 0) (t := .int .i64 0)
  exact bodyPost_ret (v := .tuple #[.agg #[.int .i64 0, .int .i64 0, .int .i64 0], .int .i64 18]) (by first | (simp [results, Tryd.results22, go_sem, Tf.c0, Tf.c1, Tf.c2]; done) | (simp [results, Tryd.results22, go_sem, Tf.c0, Tf.c1, Tf.c2]; omega)) rfl ⟨rfl, (((B2.out.set (Nat.le_succ_of_le (Nat.le_succ _)) _ _).set (Nat.le_succ_of_le (Nat.le_succ _)) _ _).set (Nat.le_succ_of_le (Nat.le_succ _)) _ _)⟩
set_option maxRecDepth 100000 in
set_option maxHeartbeats 2000000 in
theorem exact_y (s a o t m : Int) (q : Int × Int × Int) (w : World) (h : Pit s a o) (k : Iv t m) (n0 : 0 ≤ numP s a o + m) (n1 : numP s a o + m ≤ 127) (hf : findD (enhL (numP s a o + m)) (diaP s o + t) = some q) (ht : PT w) :
    Calls Tryd.prog 22 #[.agg #[.int .i64 s, .int .i64 a, .int .i64 o], .agg #[.int .i64 t, .int .i64 m]] w fun e w' => e = .returned (.tuple #[.agg #[.int .i64 q.1, .int .i64 q.2.1, .int .i64 q.2.2], .int .i64 0]) ∧ Below w.heap.size w w' := by
  have B0 := Lib.hid ((((Bel.refl w).alloc (.cells #[.int .i64 s, .int .i64 a, .int .i64 o] 41)).alloc (.cells #[.int .i64 t, .int .i64 m] 23)).alloc (.cells #[.int .i64 0, .int .i64 0, .int .i64 0] 41))
  have T0 := Lib.hid (((ht.below ((Below.refl _ _).alloc (Nat.le_refl _) (.cells #[.int .i64 s, .int .i64 a, .int .i64 o] 41))).below ((Below.refl _ _).alloc (Nat.le_refl _) (.cells #[.int .i64 t, .int .i64 m] 23))).below ((Below.refl _ _).alloc (Nat.le_refl _) (.cells #[.int .i64 0, .int .i64 0, .int .i64 0] 41)))
  have X0 := ((Tri.new w (.int .i64 s) (.int .i64 a) (.int .i64 o) 41 (w.heap.size) (by simp)).alloc (.cells #[.int .i64 t, .int .i64 m] 23)).alloc (.cells #[.int .i64 0, .int .i64 0, .int .i64 0] 41)
  have Y0 := (Duo.new (w.alloc (.cells #[.int .i64 s, .int .i64 a, .int .i64 o] 41)) (.int .i64 t) (.int .i64 m) 23 (w.heap.size + 1) (by simp)).alloc (.cells #[.int .i64 0, .int .i64 0, .int .i64 0] 41)
  have R0 := Tri.new ((w.alloc (.cells #[.int .i64 s, .int .i64 a, .int .i64 o] 41)).alloc (.cells #[.int .i64 t, .int .i64 m] 23)) (.int .i64 0) (.int .i64 0) (.int .i64 0) 41 (w.heap.size + 1 + 1) (by simp)
  have HP := Lib.hid h
  have HQ := Lib.hid k
  have hpit := Lib.hid (enhL_pit (n := numP s a o + m))
  have hne := enhL_some n0 n1
  have hlen := enhL_len (numP s a o + m)
  have hpos := List.length_pos_iff.2 hne
  have N0 := h.n0; have N1 := h.n1; have M0 := k.m0; have M1 := k.m1; have T0' := k.t0; have T1' := k.t1
  obtain ⟨D0, D1⟩ := dia_bd h
  go_enter Tryd.func22, Tryd.ntmps22
  obtain ⟨xf0, xf1, xf2, xf3, xf4, xf5, xf6⟩ := id X0
  obtain ⟨yf0, yf1, yf2, yf3, yf4⟩ := id Y0
  obtain ⟨rf0, rf1, rf2, rf3, rf4, rf5, rf6⟩ := id R0
  go_wp2_with fail
  clear xf0 xf1 xf2 xf3 xf4 xf5 xf6 yf0 yf1 yf2 yf3 yf4 rf0 rf1 rf2 rf3 rf4 rf5 rf6
  refine (reach_ok s a o t m _ HP.out HQ.out n0 n1 T0.out).mono ?_
  rintro e w1 ⟨g, cap, rfl, hrow, hb⟩
  have G1 := Lib.hid (hrow.up ((Below.refl _ _).alloc (Nat.le_refl _) (.cells #[.int .i64 (diaP s o + t)] 3)))
  clear hrow
  have B1 := Lib.hid ((B0.out.up hb).alloc (.cells #[.int .i64 (diaP s o + t)] 3))
  have T1 := Lib.hid ((T0.out.below hb).below ((Below.refl _ _).alloc (Nat.le_refl _) (.cells #[.int .i64 (diaP s o + t)] 3)))
  have X1 := (X0.up hb).alloc (.cells #[.int .i64 (diaP s o + t)] 3)
  have Y1 := (Y0.up hb).alloc (.cells #[.int .i64 (diaP s o + t)] 3)
  have R1 := (R0.up hb).alloc (.cells #[.int .i64 (diaP s o + t)] 3)
  have V1 := Uno.new w1 (.int .i64 (diaP s o + t)) 3 (w1.heap.size) (by simp)
  clear hb B0 T0 X0 Y0 R0
  obtain ⟨xf0, xf1, xf2, xf3, xf4, xf5, xf6⟩ := id X1
  obtain ⟨yf0, yf1, yf2, yf3, yf4⟩ := id Y1
  obtain ⟨rf0, rf1, rf2, rf3, rf4, rf5, rf6⟩ := id R1
  obtain ⟨vf0, vf1, vf2⟩ := id V1
  obtain ⟨L, hL⟩ : ∃ L, enhL (numP s a o + m) = L := ⟨_, rfl⟩
  have HL := Lib.hid hL
  rw [hL] at hlen hpos G1 hpit hf ⊢
  clear hL hne
  go_wp2_with fail
  clear xf0 xf1 xf2 xf3 xf4 xf5 xf6 yf0 yf1 yf2 yf3 yf4 rf0 rf1 rf2 rf3 rf4 rf5 rf6 vf0 vf1 vf2
  refine (indexFunc_ok L g cap _ (diaP s o + t) _ (fun q hq => (hpit.out q hq).1) (by omega) (by omega) (by omega) T1.out V1 G1.out).mono ?_
  rintro e w2 h9
  rcases h9 with ⟨k9, q9, hk9, hq9, rfl, hb⟩ | ⟨hq9, -, -⟩
  rotate_left
  · rw [hf] at hq9; cases hq9
  rw [hf] at hq9
  cases hq9
  have hk0 : k9 < L.length := by
    rcases Nat.lt_or_ge k9 L.length with h' | h'
    · exact h'
    · rw [List.getElem?_eq_none h'] at hk9; cases hk9
  have B2 := Lib.hid (B1.out.up hb)
  have T2 := Lib.hid (T1.out.below hb)
  have G2 := Lib.hid (G1.out.up hb)
  have X2 := X1.up hb
  have Y2 := Y1.up hb
  have R2 := R1.up hb
  have V2 := V1.up hb
  clear hb B1 T1 G1 X1 Y1 R1 V1
  obtain ⟨xf0, xf1, xf2, xf3, xf4, xf5, xf6⟩ := id X2
  obtain ⟨yf0, yf1, yf2, yf3, yf4⟩ := id Y2
  obtain ⟨rf0, rf1, rf2, rf3, rf4, rf5, rf6⟩ := id R2
  obtain ⟨vf0, vf1, vf2⟩ := id V2
  obtain ⟨c1, c2, c3⟩ := G2.out k9 q hk9
  clear hk9 hf
  go_wp2_with fail
  have Tf := R2.store (u := .int .i64 q.1) (v := .int .i64 q.2.1) (t := .int .i64 q.2.2)
  exact bodyPost_ret (v := .tuple #[.agg #[.int .i64 q.1, .int .i64 q.2.1, .int .i64 q.2.2], .int .i64 0]) (by first | (simp [results, Tryd.results22, go_sem, Tf.c0, Tf.c1, Tf.c2]; done) | (simp [results, Tryd.results22, go_sem, Tf.c0, Tf.c1, Tf.c2]; omega)) rfl ⟨rfl, (((B2.out.set (Nat.le_succ_of_le (Nat.le_succ _)) _ _).set (Nat.le_succ_of_le (Nat.le_succ _)) _ _).set (Nat.le_succ_of_le (Nat.le_succ _)) _ _)⟩
set_option maxRecDepth 100000 in
set_option maxHeartbeats 2000000 in
theorem transp_ok (s a o t m : Int) (q0 M : Int × Int × Int) (w : World) (h : Pit s a o) (k : Iv t m) (n0 : 0 ≤ numP s a o + m) (n1 : numP s a o + m ≤ 127) (h0 : (enhL (numP s a o + m))[0]? = some q0) (hM : minF (diaP s o + t) ((enhL (numP s a o + m)).drop 1) q0 = M) (ht : PT w) :
    Calls Tryd.prog 25 #[.agg #[.int .i64 s, .int .i64 a, .int .i64 o], .agg #[.int .i64 t, .int .i64 m]] w fun e w' => e = .returned (.tuple #[.agg #[.int .i64 M.1, .int .i64 M.2.1, .int .i64 M.2.2], .int .i64 0]) ∧ Below w.heap.size w w' := by
  have B0 := Lib.hid ((((Bel.refl w).alloc (.cells #[.int .i64 s, .int .i64 a, .int .i64 o] 41)).alloc (.cells #[.int .i64 t, .int .i64 m] 23)).alloc (.cells #[.int .i64 0, .int .i64 0, .int .i64 0] 41))
  have T0 := Lib.hid (((ht.below ((Below.refl _ _).alloc (Nat.le_refl _) (.cells #[.int .i64 s, .int .i64 a, .int .i64 o] 41))).below ((Below.refl _ _).alloc (Nat.le_refl _) (.cells #[.int .i64 t, .int .i64 m] 23))).below ((Below.refl _ _).alloc (Nat.le_refl _) (.cells #[.int .i64 0, .int .i64 0, .int .i64 0] 41)))
  have X0 := ((Tri.new w (.int .i64 s) (.int .i64 a) (.int .i64 o) 41 (w.heap.size) (by simp)).alloc (.cells #[.int .i64 t, .int .i64 m] 23)).alloc (.cells #[.int .i64 0, .int .i64 0, .int .i64 0] 41)
  have Y0 := (Duo.new (w.alloc (.cells #[.int .i64 s, .int .i64 a, .int .i64 o] 41)) (.int .i64 t) (.int .i64 m) 23 (w.heap.size + 1) (by simp)).alloc (.cells #[.int .i64 0, .int .i64 0, .int .i64 0] 41)
  have R0 := Tri.new ((w.alloc (.cells #[.int .i64 s, .int .i64 a, .int .i64 o] 41)).alloc (.cells #[.int .i64 t, .int .i64 m] 23)) (.int .i64 0) (.int .i64 0) (.int .i64 0) 41 (w.heap.size + 1 + 1) (by simp)
  have HP := Lib.hid h
  have HQ := Lib.hid k
  have hpit := Lib.hid (enhL_pit (n := numP s a o + m))
  have hne := enhL_some n0 n1
  have hlen := enhL_len (numP s a o + m)
  have hpos := List.length_pos_iff.2 hne
  have N0 := h.n0; have N1 := h.n1; have M0 := k.m0; have M1 := k.m1; have T0' := k.t0; have T1' := k.t1
  obtain ⟨D0, D1⟩ := dia_bd h
  go_enter Tryd.func25, Tryd.ntmps25
  obtain ⟨xf0, xf1, xf2, xf3, xf4, xf5, xf6⟩ := id X0
  obtain ⟨yf0, yf1, yf2, yf3, yf4⟩ := id Y0
  obtain ⟨rf0, rf1, rf2, rf3, rf4, rf5, rf6⟩ := id R0
  go_wp2_with fail
  clear xf0 xf1 xf2 xf3 xf4 xf5 xf6 yf0 yf1 yf2 yf3 yf4 rf0 rf1 rf2 rf3 rf4 rf5 rf6
  refine (reach_ok s a o t m _ HP.out HQ.out n0 n1 T0.out).mono ?_
  rintro e w1 ⟨g, cap, rfl, hrow, hb⟩
  have G1 := Lib.hid (hrow.up ((Below.refl _ _).alloc (Nat.le_refl _) (.cells #[.int .i64 (diaP s o + t)] 3)))
  clear hrow
  have B1 := Lib.hid ((B0.out.up hb).alloc (.cells #[.int .i64 (diaP s o + t)] 3))
  have T1 := Lib.hid ((T0.out.below hb).below ((Below.refl _ _).alloc (Nat.le_refl _) (.cells #[.int .i64 (diaP s o + t)] 3)))
  have X1 := (X0.up hb).alloc (.cells #[.int .i64 (diaP s o + t)] 3)
  have Y1 := (Y0.up hb).alloc (.cells #[.int .i64 (diaP s o + t)] 3)
  have R1 := (R0.up hb).alloc (.cells #[.int .i64 (diaP s o + t)] 3)
  have V1 := Uno.new w1 (.int .i64 (diaP s o + t)) 3 (w1.heap.size) (by simp)
  clear hb B0 T0 X0 Y0 R0
  obtain ⟨xf0, xf1, xf2, xf3, xf4, xf5, xf6⟩ := id X1
  obtain ⟨yf0, yf1, yf2, yf3, yf4⟩ := id Y1
  obtain ⟨rf0, rf1, rf2, rf3, rf4, rf5, rf6⟩ := id R1
  obtain ⟨vf0, vf1, vf2⟩ := id V1
  obtain ⟨L, hL⟩ : ∃ L, enhL (numP s a o + m) = L := ⟨_, rfl⟩
  have HL := Lib.hid hL
  rw [hL] at hlen hpos G1 hpit h0 hM ⊢
  clear hL hne
  go_wp2_with fail
  clear xf0 xf1 xf2 xf3 xf4 xf5 xf6 yf0 yf1 yf2 yf3 yf4 rf0 rf1 rf2 rf3 rf4 rf5 rf6 vf0 vf1 vf2
  refine (minFunc_ok L q0 g cap _ (diaP s o + t) _ h0 (fun q hq => (hpit.out q hq).1) (by omega) (by omega) (by omega) T1.out V1 G1.out).mono ?_
  rintro e w2 ⟨rfl, hb⟩
  rw [hM]
  have B2 := Lib.hid (B1.out.up hb)
  have T2 := Lib.hid (T1.out.below hb)
  have G2 := Lib.hid (G1.out.up hb)
  have X2 := X1.up hb
  have Y2 := Y1.up hb
  have R2 := R1.up hb
  have V2 := V1.up hb
  clear hb B1 T1 G1 X1 Y1 R1 V1
  obtain ⟨xf0, xf1, xf2, xf3, xf4, xf5, xf6⟩ := id X2
  obtain ⟨yf0, yf1, yf2, yf3, yf4⟩ := id Y2
  obtain ⟨rf0, rf1, rf2, rf3, rf4, rf5, rf6⟩ := id R2
  obtain ⟨vf0, vf1, vf2⟩ := id V2
  clear hM h0
  go_wp2_with fail
  have Tf := R2.store (u := .int .i64 M.1) (v := .int .i64 M.2.1) (t := .int .i64 M.2.2)
  exact bodyPost_ret (v := .tuple #[.agg #[.int .i64 M.1, .int .i64 M.2.1, .int .i64 M.2.2], .int .i64 0]) (by first | (simp [results, Tryd.results25, go_sem, Tf.c0, Tf.c1, Tf.c2]; done) | (simp [results, Tryd.results25, go_sem, Tf.c0, Tf.c1, Tf.c2]; omega)) rfl ⟨rfl, (((B2.out.set (Nat.le_succ_of_le (Nat.le_succ _)) _ _).set (Nat.le_succ_of_le (Nat.le_succ _)) _ _).set (Nat.le_succ_of_le (Nat.le_succ _)) _ _)⟩
end Go.Proofs.YtfbogakmhaiddaaDoor
