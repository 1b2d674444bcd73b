/- Intervals: Between, Enharmonics, the qualities. -/
import Derived.Test.YtfbogakmhaiddaaDoorIg
namespace Go.Proofs.YtfbogakmhaiddaaDoor
open Go.RowKit
set_option linter.unusedVariables false
set_option linter.unusedSimpArgs false

set_option maxRecDepth 100000 in
set_option maxHeartbeats 2000000 in
theorem betw_b1 (s a o r b q : Int) (w : World) (h : ¬ Pit s a o) (ht : PT w) :
    Calls Tryd.prog 20 #[.agg #[.int .i64 s, .int .i64 a, .int .i64 o], .agg #[.int .i64 r, .int .i64 b, .int .i64 q]] w fun e w' => e = .returned (.tuple #[.agg #[.int .i64 0, .int .i64 0], .int .i64 18]) ∧ Below w.heap.size w w' := by
  have B0 := Lib.hid ((((Bel.refl w).alloc (.cells #[.int .i64 s, .int .i64 a, .int .i64 o] 41)).alloc (.cells #[.int .i64 r, .int .i64 b, .int .i64 q] 41)).alloc (.cells #[.int .i64 0, .int .i64 0] 23))
  have T0 := Lib.hid (((ht.below ((Below.refl _ _).alloc (Nat.le_refl _) (.cells #[.int .i64 s, .int .i64 a, .int .i64 o] 41))).below ((Below.refl _ _).alloc (Nat.le_refl _) (.cells #[.int .i64 r, .int .i64 b, .int .i64 q] 41))).below ((Below.refl _ _).alloc (Nat.le_refl _) (.cells #[.int .i64 0, .int .i64 0] 23)))
  have X0 := ((Tri.new w (.int .i64 s) (.int .i64 a) (.int .i64 o) 41 (w.heap.size) (by simp)).alloc (.cells #[.int .i64 r, .int .i64 b, .int .i64 q] 41)).alloc (.cells #[.int .i64 0, .int .i64 0] 23)
  have Y0 := (Tri.new (w.alloc (.cells #[.int .i64 s, .int .i64 a, .int .i64 o] 41)) (.int .i64 r) (.int .i64 b) (.int .i64 q) 41 (w.heap.size + 1) (by simp)).alloc (.cells #[.int .i64 0, .int .i64 0] 23)
  have R0 := Duo.new ((w.alloc (.cells #[.int .i64 s, .int .i64 a, .int .i64 o] 41)).alloc (.cells #[.int .i64 r, .int .i64 b, .int .i64 q] 41)) (.int .i64 0) (.int .i64 0) 23 (w.heap.size + 1 + 1) (by simp)
  have HP := Lib.hid h
  go_enter Tryd.func20, Tryd.ntmps20
  obtain ⟨xf0, xf1, xf2, xf3, xf4, xf5, xf6⟩ := id X0
  obtain ⟨yf0, yf1, yf2, yf3, yf4, yf5, yf6⟩ := id Y0
  obtain ⟨rf0, rf1, rf2, rf3, rf4⟩ := id R0
  go_wp2_with fail
  clear xf0 xf1 xf2 xf3 xf4 xf5 xf6 yf0 yf1 yf2 yf3 yf4 yf5 yf6 rf0 rf1 rf2 rf3 rf4
  refine (place_bad s a o _ HP.out T0.out).mono ?_
  rintro e w1 ⟨rfl, hb⟩
  have B1 := Lib.hid ((B0.out.up hb).alloc (.cells #[.int .i64 0, .int .i64 0] 68))
  have T1 := Lib.hid ((T0.out.below hb).below ((Below.refl _ _).alloc (Nat.le_refl _) (.cells #[.int .i64 0, .int .i64 0] 68)))
  have X1 := (X0.up hb).alloc (.cells #[.int .i64 0, .int .i64 0] 68)
  have Y1 := (Y0.up hb).alloc (.cells #[.int .i64 0, .int .i64 0] 68)
  have R1 := (R0.up hb).alloc (.cells #[.int .i64 0, .int .i64 0] 68)
  have A1 := Duo.new w1 (.int .i64 0) (.int .i64 0) 68 (w1.heap.size) (by simp)
  clear hb B0 T0 X0 Y0 R0
  obtain ⟨xf0, xf1, xf2, xf3, xf4, xf5, xf6⟩ := id X1
  obtain ⟨yf0, yf1, yf2, yf3, yf4, yf5, yf6⟩ := id Y1
  obtain ⟨rf0, rf1, rf2, rf3, rf4⟩ := id R1
  obtain ⟨af0, af1, af2, af3, af4⟩ := id A1
  go_wp2_with fail
  have Tf := R1.store (u := .int .i64 0) (v := .int .i64 0)
  exact bodyPost_ret (v := .tuple #[.agg #[.int .i64 0, .int .i64 0], .int .i64 18]) (by first | (simp [results, Tryd.results20, go_sem, Tf.c0, Tf.c1]; done) | (simp [results, Tryd.results20, go_sem, Tf.c0, Tf.c1]; omega)) rfl ⟨rfl, ((B1.out.set (Nat.le_succ_of_le (Nat.le_succ _)) _ _).set (Nat.le_succ_of_le (Nat.le_succ _)) _ _)⟩
set_option maxRecDepth 100000 in
set_option maxHeartbeats 2000000 in
theorem betw_b2 (s a o r b q : Int) (w : World) (h : Pit s a o) (k : ¬ Pit r b q) (ht : PT w) :
    Calls Tryd.prog 20 #[.agg #[.int .i64 s, .int .i64 a, .int .i64 o], .agg #[.int .i64 r, .int .i64 b, .int .i64 q]] w fun e w' => e = .returned (.tuple #[.agg #[.int .i64 0, .int .i64 0], .int .i64 18]) ∧ Below w.heap.size w w' := by
  have B0 := Lib.hid ((((Bel.refl w).alloc (.cells #[.int .i64 s, .int .i64 a, .int .i64 o] 41)).alloc (.cells #[.int .i64 r, .int .i64 b, .int .i64 q] 41)).alloc (.cells #[.int .i64 0, .int .i64 0] 23))
  have T0 := Lib.hid (((ht.below ((Below.refl _ _).alloc (Nat.le_refl _) (.cells #[.int .i64 s, .int .i64 a, .int .i64 o] 41))).below ((Below.refl _ _).alloc (Nat.le_refl _) (.cells #[.int .i64 r, .int .i64 b, .int .i64 q] 41))).below ((Below.refl _ _).alloc (Nat.le_refl _) (.cells #[.int .i64 0, .int .i64 0] 23)))
  have X0 := ((Tri.new w (.int .i64 s) (.int .i64 a) (.int .i64 o) 41 (w.heap.size) (by simp)).alloc (.cells #[.int .i64 r, .int .i64 b, .int .i64 q] 41)).alloc (.cells #[.int .i64 0, .int .i64 0] 23)
  have Y0 := (Tri.new (w.alloc (.cells #[.int .i64 s, .int .i64 a, .int .i64 o] 41)) (.int .i64 r) (.int .i64 b) (.int .i64 q) 41 (w.heap.size + 1) (by simp)).alloc (.cells #[.int .i64 0, .int .i64 0] 23)
  have R0 := Duo.new ((w.alloc (.cells #[.int .i64 s, .int .i64 a, .int .i64 o] 41)).alloc (.cells #[.int .i64 r, .int .i64 b, .int .i64 q] 41)) (.int .i64 0) (.int .i64 0) 23 (w.heap.size + 1 + 1) (by simp)
  have HP := Lib.hid h
  have HQ := Lib.hid k
  go_enter Tryd.func20, Tryd.ntmps20
  obtain ⟨xf0, xf1, xf2, xf3, xf4, xf5, xf6⟩ := id X0
  obtain ⟨yf0, yf1, yf2, yf3, yf4, yf5, yf6⟩ := id Y0
  obtain ⟨rf0, rf1, rf2, rf3, rf4⟩ := id R0
  go_wp2_with fail
  clear xf0 xf1 xf2 xf3 xf4 xf5 xf6 yf0 yf1 yf2 yf3 yf4 yf5 yf6 rf0 rf1 rf2 rf3 rf4
  refine (place_ok s a o _ HP.out T0.out).mono ?_
  rintro e w1 ⟨rfl, hb⟩
  have B1 := Lib.hid ((B0.out.up hb).alloc (.cells #[.int .i64 (diaP s o), .int .i64 (numP s a o)] 68))
  have T1 := Lib.hid ((T0.out.below hb).below ((Below.refl _ _).alloc (Nat.le_refl _) (.cells #[.int .i64 (diaP s o), .int .i64 (numP s a o)] 68)))
  have X1 := (X0.up hb).alloc (.cells #[.int .i64 (diaP s o), .int .i64 (numP s a o)] 68)
  have Y1 := (Y0.up hb).alloc (.cells #[.int .i64 (diaP s o), .int .i64 (numP s a o)] 68)
  have R1 := (R0.up hb).alloc (.cells #[.int .i64 (diaP s o), .int .i64 (numP s a o)] 68)
  have A1 := Duo.new w1 (.int .i64 (diaP s o)) (.int .i64 (numP s a o)) 68 (w1.heap.size) (by simp)
  clear hb B0 T0 X0 Y0 R0
  obtain ⟨xf0, xf1, xf2, xf3, xf4, xf5, xf6⟩ := id X1
  obtain ⟨yf0, yf1, yf2, yf3, yf4, yf5, yf6⟩ := id Y1
  obtain ⟨rf0, rf1, rf2, rf3, rf4⟩ := id R1
  obtain ⟨af0, af1, af2, af3, af4⟩ := id A1
  go_wp2_with fail
  clear xf0 xf1 xf2 xf3 xf4 xf5 xf6 yf0 yf1 yf2 yf3 yf4 yf5 yf6 rf0 rf1 rf2 rf3 rf4 af0 af1 af2 af3 af4
  refine (place_bad r b q _ HQ.out T1.out).mono ?_
  rintro e w2 ⟨rfl, hb⟩
  have B2 := Lib.hid ((B1.out.up hb).alloc (.cells #[.int .i64 0, .int .i64 0] 68))
  have T2 := Lib.hid ((T1.out.below hb).below ((Below.refl _ _).alloc (Nat.le_refl _) (.cells #[.int .i64 0, .int .i64 0] 68)))
  have X2 := (X1.up hb).alloc (.cells #[.int .i64 0, .int .i64 0] 68)
  have Y2 := (Y1.up hb).alloc (.cells #[.int .i64 0, .int .i64 0] 68)
  have R2 := (R1.up hb).alloc (.cells #[.int .i64 0, .int .i64 0] 68)
  have A2 := (A1.up hb).alloc (.cells #[.int .i64 0, .int .i64 0] 68)
  have C2 := Duo.new w2 (.int .i64 0) (.int .i64 0) 68 (w2.heap.size) (by simp)
  clear hb B1 T1 X1 Y1 R1 A1
  obtain ⟨xf0, xf1, xf2, xf3, xf4, xf5, xf6⟩ := id X2
  obtain ⟨yf0, yf1, yf2, yf3, yf4, yf5, yf6⟩ := id Y2
  obtain ⟨rf0, rf1, rf2, rf3, rf4⟩ := id R2
  obtain ⟨af0, af1, af2, af3, af4⟩ := id A2
  obtain ⟨cf0, cf1, cf2, cf3, cf4⟩ := id C2
  go_wp2_with fail
  have Tf := R2.store (u := .int .i64 0) (v := .int .i64 0)
  exact bodyPost_ret (v := .tuple #[.agg #[.int .i64 0, .int .i64 0], .int .i64 18]) (by first | (simp [results, Tryd.results20, go_sem, Tf.c0, Tf.c1]; done) | (simp [results, Tryd.results20, go_sem, Tf.c0, Tf.c1]; omega)) rfl ⟨rfl, ((B2.out.set (Nat.le_succ_of_le (Nat.le_succ _)) _ _).set (Nat.le_succ_of_le (Nat.le_succ _)) _ _)⟩
set_option maxRecDepth 100000 in
set_option maxHeartbeats 2000000 in
theorem betw_ok (s a o r b q : Int) (w : World) (h : Pit s a o) (k : Pit r b q) (ht : PT w) :
    Calls Tryd.prog 20 #[.agg #[.int .i64 s, .int .i64 a, .int .i64 o], .agg #[.int .i64 r, .int .i64 b, .int .i64 q]] w fun e w' => e = .returned (.tuple #[.agg #[.int .i64 (diaP r q - diaP s o), .int .i64 (numP r b q - numP s a o)], .int .i64 0]) ∧ Below w.heap.size w w' := by
  have B0 := Lib.hid ((((Bel.refl w).alloc (.cells #[.int .i64 s, .int .i64 a, .int .i64 o] 41)).alloc (.cells #[.int .i64 r, .int .i64 b, .int .i64 q] 41)).alloc (.cells #[.int .i64 0, .int .i64 0] 23))
  have T0 := Lib.hid (((ht.below ((Below.refl _ _).alloc (Nat.le_refl _) (.cells #[.int .i64 s, .int .i64 a, .int .i64 o] 41))).below ((Below.refl _ _).alloc (Nat.le_refl _) (.cells #[.int .i64 r, .int .i64 b, .int .i64 q] 41))).below ((Below.refl _ _).alloc (Nat.le_refl _) (.cells #[.int .i64 0, .int .i64 0] 23)))
  have X0 := ((Tri.new w (.int .i64 s) (.int .i64 a) (.int .i64 o) 41 (w.heap.size) (by simp)).alloc (.cells #[.int .i64 r, .int .i64 b, .int .i64 q] 41)).alloc (.cells #[.int .i64 0, .int .i64 0] 23)
  have Y0 := (Tri.new (w.alloc (.cells #[.int .i64 s, .int .i64 a, .int .i64 o] 41)) (.int .i64 r) (.int .i64 b) (.int .i64 q) 41 (w.heap.size + 1) (by simp)).alloc (.cells #[.int .i64 0, .int .i64 0] 23)
  have R0 := Duo.new ((w.alloc (.cells #[.int .i64 s, .int .i64 a, .int .i64 o] 41)).alloc (.cells #[.int .i64 r, .int .i64 b, .int .i64 q] 41)) (.int .i64 0) (.int .i64 0) 23 (w.heap.size + 1 + 1) (by simp)
  have HP := Lib.hid h
  have HQ := Lib.hid k
  have N0 := h.n0; have N1 := h.n1; have M0 := k.n0; have M1 := k.n1
  obtain ⟨D0, D1⟩ := dia_bd h
  obtain ⟨E0, E1⟩ := dia_bd k
  go_enter Tryd.func20, Tryd.ntmps20
  obtain ⟨xf0, xf1, xf2, xf3, xf4, xf5, xf6⟩ := id X0
  obtain ⟨yf0, yf1, yf2, yf3, yf4, yf5, yf6⟩ := id Y0
  obtain ⟨rf0, rf1, rf2, rf3, rf4⟩ := id R0
  go_wp2_with fail
  clear xf0 xf1 xf2 xf3 xf4 xf5 xf6 yf0 yf1 yf2 yf3 yf4 yf5 yf6 rf0 rf1 rf2 rf3 rf4
  refine (place_ok s a o _ HP.out T0.out).mono ?_
  rintro e w1 ⟨rfl, hb⟩
  have B1 := Lib.hid ((B0.out.up hb).alloc (.cells #[.int .i64 (diaP s o), .int .i64 (numP s a o)] 68))
  have T1 := Lib.hid ((T0.out.below hb).below ((Below.refl _ _).alloc (Nat.le_refl _) (.cells #[.int .i64 (diaP s o), .int .i64 (numP s a o)] 68)))
  have X1 := (X0.up hb).alloc (.cells #[.int .i64 (diaP s o), .int .i64 (numP s a o)] 68)
  have Y1 := (Y0.up hb).alloc (.cells #[.int .i64 (diaP s o), .int .i64 (numP s a o)] 68)
  have R1 := (R0.up hb).alloc (.cells #[.int .i64 (diaP s o), .int .i64 (numP s a o)] 68)
  have A1 := Duo.new w1 (.int .i64 (diaP s o)) (.int .i64 (numP s a o)) 68 (w1.heap.size) (by simp)
  clear hb B0 T0 X0 Y0 R0
  obtain ⟨xf0, xf1, xf2, xf3, xf4, xf5, xf6⟩ := id X1
  obtain ⟨yf0, yf1, yf2, yf3, yf4, yf5, yf6⟩ := id Y1
  obtain ⟨rf0, rf1, rf2, rf3, rf4⟩ := id R1
  obtain ⟨af0, af1, af2, af3, af4⟩ := id A1
  go_wp2_with fail
  clear xf0 xf1 xf2 xf3 xf4 xf5 xf6 yf0 yf1 yf2 yf3 yf4 yf5 yf6 rf0 rf1 rf2 rf3 rf4 af0 af1 af2 af3 af4
  refine (place_ok r b q _ HQ.out T1.out).mono ?_
  rintro e w2 ⟨rfl, hb⟩
  have B2 := Lib.hid ((B1.out.up hb).alloc (.cells #[.int .i64 (diaP r q), .int .i64 (numP r b q)] 68))
  have T2 := Lib.hid ((T1.out.below hb).below ((Below.refl _ _).alloc (Nat.le_refl _) (.cells #[.int .i64 (diaP r q), .int .i64 (numP r b q)] 68)))
  have X2 := (X1.up hb).alloc (.cells #[.int .i64 (diaP r q), .int .i64 (numP r b q)] 68)
  have Y2 := (Y1.up hb).alloc (.cells #[.int .i64 (diaP r q), .int .i64 (numP r b q)] 68)
  have R2 := (R1.up hb).alloc (.cells #[.int .i64 (diaP r q), .int .i64 (numP r b q)] 68)
  have A2 := (A1.up hb).alloc (.cells #[.int .i64 (diaP r q), .int .i64 (numP r b q)] 68)
  have C2 := Duo.new w2 (.int .i64 (diaP r q)) (.int .i64 (numP r b q)) 68 (w2.heap.size) (by simp)
  clear hb B1 T1 X1 Y1 R1 A1
  obtain ⟨xf0, xf1, xf2, xf3, xf4, xf5, xf6⟩ := id X2
  obtain ⟨yf0, yf1, yf2, yf3, yf4, yf5, yf6⟩ := id Y2
  obtain ⟨rf0, rf1, rf2, rf3, rf4⟩ := id R2
  obtain ⟨af0, af1, af2, af3, af4⟩ := id A2
  obtain ⟨cf0, cf1, cf2, cf3, cf4⟩ := id C2
  go_wp2_with fail
  have Tf := R2.store (u := .int .i64 (diaP r q - diaP s o)) (v := .int .i64 (numP r b q - numP s a o))
  exact bodyPost_ret (v := .tuple #[.agg #[.int .i64 (diaP r q - diaP s o), .int .i64 (numP r b q - numP s a o)], .int .i64 0]) (by first | (simp [results, Tryd.results20, go_sem, Tf.c0, Tf.c1]; done) | (simp [results, Tryd.results20, go_sem, Tf.c0, Tf.c1]; omega)) rfl ⟨rfl, ((B2.out.set (Nat.le_succ_of_le (Nat.le_succ _)) _ _).set (Nat.le_succ_of_le (Nat.le_succ _)) _ _)⟩
set_option maxRecDepth 100000 in
set_option maxHeartbeats 2000000 in
theorem ienh_bad (s a o : Int) (w : World) (h : ¬ Pit s a o) (ht : PT w) :
    Calls Tryd.prog 28 #[.agg #[.int .i64 s, .int .i64 a, .int .i64 o]] w fun e w' => e = .returned (.tuple #[.slice none 0 0, .int .i64 18]) ∧ Below w.heap.size w w' := by
  have B0 := Lib.hid ((Bel.refl w).alloc (.cells #[.int .i64 s, .int .i64 a, .int .i64 o] 41))
  have T0 := Lib.hid (ht.below ((Below.refl _ _).alloc (Nat.le_refl _) (.cells #[.int .i64 s, .int .i64 a, .int .i64 o] 41)))
  have X0 := Tri.new w (.int .i64 s) (.int .i64 a) (.int .i64 o) 41 (w.heap.size) (by simp)
  have HP := Lib.hid h
  go_enter Tryd.func28, Tryd.ntmps28
  obtain ⟨xf0, xf1, xf2, xf3, xf4, xf5, xf6⟩ := id X0
  go_wp2_with fail
  clear xf0 xf1 xf2 xf3 xf4 xf5 xf6
  refine (number2_bad s a o _ HP.out T0.out).mono ?_
  rintro e w1 ⟨rfl, hb⟩
  have B1 := Lib.hid (B0.out.up hb)
  have T1 := Lib.hid (T0.out.below hb)
  have X1 := X0.up hb
  clear hb B0 T0 X0
  obtain ⟨xf0, xf1, xf2, xf3, xf4, xf5, xf6⟩ := id X1
  go_wp2_with fail
  go_ret2
  exact ⟨rfl, B1.out.out⟩
set_option maxRecDepth 100000 in
set_option maxHeartbeats 2000000 in
theorem ienh_ok (s a o : Int) (w : World) (h : Pit s a o) (ht : PT w) :
    Calls Tryd.prog 28 #[.agg #[.int .i64 s, .int .i64 a, .int .i64 o]] w fun e w' => ∃ g cap, e = .returned (.tuple #[.slice (some ⟨g, 0, none⟩) (enhL (numP s a o)).length cap, .int .i64 0]) ∧ Row3 w' g (enhL (numP s a o)) ∧ Below w.heap.size w w' := by
  have B0 := Lib.hid ((Bel.refl w).alloc (.cells #[.int .i64 s, .int .i64 a, .int .i64 o] 41))
  have T0 := Lib.hid (ht.below ((Below.refl _ _).alloc (Nat.le_refl _) (.cells #[.int .i64 s, .int .i64 a, .int .i64 o] 41)))
  have X0 := Tri.new w (.int .i64 s) (.int .i64 a) (.int .i64 o) 41 (w.heap.size) (by simp)
  have HP := Lib.hid h
  have hne := enhL_some h.n0 h.n1
  go_enter Tryd.func28, Tryd.ntmps28
  obtain ⟨xf0, xf1, xf2, xf3, xf4, xf5, xf6⟩ := id X0
  go_wp2_with fail
  clear xf0 xf1 xf2 xf3 xf4 xf5 xf6
  refine (number2_ok s a o _ HP.out T0.out).mono ?_
  rintro e w1 ⟨rfl, hb⟩
  have B1 := Lib.hid (B0.out.up hb)
  have T1 := Lib.hid (T0.out.below hb)
  have X1 := X0.up hb
  clear hb B0 T0 X0
  obtain ⟨xf0, xf1, xf2, xf3, xf4, xf5, xf6⟩ := id X1
  go_wp2_with fail
  clear xf0 xf1 xf2 xf3 xf4 xf5 xf6
  refine (enh_ok (numP s a o) _ HP.out.n0 HP.out.n1 T1.out).mono ?_
  rintro e w2 ⟨v, rfl, hown, -, hb⟩
  obtain ⟨g, cap, rfl, hg, hrow⟩ := rows_of_own hown hne
  have G2 := Lib.hid (show Row3 w2 g (enhL (numP s a o)) from hrow)
  clear hown hg hrow
  have B2 := Lib.hid (B1.out.up hb)
  have T2 := Lib.hid (T1.out.below hb)
  have X2 := X1.up hb
  clear hb B1 T1 X1
  obtain ⟨xf0, xf1, xf2, xf3, xf4, xf5, xf6⟩ := id X2
  go_wp2_with fail
  go_ret2
  exact ⟨g, cap, rfl, G2.out, B2.out.out⟩
/-- the tables of the package interval read as they are laid -/
structure IT (w : World) : Prop where
  n0 : w.cell? ⟨3, 0, none⟩ = some (.int .i64 0)
  n1 : w.cell? ⟨3, 1, none⟩ = some (.int .i64 2)
  n2 : w.cell? ⟨3, 2, none⟩ = some (.int .i64 4)
  n3 : w.cell? ⟨3, 3, none⟩ = some (.int .i64 5)
  n4 : w.cell? ⟨3, 4, none⟩ = some (.int .i64 7)
  n5 : w.cell? ⟨3, 5, none⟩ = some (.int .i64 9)
  n6 : w.cell? ⟨3, 6, none⟩ = some (.int .i64 11)
  c0 : w.cell? ⟨0, 0, none⟩ = some (.int .i64 0)
  c1 : w.cell? ⟨0, 1, none⟩ = some (.int .i64 1)
  c2 : w.cell? ⟨0, 2, none⟩ = some (.int .i64 1)
  c3 : w.cell? ⟨0, 3, none⟩ = some (.int .i64 0)
  c4 : w.cell? ⟨0, 4, none⟩ = some (.int .i64 0)
  c5 : w.cell? ⟨0, 5, none⟩ = some (.int .i64 1)
  c6 : w.cell? ⟨0, 6, none⟩ = some (.int .i64 1)
  l0 : w.cell? ⟨2, 0, none⟩ = some (.int .i64 0)
  l1 : w.cell? ⟨2, 1, none⟩ = some (.int .i64 (-1))
theorem IT.below {w w' : World} (h : IT w) (hb : Below w.heap.size w w') : IT w' :=
  ⟨cell_up hb h.n0, cell_up hb h.n1, cell_up hb h.n2, cell_up hb h.n3, cell_up hb h.n4, cell_up hb h.n5, cell_up hb h.n6, cell_up hb h.c0, cell_up hb h.c1, cell_up hb h.c2, cell_up hb h.c3, cell_up hb h.c4, cell_up hb h.c5, cell_up hb h.c6, cell_up hb h.l0, cell_up hb h.l1⟩
def clsI (r : Int) : Int := if r = 0 ∨ r = 3 ∨ r = 4 then 0 else 1
theorem IT.nat {w : World} (h : IT w) {r : Int} (h0 : 0 ≤ r) (h1 : r ≤ 6) : w.cell? ⟨3, r.toNat, none⟩ = some (.int .i64 (stepI r)) := by
  rcases step_cases h0 h1 with rfl | rfl | rfl | rfl | rfl | rfl | rfl
  · exact h.n0
  · exact h.n1
  · exact h.n2
  · exact h.n3
  · exact h.n4
  · exact h.n5
  · exact h.n6
theorem IT.cls {w : World} (h : IT w) {r : Int} (h0 : 0 ≤ r) (h1 : r ≤ 6) : w.cell? ⟨0, r.toNat, none⟩ = some (.int .i64 (clsI r)) := by
  rcases step_cases h0 h1 with rfl | rfl | rfl | rfl | rfl | rfl | rfl
  · exact h.c0
  · exact h.c1
  · exact h.c2
  · exact h.c3
  · exact h.c4
  · exact h.c5
  · exact h.c6
def usualI (t : Int) : Int := 12 * (t / 7) + stepI (t % 7)
set_option maxHeartbeats 1000000 in
theorem usual_ok (t : Int) (w : World) (t0 : 0 ≤ t) (t1 : t ≤ 77) (hi : IT w) :
    Calls Tryd.prog 67 #[.int .i64 t] w fun e w' => e = .returned (.int .i64 (usualI t)) ∧ Below w.heap.size w w' := by
  have e0 := hi.nat (r := t % 7) (by omega) (by omega)
  have b0 := step_bd (s := t % 7) (by omega) (by omega)
  have B0 := Lib.hid (Bel.refl w)
  unfold usualI
  generalize stepI (t % 7) = S at *
  have d0 : 0 ≤ t / 7 ∧ t / 7 ≤ 11 := by omega
  clear hi
  go_enter Tryd.func67, Tryd.ntmps67
  go_wp2_with fail
  try (go_quiet (fail); go_wp2_with fail)
  go_ret
  exact ⟨by first | rfl | (simp [go_sem]; done), by first | exact B0.out.out | exact below_drewN B0.out.out _⟩
end Go.Proofs.YtfbogakmhaiddaaDoor
