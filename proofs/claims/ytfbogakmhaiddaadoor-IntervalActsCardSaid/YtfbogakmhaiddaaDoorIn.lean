/- Intervals: the reference's Exact. -/
import Derived.Test.YtfbogakmhaiddaaDoorIm
namespace Go.Proofs.YtfbogakmhaiddaaDoor
open Go.RowKit
set_option linter.unusedVariables false
set_option linter.unusedSimpArgs false

theorem rows_any {w : World} {base : Nat} {v : Value} {L : List (Int × Int × Int)} (h : w.ownsRow base 41 3 v L.length (cells3 L)) : ∃ ad cap, v = .slice ad L.length cap ∧ (L ≠ [] → ∃ g, ad = some ⟨g, 0, none⟩ ∧ Row3 w g L) := by
  by_cases hL : L = []
  · subst hL
    rcases h.2 with ⟨h1, _⟩ | ⟨g, cap, cur, h1, _⟩
    · exact ⟨_, _, h1, fun h => absurd rfl h⟩
    · exact ⟨_, _, h1, fun h => absurd rfl h⟩
  · obtain ⟨g, cap, rfl, hg, hrow⟩ := rows_of_own h hL
    exact ⟨_, _, rfl, fun _ => ⟨g, rfl, hrow⟩⟩
def RxPost (s a o t m : Int) (w : World) (e : Ending) (w' : World) : Prop :=
  (∃ q, findD (enhL (numP s a o + m)) (diaP s o + t) = some q ∧ e = .returned (.tuple #[.agg #[.int .i64 q.1, .int .i64 q.2.1, .int .i64 q.2.2], .int .i64 0]) ∧ Below w.heap.size w w') ∨
  (findD (enhL (numP s a o + m)) (diaP s o + t) = none ∧ e = .returned (.tuple #[.agg #[.int .i64 0, .int .i64 0, .int .i64 0], .int .i64 18]) ∧ Below w.heap.size w w')
/-- what the loop keeps -/
structure XL (w w0 wr : World) (s a o t m : Int) : Prop where
  bel : Bel w wr
  up : Below w0.heap.size w0 wr
  p : Tri wr w.heap.size (.int .i64 s) (.int .i64 a) (.int .i64 o)
  i : Duo wr (w.heap.size + 1) (.int .i64 t) (.int .i64 m)
  r : Tri wr (w.heap.size + 1 + 1) (.int .i64 0) (.int .i64 0) (.int .i64 0)
theorem XL.go {w w0 wr w' : World} {s a o t m : Int} (h : XL w w0 wr s a o t m) (hb : Below wr.heap.size wr w') : XL w w0 w' s a o t m := ⟨h.bel.up hb, h.up.trans (hb.mono h.up.size), h.p.up hb, h.i.up hb, h.r.up hb⟩
set_option maxRecDepth 100000 in
set_option maxHeartbeats 2000000 in
theorem rexact_b1 (s a o t m : Int) (w : World) (h : ¬ Pit s a o) :
    Calls Tryd.prog 24 #[.agg #[.int .i64 s, .int .i64 a, .int .i64 o], .agg #[.int .i64 t, .int .i64 m]] w fun e w' => e = .returned (.tuple #[.agg #[.int .i64 0, .int .i64 0, .int .i64 0], .int .i64 18]) ∧ Below w.heap.size w w' := by
  have B0 := Lib.hid ((((Bel.refl w).alloc (.cells #[.int .i64 s, .int .i64 a, .int .i64 o] 41)).alloc (.cells #[.int .i64 t, .int .i64 m] 23)).alloc (.cells #[.int .i64 0, .int .i64 0, .int .i64 0] 41))
  have X0 := ((Tri.new w (.int .i64 s) (.int .i64 a) (.int .i64 o) 41 (w.heap.size) (by simp)).alloc (.cells #[.int .i64 t, .int .i64 m] 23)).alloc (.cells #[.int .i64 0, .int .i64 0, .int .i64 0] 41)
  have Y0 := (Duo.new (w.alloc (.cells #[.int .i64 s, .int .i64 a, .int .i64 o] 41)) (.int .i64 t) (.int .i64 m) 23 (w.heap.size + 1) (by simp)).alloc (.cells #[.int .i64 0, .int .i64 0, .int .i64 0] 41)
  have R0 := Tri.new ((w.alloc (.cells #[.int .i64 s, .int .i64 a, .int .i64 o] 41)).alloc (.cells #[.int .i64 t, .int .i64 m] 23)) (.int .i64 0) (.int .i64 0) (.int .i64 0) 41 (w.heap.size + 1 + 1) (by simp)
  have HP := Lib.hid h
  go_enter Tryd.func24, Tryd.ntmps24
  obtain ⟨xf0, xf1, xf2, xf3, xf4, xf5, xf6⟩ := id X0
  obtain ⟨yf0, yf1, yf2, yf3, yf4⟩ := id Y0
  obtain ⟨rf0, rf1, rf2, rf3, rf4, rf5, rf6⟩ := id R0
  go_wp2_with fail
  clear xf0 xf1 xf2 xf3 xf4 xf5 xf6 yf0 yf1 yf2 yf3 yf4 rf0 rf1 rf2 rf3 rf4 rf5 rf6
  refine (valid_no s a o _ HP.out).mono ?_
  rintro e w1 ⟨rfl, hb⟩
  have B1 := Lib.hid (B0.out.up hb)
  have X1 := X0.up hb
  have Y1 := Y0.up hb
  have R1 := R0.up hb
  clear hb B0  X0 Y0 R0
  obtain ⟨xf0, xf1, xf2, xf3, xf4, xf5, xf6⟩ := id X1
  obtain ⟨yf0, yf1, yf2, yf3, yf4⟩ := id Y1
  obtain ⟨rf0, rf1, rf2, rf3, rf4, rf5, rf6⟩ := id R1
  go_wp2_with fail
  have Tf := R1.store (u := .int .i64 0) (v := .int .i64 0) (t := .int .i64 0)
  exact bodyPost_ret (v := .tuple #[.agg #[.int .i64 0, .int .i64 0, .int .i64 0], .int .i64 18]) (by first | (simp [results, Tryd.results24, go_sem, Tf.c0, Tf.c1, Tf.c2]; done) | (simp [results, Tryd.results24, go_sem, Tf.c0, Tf.c1, Tf.c2]; omega)) rfl ⟨rfl, (((B1.out.set (Nat.le_succ_of_le (Nat.le_succ _)) _ _).set (Nat.le_succ_of_le (Nat.le_succ _)) _ _).set (Nat.le_succ_of_le (Nat.le_succ _)) _ _)⟩
set_option maxRecDepth 100000 in
set_option maxHeartbeats 2000000 in
theorem rexact_b2 (s a o t m : Int) (w : World) (h : Pit s a o) (k : ¬ Iv t m) :
    Calls Tryd.prog 24 #[.agg #[.int .i64 s, .int .i64 a, .int .i64 o], .agg #[.int .i64 t, .int .i64 m]] w fun e w' => e = .returned (.tuple #[.agg #[.int .i64 0, .int .i64 0, .int .i64 0], .int .i64 2]) ∧ Below w.heap.size w w' := by
  have B0 := Lib.hid ((((Bel.refl w).alloc (.cells #[.int .i64 s, .int .i64 a, .int .i64 o] 41)).alloc (.cells #[.int .i64 t, .int .i64 m] 23)).alloc (.cells #[.int .i64 0, .int .i64 0, .int .i64 0] 41))
  have X0 := ((Tri.new w (.int .i64 s) (.int .i64 a) (.int .i64 o) 41 (w.heap.size) (by simp)).alloc (.cells #[.int .i64 t, .int .i64 m] 23)).alloc (.cells #[.int .i64 0, .int .i64 0, .int .i64 0] 41)
  have Y0 := (Duo.new (w.alloc (.cells #[.int .i64 s, .int .i64 a, .int .i64 o] 41)) (.int .i64 t) (.int .i64 m) 23 (w.heap.size + 1) (by simp)).alloc (.cells #[.int .i64 0, .int .i64 0, .int .i64 0] 41)
  have R0 := Tri.new ((w.alloc (.cells #[.int .i64 s, .int .i64 a, .int .i64 o] 41)).alloc (.cells #[.int .i64 t, .int .i64 m] 23)) (.int .i64 0) (.int .i64 0) (.int .i64 0) 41 (w.heap.size + 1 + 1) (by simp)
  have HP := Lib.hid h
  have HQ := Lib.hid k
  go_enter Tryd.func24, Tryd.ntmps24
  obtain ⟨xf0, xf1, xf2, xf3, xf4, xf5, xf6⟩ := id X0
  obtain ⟨yf0, yf1, yf2, yf3, yf4⟩ := id Y0
  obtain ⟨rf0, rf1, rf2, rf3, rf4, rf5, rf6⟩ := id R0
  go_wp2_with fail
  clear xf0 xf1 xf2 xf3 xf4 xf5 xf6 yf0 yf1 yf2 yf3 yf4 rf0 rf1 rf2 rf3 rf4 rf5 rf6
  refine (valid_yes s a o _ HP.out).mono ?_
  rintro e w1 ⟨rfl, hb⟩
  have B1 := Lib.hid (B0.out.up hb)
  have X1 := X0.up hb
  have Y1 := Y0.up hb
  have R1 := R0.up hb
  clear hb B0  X0 Y0 R0
  obtain ⟨xf0, xf1, xf2, xf3, xf4, xf5, xf6⟩ := id X1
  obtain ⟨yf0, yf1, yf2, yf3, yf4⟩ := id Y1
  obtain ⟨rf0, rf1, rf2, rf3, rf4, rf5, rf6⟩ := id R1
  go_wp2_with fail
  clear xf0 xf1 xf2 xf3 xf4 xf5 xf6 yf0 yf1 yf2 yf3 yf4 rf0 rf1 rf2 rf3 rf4 rf5 rf6
  refine (refIs_no t m _ HQ.out).mono ?_
  rintro e w2 ⟨rfl, hb⟩
  have B2 := Lib.hid (B1.out.up hb)
  have X2 := X1.up hb
  have Y2 := Y1.up hb
  have R2 := R1.up hb
  clear hb B1  X1 Y1 R1
  obtain ⟨xf0, xf1, xf2, xf3, xf4, xf5, xf6⟩ := id X2
  obtain ⟨yf0, yf1, yf2, yf3, yf4⟩ := id Y2
  obtain ⟨rf0, rf1, rf2, rf3, rf4, rf5, rf6⟩ := id R2
  go_wp2_with fail
  have Tf := R2.store (u := .int .i64 0) (v := .int .i64 0) (t := .int .i64 0)
  exact bodyPost_ret (v := .tuple #[.agg #[.int .i64 0, .int .i64 0, .int .i64 0], .int .i64 2]) (by first | (simp [results, Tryd.results24, go_sem, Tf.c0, Tf.c1, Tf.c2]; done) | (simp [results, Tryd.results24, go_sem, Tf.c0, Tf.c1, Tf.c2]; omega)) rfl ⟨rfl, (((B2.out.set (Nat.le_succ_of_le (Nat.le_succ _)) _ _).set (Nat.le_succ_of_le (Nat.le_succ _)) _ _).set (Nat.le_succ_of_le (Nat.le_succ _)) _ _)⟩
set_option maxRecDepth 100000 in
set_option maxHeartbeats 2000000 in
theorem rtransp_b1 (s a o t m : Int) (w : World) (h : ¬ Pit s a o) :
    Calls Tryd.prog 26 #[.agg #[.int .i64 s, .int .i64 a, .int .i64 o], .agg #[.int .i64 t, .int .i64 m]] w fun e w' => e = .returned (.tuple #[.agg #[.int .i64 0, .int .i64 0, .int .i64 0], .int .i64 18]) ∧ Below w.heap.size w w' := by
  have B0 := Lib.hid ((((Bel.refl w).alloc (.cells #[.int .i64 s, .int .i64 a, .int .i64 o] 41)).alloc (.cells #[.int .i64 t, .int .i64 m] 23)).alloc (.cells #[.int .i64 0, .int .i64 0, .int .i64 0] 41))
  have X0 := ((Tri.new w (.int .i64 s) (.int .i64 a) (.int .i64 o) 41 (w.heap.size) (by simp)).alloc (.cells #[.int .i64 t, .int .i64 m] 23)).alloc (.cells #[.int .i64 0, .int .i64 0, .int .i64 0] 41)
  have Y0 := (Duo.new (w.alloc (.cells #[.int .i64 s, .int .i64 a, .int .i64 o] 41)) (.int .i64 t) (.int .i64 m) 23 (w.heap.size + 1) (by simp)).alloc (.cells #[.int .i64 0, .int .i64 0, .int .i64 0] 41)
  have R0 := Tri.new ((w.alloc (.cells #[.int .i64 s, .int .i64 a, .int .i64 o] 41)).alloc (.cells #[.int .i64 t, .int .i64 m] 23)) (.int .i64 0) (.int .i64 0) (.int .i64 0) 41 (w.heap.size + 1 + 1) (by simp)
  have HP := Lib.hid h
  go_enter Tryd.func26, Tryd.ntmps26
  obtain ⟨xf0, xf1, xf2, xf3, xf4, xf5, xf6⟩ := id X0
  obtain ⟨yf0, yf1, yf2, yf3, yf4⟩ := id Y0
  obtain ⟨rf0, rf1, rf2, rf3, rf4, rf5, rf6⟩ := id R0
  go_wp2_with fail
  clear xf0 xf1 xf2 xf3 xf4 xf5 xf6 yf0 yf1 yf2 yf3 yf4 rf0 rf1 rf2 rf3 rf4 rf5 rf6
  refine (valid_no s a o _ HP.out).mono ?_
  rintro e w1 ⟨rfl, hb⟩
  have B1 := Lib.hid (B0.out.up hb)
  have X1 := X0.up hb
  have Y1 := Y0.up hb
  have R1 := R0.up hb
  clear hb B0  X0 Y0 R0
  obtain ⟨xf0, xf1, xf2, xf3, xf4, xf5, xf6⟩ := id X1
  obtain ⟨yf0, yf1, yf2, yf3, yf4⟩ := id Y1
  obtain ⟨rf0, rf1, rf2, rf3, rf4, rf5, rf6⟩ := id R1
  go_wp2_with fail
  have Tf := R1.store (u := .int .i64 0) (v := .int .i64 0) (t := .int .i64 0)
  exact bodyPost_ret (v := .tuple #[.agg #[.int .i64 0, .int .i64 0, .int .i64 0], .int .i64 18]) (by first | (simp [results, Tryd.results26, go_sem, Tf.c0, Tf.c1, Tf.c2]; done) | (simp [results, Tryd.results26, go_sem, Tf.c0, Tf.c1, Tf.c2]; omega)) rfl ⟨rfl, (((B1.out.set (Nat.le_succ_of_le (Nat.le_succ _)) _ _).set (Nat.le_succ_of_le (Nat.le_succ _)) _ _).set (Nat.le_succ_of_le (Nat.le_succ _)) _ _)⟩
set_option maxRecDepth 100000 in
set_option maxHeartbeats 2000000 in
theorem rtransp_b2 (s a o t m : Int) (w : World) (h : Pit s a o) (k : ¬ Iv t m) :
    Calls Tryd.prog 26 #[.agg #[.int .i64 s, .int .i64 a, .int .i64 o], .agg #[.int .i64 t, .int .i64 m]] w fun e w' => e = .returned (.tuple #[.agg #[.int .i64 0, .int .i64 0, .int .i64 0], .int .i64 2]) ∧ Below w.heap.size w w' := by
  have B0 := Lib.hid ((((Bel.refl w).alloc (.cells #[.int .i64 s, .int .i64 a, .int .i64 o] 41)).alloc (.cells #[.int .i64 t, .int .i64 m] 23)).alloc (.cells #[.int .i64 0, .int .i64 0, .int .i64 0] 41))
  have X0 := ((Tri.new w (.int .i64 s) (.int .i64 a) (.int .i64 o) 41 (w.heap.size) (by simp)).alloc (.cells #[.int .i64 t, .int .i64 m] 23)).alloc (.cells #[.int .i64 0, .int .i64 0, .int .i64 0] 41)
  have Y0 := (Duo.new (w.alloc (.cells #[.int .i64 s, .int .i64 a, .int .i64 o] 41)) (.int .i64 t) (.int .i64 m) 23 (w.heap.size + 1) (by simp)).alloc (.cells #[.int .i64 0, .int .i64 0, .int .i64 0] 41)
  have R0 := Tri.new ((w.alloc (.cells #[.int .i64 s, .int .i64 a, .int .i64 o] 41)).alloc (.cells #[.int .i64 t, .int .i64 m] 23)) (.int .i64 0) (.int .i64 0) (.int .i64 0) 41 (w.heap.size + 1 + 1) (by simp)
  have HP := Lib.hid h
  have HQ := Lib.hid k
  go_enter Tryd.func26, Tryd.ntmps26
  obtain ⟨xf0, xf1, xf2, xf3, xf4, xf5, xf6⟩ := id X0
  obtain ⟨yf0, yf1, yf2, yf3, yf4⟩ := id Y0
  obtain ⟨rf0, rf1, rf2, rf3, rf4, rf5, rf6⟩ := id R0
  go_wp2_with fail
  clear xf0 xf1 xf2 xf3 xf4 xf5 xf6 yf0 yf1 yf2 yf3 yf4 rf0 rf1 rf2 rf3 rf4 rf5 rf6
  refine (valid_yes s a o _ HP.out).mono ?_
  rintro e w1 ⟨rfl, hb⟩
  have B1 := Lib.hid (B0.out.up hb)
  have X1 := X0.up hb
  have Y1 := Y0.up hb
  have R1 := R0.up hb
  clear hb B0  X0 Y0 R0
  obtain ⟨xf0, xf1, xf2, xf3, xf4, xf5, xf6⟩ := id X1
  obtain ⟨yf0, yf1, yf2, yf3, yf4⟩ := id Y1
  obtain ⟨rf0, rf1, rf2, rf3, rf4, rf5, rf6⟩ := id R1
  go_wp2_with fail
  clear xf0 xf1 xf2 xf3 xf4 xf5 xf6 yf0 yf1 yf2 yf3 yf4 rf0 rf1 rf2 rf3 rf4 rf5 rf6
  refine (refIs_no t m _ HQ.out).mono ?_
  rintro e w2 ⟨rfl, hb⟩
  have B2 := Lib.hid (B1.out.up hb)
  have X2 := X1.up hb
  have Y2 := Y1.up hb
  have R2 := R1.up hb
  clear hb B1  X1 Y1 R1
  obtain ⟨xf0, xf1, xf2, xf3, xf4, xf5, xf6⟩ := id X2
  obtain ⟨yf0, yf1, yf2, yf3, yf4⟩ := id Y2
  obtain ⟨rf0, rf1, rf2, rf3, rf4, rf5, rf6⟩ := id R2
  go_wp2_with fail
  have Tf := R2.store (u := .int .i64 0) (v := .int .i64 0) (t := .int .i64 0)
  exact bodyPost_ret (v := .tuple #[.agg #[.int .i64 0, .int .i64 0, .int .i64 0], .int .i64 2]) (by first | (simp [results, Tryd.results26, go_sem, Tf.c0, Tf.c1, Tf.c2]; done) | (simp [results, Tryd.results26, go_sem, Tf.c0, Tf.c1, Tf.c2]; omega)) rfl ⟨rfl, (((B2.out.set (Nat.le_succ_of_le (Nat.le_succ _)) _ _).set (Nat.le_succ_of_le (Nat.le_succ _)) _ _).set (Nat.le_succ_of_le (Nat.le_succ _)) _ _)⟩
set_option maxRecDepth 100000 in
set_option maxHeartbeats 2000000 in
theorem rexact_any (s a o t m : Int) (w : World) (h : Pit s a o) (k : Iv t m) :
    Calls Tryd.prog 24 #[.agg #[.int .i64 s, .int .i64 a, .int .i64 o], .agg #[.int .i64 t, .int .i64 m]] w fun e w' => RxPost s a o t m w e w' := by
  have B0 := Lib.hid ((((Bel.refl w).alloc (.cells #[.int .i64 s, .int .i64 a, .int .i64 o] 41)).alloc (.cells #[.int .i64 t, .int .i64 m] 23)).alloc (.cells #[.int .i64 0, .int .i64 0, .int .i64 0] 41))
  have X0 := ((Tri.new w (.int .i64 s) (.int .i64 a) (.int .i64 o) 41 (w.heap.size) (by simp)).alloc (.cells #[.int .i64 t, .int .i64 m] 23)).alloc (.cells #[.int .i64 0, .int .i64 0, .int .i64 0] 41)
  have Y0 := (Duo.new (w.alloc (.cells #[.int .i64 s, .int .i64 a, .int .i64 o] 41)) (.int .i64 t) (.int .i64 m) 23 (w.heap.size + 1) (by simp)).alloc (.cells #[.int .i64 0, .int .i64 0, .int .i64 0] 41)
  have R0 := Tri.new ((w.alloc (.cells #[.int .i64 s, .int .i64 a, .int .i64 o] 41)).alloc (.cells #[.int .i64 t, .int .i64 m] 23)) (.int .i64 0) (.int .i64 0) (.int .i64 0) 41 (w.heap.size + 1 + 1) (by simp)
  have HP := Lib.hid h
  have HQ := Lib.hid k
  have N0 := h.n0; have N1 := h.n1; have M0 := k.m0; have M1 := k.m1; have T0' := k.t0; have T1' := k.t1
  obtain ⟨D0, D1⟩ := dia_bd h
  go_enter Tryd.func24, Tryd.ntmps24
  obtain ⟨xf0, xf1, xf2, xf3, xf4, xf5, xf6⟩ := id X0
  obtain ⟨yf0, yf1, yf2, yf3, yf4⟩ := id Y0
  obtain ⟨rf0, rf1, rf2, rf3, rf4, rf5, rf6⟩ := id R0
  go_wp2_with fail
  clear xf0 xf1 xf2 xf3 xf4 xf5 xf6 yf0 yf1 yf2 yf3 yf4 rf0 rf1 rf2 rf3 rf4 rf5 rf6
  refine (valid_yes s a o _ HP.out).mono ?_
  rintro e w1 ⟨rfl, hb⟩
  have B1 := Lib.hid (B0.out.up hb)
  have X1 := X0.up hb
  have Y1 := Y0.up hb
  have R1 := R0.up hb
  clear hb B0  X0 Y0 R0
  obtain ⟨xf0, xf1, xf2, xf3, xf4, xf5, xf6⟩ := id X1
  obtain ⟨yf0, yf1, yf2, yf3, yf4⟩ := id Y1
  obtain ⟨rf0, rf1, rf2, rf3, rf4, rf5, rf6⟩ := id R1
  go_wp2_with fail
  clear xf0 xf1 xf2 xf3 xf4 xf5 xf6 yf0 yf1 yf2 yf3 yf4 rf0 rf1 rf2 rf3 rf4 rf5 rf6
  refine (refIs_yes t m _ HQ.out).mono ?_
  rintro e w2 ⟨rfl, hb⟩
  have B2 := Lib.hid (B1.out.up hb)
  have X2 := X1.up hb
  have Y2 := Y1.up hb
  have R2 := R1.up hb
  clear hb B1  X1 Y1 R1
  obtain ⟨xf0, xf1, xf2, xf3, xf4, xf5, xf6⟩ := id X2
  obtain ⟨yf0, yf1, yf2, yf3, yf4⟩ := id Y2
  obtain ⟨rf0, rf1, rf2, rf3, rf4, rf5, rf6⟩ := id R2
  go_wp2_with fail
  clear xf0 xf1 xf2 xf3 xf4 xf5 xf6 yf0 yf1 yf2 yf3 yf4 rf0 rf1 rf2 rf3 rf4 rf5 rf6
  refine Qt.region 5 (by kernel_rfl) (by kernel_rfl) ?_
  intro T f F hne
  have RB := Lib.hid (fun g => B2.out.up (F.below g))
  have RX := fun g => X2.up (F.below g)
  have RX0 := fun g => (RX g).c0
  have RX1 := fun g => (RX g).c1
  have RX2 := fun g => (RX g).c2
  have RY := fun g => Y2.up (F.below g)
  have RY0 := fun g => (RY g).c0
  have RY1 := fun g => (RY g).c1
  have RR := fun g => R2.up (F.below g)
  have RR0 := fun g => (RR g).c0
  have RR1 := fun g => (RR g).c1
  have RR2 := fun g => (RR g).c2
  simp only [List.take_succ_cons, List.take_zero, List.drop_succ_cons, List.drop_zero]
  repeat (go_big_quiet_step (first | (go_at_call 27; with_reducible exact F.call (refNum_any s a o _ HP.out.s0 HP.out.s1 HP.out.a0 HP.out.a1 HP.out.o0 HP.out.o1))))
  refine wpQuiet_nil ?_
  rintro _ ⟨g, rfl⟩
  have B3 := Lib.hid (RB.out g)
  have X3 := RX g
  have Y3 := RY g
  have R3 := RR g
  clear F RB hne RX RX0 RX1 RX2 RY RY0 RY1 RR RR0 RR1 RR2 B2 X2 Y2 R2
  generalize f g = w3 at *
  clear f
  obtain ⟨xf0, xf1, xf2, xf3, xf4, xf5, xf6⟩ := id X3
  obtain ⟨yf0, yf1, yf2, yf3, yf4⟩ := id Y3
  obtain ⟨rf0, rf1, rf2, rf3, rf4, rf5, rf6⟩ := id R3
  go_wp2_with fail
  clear xf0 xf1 xf2 xf3 xf4 xf5 xf6 yf0 yf1 yf2 yf3 yf4 rf0 rf1 rf2 rf3 rf4 rf5 rf6
  refine (refAll_any (numP s a o + m) _ (by omega) (by omega)).mono ?_
  rintro e w4 ⟨v, rfl, hown, hb⟩
  rw [refA_enh] at hown
  obtain ⟨ad, cap, rfl, hrow⟩ := rows_any hown
  have HW := Lib.hid hrow
  have HA := Lib.hid (show XL w w4 w4 s a o t m from ⟨B3.out.up hb, Below.refl _ _, X3.up hb, Y3.up hb, R3.up hb⟩)
  clear hown hrow hb B3 X3 Y3 R3
  have hpit := Lib.hid (enhL_pit (n := numP s a o + m))
  have hlen := enhL_len (numP s a o + m)
  generalize hLL : enhL (numP s a o + m) = L at *
  have HLL := Lib.hid hLL
  clear hLL
  obtain ⟨E, hE⟩ : ∃ E, diaP s o + t = E := ⟨_, rfl⟩
  have HE := Lib.hid hE
  clear hE
  go_wp2_with fail
  go_loopg [7] L.length (fun gm i wr => ∃ k : Nat, k ≤ L.length ∧ gm = L.length - k ∧ i = .int .i64 (k : Int) ∧ Hid (∀ (j : Nat) (q : Int × Int × Int), j < k → L[j]? = some q → diaP q.1 q.2.2 ≠ diaP s o + t) ∧ Hid (XL w w4 wr s a o t m))
  case atStart => exact ⟨0, by omega, by omega, rfl, Lib.hid (fun j q hj => absurd hj (by omega)), HA⟩
  case round =>
    obtain ⟨k', hk, rfl, rfl, HN, HS⟩ := hrel
    clear HA
    by_cases hlt : k' < L.length
    · obtain ⟨q, hq⟩ : ∃ q, L[k']? = some q := ⟨_, List.getElem?_eq_getElem hlt⟩
      obtain ⟨g, rfl, hrow⟩ := HW.out (by intro e; rw [e] at hlt; simp at hlt)
      obtain ⟨q1, q2, q3⟩ := hrow.up HS.out.up k' q hq
      have pq := Lib.hid (hpit.out q (List.mem_of_getElem? hq)).1
      obtain ⟨f0, f1⟩ := dia_bd pq.out
      have HQ' := Lib.hid hq
      clear hq hrow HW
      have NS : Hid ((diaP q.1 q.2.2 == diaP s o + t) = decide (diaP q.1 q.2.2 = diaP s o + t)) := by
        unfold Hid
        rw [Bool.eq_iff_iff]; simp
      have XP := HS.out.p
      have XI := HS.out.i
      go_wp2_with fail
      refine Qt.regionAll (by kernel_rfl) (by kernel_rfl) ?_
      intro T f F hne
      have RS := Lib.hid (fun g => HS.out.go (F.below g))
      have a1 := fun t => cell_up (F.below t) q1; have a2 := fun t => cell_up (F.below t) q2; have a3 := fun t => cell_up (F.below t) q3
      have b1 := fun t => (RS.out t).p.c0; have b2 := fun t => (RS.out t).p.c1; have b3 := fun t => (RS.out t).p.c2
      have c1 := fun t => (RS.out t).i.c0; have c2 := fun t => (RS.out t).i.c1
      repeat (go_big_quiet_step (first | (go_at_call 44; with_reducible exact F.call (refPos_any q.1 q.2.1 q.2.2 _ pq.out.s0 pq.out.s1 pq.out.o0 pq.out.o1)) | (go_at_call 44; with_reducible exact F.call (refPos_any s a o _ HP.out.s0 HP.out.s1 HP.out.o0 HP.out.o1))))
      refine wpQuiet_nil ?_
      rintro _ ⟨t', rfl⟩
      have H4 := Lib.hid (RS.out t')
      replace q1 := a1 t'
      replace q2 := a2 t'
      replace q3 := a3 t'
      clear F RS hne a1 a2 a3 b1 b2 b3 c1 c2 XP XI HS
      generalize f t' = w5 at *
      clear f
      obtain ⟨r0, r1, r2, r3, r4, r5, r6⟩ := id H4.out.r
      by_cases hm : diaP q.1 q.2.2 = diaP s o + t
      · have hm' : (diaP q.1 q.2.2 == diaP s o + t) = true := by rw [NS.out]; simpa using hm
        have HM := Lib.hid hm
        clear hm
        go_wp2_with fail
        have Tf := H4.out.r.store (u := .int .i64 q.1) (v := .int .i64 q.2.1) (t := .int .i64 q.2.2)
        exact bodyPost_ret (v := .tuple #[.agg #[.int .i64 q.1, .int .i64 q.2.1, .int .i64 q.2.2], .int .i64 0]) (by simp [results, Tryd.results24, go_sem, Tf.c0, Tf.c1, Tf.c2]) rfl (.inl ⟨q, by rw [HLL.out]; exact find_at HQ'.out HN.out HM.out, rfl, ((H4.out.bel.set (Nat.le_succ_of_le (Nat.le_succ _)) _ _).set (Nat.le_succ_of_le (Nat.le_succ _)) _ _).set (Nat.le_succ_of_le (Nat.le_succ _)) _ _⟩)
      · have hm' : (diaP q.1 q.2.2 == diaP s o + t) = false := by rw [NS.out]; simpa using hm
        have HM := Lib.hid hm
        clear hm
        go_wp2_with fail
        go_roundg (L.length - (k' + 1))
        case measure => omega
        case rel => exact ⟨k' + 1, by omega, rfl, by go_num, Lib.hid (fun j p hj hp => by
          by_cases e : j = k'
          · subst e; rw [HQ'.out] at hp; cases hp; exact HM.out
          · exact HN.out j p (by omega) hp), H4⟩
    · obtain rfl : k' = L.length := by omega
      obtain ⟨r0, r1, r2, r3, r4, r5, r6⟩ := id HS.out.r
      go_wp2_with fail
      have Tf := HS.out.r.store (u := .int .i64 0) (v := .int .i64 0) (t := .int .i64 0)
      exact bodyPost_ret (v := .tuple #[.agg #[.int .i64 0, .int .i64 0, .int .i64 0], .int .i64 18]) (by simp [results, Tryd.results24, go_sem, Tf.c0, Tf.c1, Tf.c2]) rfl (.inr ⟨by rw [HLL.out]; exact find_no HN.out, rfl, ((HS.out.bel.set (Nat.le_succ_of_le (Nat.le_succ _)) _ _).set (Nat.le_succ_of_le (Nat.le_succ _)) _ _).set (Nat.le_succ_of_le (Nat.le_succ _)) _ _⟩)
end Go.Proofs.YtfbogakmhaiddaaDoor
