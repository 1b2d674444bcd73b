/- Tuplets: end, contains, inRange. -/
import Derived.Test.YtidggmfgbcmklaaTb
namespace Go.Proofs.Ytidggmfgbcmklaa
open Go.RowKit
set_option linter.unusedVariables false
set_option linter.unusedSimpArgs false

set_option maxRecDepth 100000 in
set_option maxHeartbeats 2000000 in
theorem end_ok (t : Tp) (w : World) (h : Sm t) :
    Calls Try.prog 50 #[.agg #[.int .i64 t.F, .int .i64 t.C, .int .i64 t.A, .int .i64 t.N]] w fun e w' => e = .returned (.int .i64 (t.F + t.C)) ∧ Below w.heap.size w w' := by
  obtain ⟨f0, f1, c0, c1, e1⟩ := h
  have B0 := Lib.hid ((Bel.refl w).alloc (.cells #[.int .i64 t.F, .int .i64 t.C, .int .i64 t.A, .int .i64 t.N] 52))
  have X0 := Quad.new w (.int .i64 t.F) (.int .i64 t.C) (.int .i64 t.A) (.int .i64 t.N) 52 (w.heap.size) (by simp)
  go_enter Try.func50, Try.ntmps50
  obtain ⟨xf0, xf1, xf2, xf3, xf4, xf5, xf6, xf7, xf8⟩ := id X0
  go_wp2_with fail
  go_ret
  exact ⟨rfl, B0.out.out⟩
set_option maxRecDepth 100000 in
set_option maxHeartbeats 2000000 in
theorem contains_y (t : Tp) (x : Int) (w : World) (h : Sm t) (hx : t.has x) :
    Calls Try.prog 43 #[.agg #[.int .i64 t.F, .int .i64 t.C, .int .i64 t.A, .int .i64 t.N], .int .i64 x] w fun e w' => e = .returned (.bool true) ∧ Below w.heap.size w w' := by
  have HS := Lib.hid h
  unfold Tp.has at hx
  obtain ⟨x0, x1⟩ := hx
  have g0 : decide (t.F ≤ x) = true := decide_eq_true x0
  have g1 : decide (x < t.F + t.C) = true := decide_eq_true x1
  clear x0 x1
  have B0 := Lib.hid ((Bel.refl w).alloc (.cells #[.int .i64 t.F, .int .i64 t.C, .int .i64 t.A, .int .i64 t.N] 52))
  have X0 := Quad.new w (.int .i64 t.F) (.int .i64 t.C) (.int .i64 t.A) (.int .i64 t.N) 52 (w.heap.size) (by simp)
  go_enter Try.func43, Try.ntmps43
  obtain ⟨xf0, xf1, xf2, xf3, xf4, xf5, xf6, xf7, xf8⟩ := id X0
  go_wp2_with fail
  clear xf0 xf1 xf2 xf3 xf4 xf5 xf6 xf7 xf8
  refine (end_ok t _ HS.out).mono ?_
  rintro e w1 ⟨rfl, hb⟩
  have B1 := Lib.hid (B0.out.up hb)
  have X1 := X0.up hb
  clear hb B0  X0
  obtain ⟨xf0, xf1, xf2, xf3, xf4, xf5, xf6, xf7, xf8⟩ := id X1
  go_wp2_with fail
  go_ret
  exact ⟨rfl, B1.out.out⟩
set_option maxRecDepth 100000 in
set_option maxHeartbeats 2000000 in
theorem contains_a (t : Tp) (x : Int) (w : World) (h : Sm t) (hx : ¬ t.F ≤ x) :
    Calls Try.prog 43 #[.agg #[.int .i64 t.F, .int .i64 t.C, .int .i64 t.A, .int .i64 t.N], .int .i64 x] w fun e w' => e = .returned (.bool false) ∧ Below w.heap.size w w' := by
  have g0 : decide (t.F ≤ x) = false := decide_eq_false hx
  clear hx
  have B0 := Lib.hid ((Bel.refl w).alloc (.cells #[.int .i64 t.F, .int .i64 t.C, .int .i64 t.A, .int .i64 t.N] 52))
  have X0 := Quad.new w (.int .i64 t.F) (.int .i64 t.C) (.int .i64 t.A) (.int .i64 t.N) 52 (w.heap.size) (by simp)
  go_enter Try.func43, Try.ntmps43
  obtain ⟨xf0, xf1, xf2, xf3, xf4, xf5, xf6, xf7, xf8⟩ := id X0
  go_wp2_with fail
  go_ret
  exact ⟨rfl, B0.out.out⟩
set_option maxRecDepth 100000 in
set_option maxHeartbeats 2000000 in
theorem contains_b (t : Tp) (x : Int) (w : World) (h : Sm t) (x0 : t.F ≤ x) (hx : ¬ x < t.F + t.C) :
    Calls Try.prog 43 #[.agg #[.int .i64 t.F, .int .i64 t.C, .int .i64 t.A, .int .i64 t.N], .int .i64 x] w fun e w' => e = .returned (.bool false) ∧ Below w.heap.size w w' := by
  have HS := Lib.hid h
  have g0 : decide (t.F ≤ x) = true := decide_eq_true x0
  have g1 : decide (x < t.F + t.C) = false := decide_eq_false hx
  clear x0 hx
  have B0 := Lib.hid ((Bel.refl w).alloc (.cells #[.int .i64 t.F, .int .i64 t.C, .int .i64 t.A, .int .i64 t.N] 52))
  have X0 := Quad.new w (.int .i64 t.F) (.int .i64 t.C) (.int .i64 t.A) (.int .i64 t.N) 52 (w.heap.size) (by simp)
  go_enter Try.func43, Try.ntmps43
  obtain ⟨xf0, xf1, xf2, xf3, xf4, xf5, xf6, xf7, xf8⟩ := id X0
  go_wp2_with fail
  clear xf0 xf1 xf2 xf3 xf4 xf5 xf6 xf7 xf8
  refine (end_ok t _ HS.out).mono ?_
  rintro e w1 ⟨rfl, hb⟩
  have B1 := Lib.hid (B0.out.up hb)
  have X1 := X0.up hb
  clear hb B0  X0
  obtain ⟨xf0, xf1, xf2, xf3, xf4, xf5, xf6, xf7, xf8⟩ := id X1
  go_wp2_with fail
  go_ret
  exact ⟨rfl, B1.out.out⟩
theorem contains_ok (t : Tp) (x : Int) (w : World) (h : Sm t) : Calls Try.prog 43 #[.agg #[.int .i64 t.F, .int .i64 t.C, .int .i64 t.A, .int .i64 t.N], .int .i64 x] w fun e w' => e = .returned (.bool (decide (t.has x))) ∧ Below w.heap.size w w' := by
  by_cases hx : t.has x
  · rw [decide_eq_true hx]; exact contains_y t x w h hx
  · rw [decide_eq_false hx]
    by_cases h0 : t.F ≤ x
    · exact contains_b t x w h h0 (fun h1 => hx ⟨h0, h1⟩)
    · exact contains_a t x w h h0
set_option maxRecDepth 100000 in
set_option maxHeartbeats 2000000 in
theorem inRange_0 (t : Tp) (ev : Int) (w : World) (e0 : 0 ≤ ev) (e1 : ev ≤ 128) (g0 : ¬ 1 ≤ t.C) :
    Calls Try.prog 47 #[.agg #[.int .i64 t.F, .int .i64 t.C, .int .i64 t.A, .int .i64 t.N], .int .i64 ev] w fun e w' => e = .returned (.bool false) ∧ Below w.heap.size w w' := by
  have q0 : decide (1 ≤ t.C) = false := decide_eq_false g0
  have B0 := Lib.hid ((Bel.refl w).alloc (.cells #[.int .i64 t.F, .int .i64 t.C, .int .i64 t.A, .int .i64 t.N] 52))
  have X0 := Quad.new w (.int .i64 t.F) (.int .i64 t.C) (.int .i64 t.A) (.int .i64 t.N) 52 (w.heap.size) (by simp)
  go_enter Try.func47, Try.ntmps47
  obtain ⟨xf0, xf1, xf2, xf3, xf4, xf5, xf6, xf7, xf8⟩ := id X0
  go_wp2_with fail
  go_ret
  exact ⟨rfl, B0.out.out⟩
set_option maxRecDepth 100000 in
set_option maxHeartbeats 2000000 in
theorem inRange_1 (t : Tp) (ev : Int) (w : World) (e0 : 0 ≤ ev) (e1 : ev ≤ 128) (g0 : 1 ≤ t.C) (g1 : ¬ 0 ≤ t.F) :
    Calls Try.prog 47 #[.agg #[.int .i64 t.F, .int .i64 t.C, .int .i64 t.A, .int .i64 t.N], .int .i64 ev] w fun e w' => e = .returned (.bool false) ∧ Below w.heap.size w w' := by
  have q0 : decide (1 ≤ t.C) = true := decide_eq_true g0
  have q1 : decide (0 ≤ t.F) = false := decide_eq_false g1
  have B0 := Lib.hid ((Bel.refl w).alloc (.cells #[.int .i64 t.F, .int .i64 t.C, .int .i64 t.A, .int .i64 t.N] 52))
  have X0 := Quad.new w (.int .i64 t.F) (.int .i64 t.C) (.int .i64 t.A) (.int .i64 t.N) 52 (w.heap.size) (by simp)
  go_enter Try.func47, Try.ntmps47
  obtain ⟨xf0, xf1, xf2, xf3, xf4, xf5, xf6, xf7, xf8⟩ := id X0
  go_wp2_with fail
  go_ret
  exact ⟨rfl, B0.out.out⟩
set_option maxRecDepth 100000 in
set_option maxHeartbeats 2000000 in
theorem inRange_2 (t : Tp) (ev : Int) (w : World) (e0 : 0 ≤ ev) (e1 : ev ≤ 128) (g0 : 1 ≤ t.C) (g1 : 0 ≤ t.F) (g2 : ¬ t.C ≤ ev) :
    Calls Try.prog 47 #[.agg #[.int .i64 t.F, .int .i64 t.C, .int .i64 t.A, .int .i64 t.N], .int .i64 ev] w fun e w' => e = .returned (.bool false) ∧ Below w.heap.size w w' := by
  have q0 : decide (1 ≤ t.C) = true := decide_eq_true g0
  have q1 : decide (0 ≤ t.F) = true := decide_eq_true g1
  have q2 : decide (t.C ≤ ev) = false := decide_eq_false g2
  have B0 := Lib.hid ((Bel.refl w).alloc (.cells #[.int .i64 t.F, .int .i64 t.C, .int .i64 t.A, .int .i64 t.N] 52))
  have X0 := Quad.new w (.int .i64 t.F) (.int .i64 t.C) (.int .i64 t.A) (.int .i64 t.N) 52 (w.heap.size) (by simp)
  go_enter Try.func47, Try.ntmps47
  obtain ⟨xf0, xf1, xf2, xf3, xf4, xf5, xf6, xf7, xf8⟩ := id X0
  go_wp2_with fail
  go_ret
  exact ⟨rfl, B0.out.out⟩
set_option maxRecDepth 100000 in
set_option maxHeartbeats 2000000 in
theorem inRange_3 (t : Tp) (ev : Int) (w : World) (e0 : 0 ≤ ev) (e1 : ev ≤ 128) (g0 : 1 ≤ t.C) (g1 : 0 ≤ t.F) (g2 : t.C ≤ ev) (g3 : ¬ t.F ≤ ev - t.C) :
    Calls Try.prog 47 #[.agg #[.int .i64 t.F, .int .i64 t.C, .int .i64 t.A, .int .i64 t.N], .int .i64 ev] w fun e w' => e = .returned (.bool false) ∧ Below w.heap.size w w' := by
  have q0 : decide (1 ≤ t.C) = true := decide_eq_true g0
  have q1 : decide (0 ≤ t.F) = true := decide_eq_true g1
  have q2 : decide (t.C ≤ ev) = true := decide_eq_true g2
  have q3 : decide (t.F ≤ ev - t.C) = false := decide_eq_false g3
  have B0 := Lib.hid ((Bel.refl w).alloc (.cells #[.int .i64 t.F, .int .i64 t.C, .int .i64 t.A, .int .i64 t.N] 52))
  have X0 := Quad.new w (.int .i64 t.F) (.int .i64 t.C) (.int .i64 t.A) (.int .i64 t.N) 52 (w.heap.size) (by simp)
  go_enter Try.func47, Try.ntmps47
  obtain ⟨xf0, xf1, xf2, xf3, xf4, xf5, xf6, xf7, xf8⟩ := id X0
  go_wp2_with fail
  go_ret
  exact ⟨rfl, B0.out.out⟩
set_option maxRecDepth 100000 in
set_option maxHeartbeats 2000000 in
theorem inRange_4 (t : Tp) (ev : Int) (w : World) (e0 : 0 ≤ ev) (e1 : ev ≤ 128) (g0 : 1 ≤ t.C) (g1 : 0 ≤ t.F) (g2 : t.C ≤ ev) (g3 : t.F ≤ ev - t.C) (g4 : ¬ 1 ≤ t.A) :
    Calls Try.prog 47 #[.agg #[.int .i64 t.F, .int .i64 t.C, .int .i64 t.A, .int .i64 t.N], .int .i64 ev] w fun e w' => e = .returned (.bool false) ∧ Below w.heap.size w w' := by
  have q0 : decide (1 ≤ t.C) = true := decide_eq_true g0
  have q1 : decide (0 ≤ t.F) = true := decide_eq_true g1
  have q2 : decide (t.C ≤ ev) = true := decide_eq_true g2
  have q3 : decide (t.F ≤ ev - t.C) = true := decide_eq_true g3
  have q4 : decide (1 ≤ t.A) = false := decide_eq_false g4
  have B0 := Lib.hid ((Bel.refl w).alloc (.cells #[.int .i64 t.F, .int .i64 t.C, .int .i64 t.A, .int .i64 t.N] 52))
  have X0 := Quad.new w (.int .i64 t.F) (.int .i64 t.C) (.int .i64 t.A) (.int .i64 t.N) 52 (w.heap.size) (by simp)
  go_enter Try.func47, Try.ntmps47
  obtain ⟨xf0, xf1, xf2, xf3, xf4, xf5, xf6, xf7, xf8⟩ := id X0
  go_wp2_with fail
  go_ret
  exact ⟨rfl, B0.out.out⟩
set_option maxRecDepth 100000 in
set_option maxHeartbeats 2000000 in
theorem inRange_5 (t : Tp) (ev : Int) (w : World) (e0 : 0 ≤ ev) (e1 : ev ≤ 128) (g0 : 1 ≤ t.C) (g1 : 0 ≤ t.F) (g2 : t.C ≤ ev) (g3 : t.F ≤ ev - t.C) (g4 : 1 ≤ t.A) (g5 : ¬ t.A ≤ 32) :
    Calls Try.prog 47 #[.agg #[.int .i64 t.F, .int .i64 t.C, .int .i64 t.A, .int .i64 t.N], .int .i64 ev] w fun e w' => e = .returned (.bool false) ∧ Below w.heap.size w w' := by
  have q0 : decide (1 ≤ t.C) = true := decide_eq_true g0
  have q1 : decide (0 ≤ t.F) = true := decide_eq_true g1
  have q2 : decide (t.C ≤ ev) = true := decide_eq_true g2
  have q3 : decide (t.F ≤ ev - t.C) = true := decide_eq_true g3
  have q4 : decide (1 ≤ t.A) = true := decide_eq_true g4
  have q5 : decide (t.A ≤ 32) = false := decide_eq_false g5
  have B0 := Lib.hid ((Bel.refl w).alloc (.cells #[.int .i64 t.F, .int .i64 t.C, .int .i64 t.A, .int .i64 t.N] 52))
  have X0 := Quad.new w (.int .i64 t.F) (.int .i64 t.C) (.int .i64 t.A) (.int .i64 t.N) 52 (w.heap.size) (by simp)
  go_enter Try.func47, Try.ntmps47
  obtain ⟨xf0, xf1, xf2, xf3, xf4, xf5, xf6, xf7, xf8⟩ := id X0
  go_wp2_with fail
  go_ret
  exact ⟨rfl, B0.out.out⟩
set_option maxRecDepth 100000 in
set_option maxHeartbeats 2000000 in
theorem inRange_6 (t : Tp) (ev : Int) (w : World) (e0 : 0 ≤ ev) (e1 : ev ≤ 128) (g0 : 1 ≤ t.C) (g1 : 0 ≤ t.F) (g2 : t.C ≤ ev) (g3 : t.F ≤ ev - t.C) (g4 : 1 ≤ t.A) (g5 : t.A ≤ 32) (g6 : ¬ 1 ≤ t.N) :
    Calls Try.prog 47 #[.agg #[.int .i64 t.F, .int .i64 t.C, .int .i64 t.A, .int .i64 t.N], .int .i64 ev] w fun e w' => e = .returned (.bool false) ∧ Below w.heap.size w w' := by
  have q0 : decide (1 ≤ t.C) = true := decide_eq_true g0
  have q1 : decide (0 ≤ t.F) = true := decide_eq_true g1
  have q2 : decide (t.C ≤ ev) = true := decide_eq_true g2
  have q3 : decide (t.F ≤ ev - t.C) = true := decide_eq_true g3
  have q4 : decide (1 ≤ t.A) = true := decide_eq_true g4
  have q5 : decide (t.A ≤ 32) = true := decide_eq_true g5
  have q6 : decide (1 ≤ t.N) = false := decide_eq_false g6
  have B0 := Lib.hid ((Bel.refl w).alloc (.cells #[.int .i64 t.F, .int .i64 t.C, .int .i64 t.A, .int .i64 t.N] 52))
  have X0 := Quad.new w (.int .i64 t.F) (.int .i64 t.C) (.int .i64 t.A) (.int .i64 t.N) 52 (w.heap.size) (by simp)
  go_enter Try.func47, Try.ntmps47
  obtain ⟨xf0, xf1, xf2, xf3, xf4, xf5, xf6, xf7, xf8⟩ := id X0
  go_wp2_with fail
  go_ret
  exact ⟨rfl, B0.out.out⟩
set_option maxRecDepth 100000 in
set_option maxHeartbeats 2000000 in
theorem inRange_7 (t : Tp) (ev : Int) (w : World) (e0 : 0 ≤ ev) (e1 : ev ≤ 128) (g0 : 1 ≤ t.C) (g1 : 0 ≤ t.F) (g2 : t.C ≤ ev) (g3 : t.F ≤ ev - t.C) (g4 : 1 ≤ t.A) (g5 : t.A ≤ 32) (g6 : 1 ≤ t.N) (g7 : ¬ t.N ≤ 32) :
    Calls Try.prog 47 #[.agg #[.int .i64 t.F, .int .i64 t.C, .int .i64 t.A, .int .i64 t.N], .int .i64 ev] w fun e w' => e = .returned (.bool false) ∧ Below w.heap.size w w' := by
  have q0 : decide (1 ≤ t.C) = true := decide_eq_true g0
  have q1 : decide (0 ≤ t.F) = true := decide_eq_true g1
  have q2 : decide (t.C ≤ ev) = true := decide_eq_true g2
  have q3 : decide (t.F ≤ ev - t.C) = true := decide_eq_true g3
  have q4 : decide (1 ≤ t.A) = true := decide_eq_true g4
  have q5 : decide (t.A ≤ 32) = true := decide_eq_true g5
  have q6 : decide (1 ≤ t.N) = true := decide_eq_true g6
  have q7 : decide (t.N ≤ 32) = false := decide_eq_false g7
  have B0 := Lib.hid ((Bel.refl w).alloc (.cells #[.int .i64 t.F, .int .i64 t.C, .int .i64 t.A, .int .i64 t.N] 52))
  have X0 := Quad.new w (.int .i64 t.F) (.int .i64 t.C) (.int .i64 t.A) (.int .i64 t.N) 52 (w.heap.size) (by simp)
  go_enter Try.func47, Try.ntmps47
  obtain ⟨xf0, xf1, xf2, xf3, xf4, xf5, xf6, xf7, xf8⟩ := id X0
  go_wp2_with fail
  go_ret
  exact ⟨rfl, B0.out.out⟩
set_option maxRecDepth 100000 in
set_option maxHeartbeats 2000000 in
theorem inRange_8 (t : Tp) (ev : Int) (w : World) (e0 : 0 ≤ ev) (e1 : ev ≤ 128) (g0 : 1 ≤ t.C) (g1 : 0 ≤ t.F) (g2 : t.C ≤ ev) (g3 : t.F ≤ ev - t.C) (g4 : 1 ≤ t.A) (g5 : t.A ≤ 32) (g6 : 1 ≤ t.N) (g7 : t.N ≤ 32) (g8 : t.A = t.N) :
    Calls Try.prog 47 #[.agg #[.int .i64 t.F, .int .i64 t.C, .int .i64 t.A, .int .i64 t.N], .int .i64 ev] w fun e w' => e = .returned (.bool false) ∧ Below w.heap.size w w' := by
  have q0 : decide (1 ≤ t.C) = true := decide_eq_true g0
  have q1 : decide (0 ≤ t.F) = true := decide_eq_true g1
  have q2 : decide (t.C ≤ ev) = true := decide_eq_true g2
  have q3 : decide (t.F ≤ ev - t.C) = true := decide_eq_true g3
  have q4 : decide (1 ≤ t.A) = true := decide_eq_true g4
  have q5 : decide (t.A ≤ 32) = true := decide_eq_true g5
  have q6 : decide (1 ≤ t.N) = true := decide_eq_true g6
  have q7 : decide (t.N ≤ 32) = true := decide_eq_true g7
  have q8 : (t.A != t.N) = false := by simp [g8]
  clear g8
  have B0 := Lib.hid ((Bel.refl w).alloc (.cells #[.int .i64 t.F, .int .i64 t.C, .int .i64 t.A, .int .i64 t.N] 52))
  have X0 := Quad.new w (.int .i64 t.F) (.int .i64 t.C) (.int .i64 t.A) (.int .i64 t.N) 52 (w.heap.size) (by simp)
  go_enter Try.func47, Try.ntmps47
  obtain ⟨xf0, xf1, xf2, xf3, xf4, xf5, xf6, xf7, xf8⟩ := id X0
  go_wp2_with fail
  go_ret
  exact ⟨rfl, B0.out.out⟩
set_option maxRecDepth 100000 in
set_option maxHeartbeats 2000000 in
theorem inRange_9 (t : Tp) (ev : Int) (w : World) (e0 : 0 ≤ ev) (e1 : ev ≤ 128) (g0 : 1 ≤ t.C) (g1 : 0 ≤ t.F) (g2 : t.C ≤ ev) (g3 : t.F ≤ ev - t.C) (g4 : 1 ≤ t.A) (g5 : t.A ≤ 32) (g6 : 1 ≤ t.N) (g7 : t.N ≤ 32) (g8 : t.A ≠ t.N) :
    Calls Try.prog 47 #[.agg #[.int .i64 t.F, .int .i64 t.C, .int .i64 t.A, .int .i64 t.N], .int .i64 ev] w fun e w' => e = .returned (.bool true) ∧ Below w.heap.size w w' := by
  have q0 : decide (1 ≤ t.C) = true := decide_eq_true g0
  have q1 : decide (0 ≤ t.F) = true := decide_eq_true g1
  have q2 : decide (t.C ≤ ev) = true := decide_eq_true g2
  have q3 : decide (t.F ≤ ev - t.C) = true := decide_eq_true g3
  have q4 : decide (1 ≤ t.A) = true := decide_eq_true g4
  have q5 : decide (t.A ≤ 32) = true := decide_eq_true g5
  have q6 : decide (1 ≤ t.N) = true := decide_eq_true g6
  have q7 : decide (t.N ≤ 32) = true := decide_eq_true g7
  have q8 : (t.A != t.N) = true := by simpa using g8
  clear g8
  have B0 := Lib.hid ((Bel.refl w).alloc (.cells #[.int .i64 t.F, .int .i64 t.C, .int .i64 t.A, .int .i64 t.N] 52))
  have X0 := Quad.new w (.int .i64 t.F) (.int .i64 t.C) (.int .i64 t.A) (.int .i64 t.N) 52 (w.heap.size) (by simp)
  go_enter Try.func47, Try.ntmps47
  obtain ⟨xf0, xf1, xf2, xf3, xf4, xf5, xf6, xf7, xf8⟩ := id X0
  go_wp2_with fail
  go_ret
  exact ⟨rfl, B0.out.out⟩
theorem inRange_ok (t : Tp) (ev : Int) (w : World) (e0 : 0 ≤ ev) (e1 : ev ≤ 128) : Calls Try.prog 47 #[.agg #[.int .i64 t.F, .int .i64 t.C, .int .i64 t.A, .int .i64 t.N], .int .i64 ev] w fun e w' => e = .returned (.bool (decide (t.inR ev))) ∧ Below w.heap.size w w' := by
  by_cases g0 : 1 ≤ t.C
  case neg => rw [show decide (t.inR ev) = false from decide_eq_false (by unfold Tp.inR; omega)]; exact inRange_0 t ev w e0 e1 g0
  case pos =>
    by_cases g1 : 0 ≤ t.F
    case neg => rw [show decide (t.inR ev) = false from decide_eq_false (by unfold Tp.inR; omega)]; exact inRange_1 t ev w e0 e1 g0 g1
    case pos =>
      by_cases g2 : t.C ≤ ev
      case neg => rw [show decide (t.inR ev) = false from decide_eq_false (by unfold Tp.inR; omega)]; exact inRange_2 t ev w e0 e1 g0 g1 g2
      case pos =>
        by_cases g3 : t.F ≤ ev - t.C
        case neg => rw [show decide (t.inR ev) = false from decide_eq_false (by unfold Tp.inR; omega)]; exact inRange_3 t ev w e0 e1 g0 g1 g2 g3
        case pos =>
          by_cases g4 : 1 ≤ t.A
          case neg => rw [show decide (t.inR ev) = false from decide_eq_false (by unfold Tp.inR; omega)]; exact inRange_4 t ev w e0 e1 g0 g1 g2 g3 g4
          case pos =>
            by_cases g5 : t.A ≤ 32
            case neg => rw [show decide (t.inR ev) = false from decide_eq_false (by unfold Tp.inR; omega)]; exact inRange_5 t ev w e0 e1 g0 g1 g2 g3 g4 g5
            case pos =>
              by_cases g6 : 1 ≤ t.N
              case neg => rw [show decide (t.inR ev) = false from decide_eq_false (by unfold Tp.inR; omega)]; exact inRange_6 t ev w e0 e1 g0 g1 g2 g3 g4 g5 g6
              case pos =>
                by_cases g7 : t.N ≤ 32
                case neg => rw [show decide (t.inR ev) = false from decide_eq_false (by unfold Tp.inR; omega)]; exact inRange_7 t ev w e0 e1 g0 g1 g2 g3 g4 g5 g6 g7
                case pos =>
                  by_cases g8 : t.A = t.N
                  case pos => rw [show decide (t.inR ev) = false from decide_eq_false (by unfold Tp.inR; omega)]; exact inRange_8 t ev w e0 e1 g0 g1 g2 g3 g4 g5 g6 g7 g8
                  case neg => rw [show decide (t.inR ev) = true from decide_eq_true (by unfold Tp.inR; omega)]; exact inRange_9 t ev w e0 e1 g0 g1 g2 g3 g4 g5 g6 g7 g8
end Go.Proofs.Ytidggmfgbcmklaa
