/- The contracts of the methods, said of denominators. -/
import Derived.Test.YtknojlccfjdpeaaDoorRo
namespace Go.Proofs.YtknojlccfjdpeaaDoor
open Go.RowKit
set_option linter.unusedVariables false
set_option linter.unusedSimpArgs false

set_option maxHeartbeats 400000 in
theorem add_D (a D c E : Int) (w : World) (h1 : Rat1.Low a D) (h2 : Rat1.Low c E) :
    Calls Tryd.prog 28 #[.agg #[.int .i64 a, .int .i64 (D - 1)], .agg #[.int .i64 c, .int .i64 (E - 1)]] w fun e w' => e = .returned (.tuple #[.agg #[.int .i64 (Rat1.ofN (a * E + c * D) (D * E)), .int .i64 (Rat1.ofD (a * E + c * D) (D * E) - 1)], .int .i64 (Rat1.ofE (a * E + c * D) (D * E))]) ∧ Below w.heap.size w w' := by
  have p1 := h1.pos
  have l1 := h1.le
  have m1 := h1.num
  unfold Rat1.mx at l1 m1
  have p2 := h2.pos
  have l2 := h2.le
  have m2 := h2.num
  unfold Rat1.mx at l2 m2
  have h := add_any a (D - 1) c (E - 1) w (by omega) (by omega) (by omega) (by omega) (by omega) (by omega) (by omega) (by omega)
  simp only [Int.sub_add_cancel] at h
  exact h

set_option maxHeartbeats 400000 in
theorem cmp_D (a D c E : Int) (w : World) (h1 : Rat1.Low a D) (h2 : Rat1.Low c E) :
    Calls Tryd.prog 47 #[.agg #[.int .i64 a, .int .i64 (D - 1)], .agg #[.int .i64 c, .int .i64 (E - 1)]] w fun e w' => e = .returned (.int .i64 (cmpI (a * E) (c * D))) ∧ Below w.heap.size w w' := by
  have p1 := h1.pos
  have l1 := h1.le
  have m1 := h1.num
  unfold Rat1.mx at l1 m1
  have p2 := h2.pos
  have l2 := h2.le
  have m2 := h2.num
  unfold Rat1.mx at l2 m2
  have h := cmp_any a (D - 1) c (E - 1) w (by omega) (by omega) (by omega) (by omega) (by omega) (by omega) (by omega) (by omega)
  simp only [Int.sub_add_cancel] at h
  exact h

set_option maxHeartbeats 400000 in
theorem floor_D (a D : Int) (w : World) (h1 : Rat1.Low a D) :
    Calls Tryd.prog 22 #[.agg #[.int .i64 a, .int .i64 (D - 1)]] w fun e w' => e = .returned (.int .i64 (a / D)) ∧ Below w.heap.size w w' := by
  have p1 := h1.pos
  have l1 := h1.le
  have m1 := h1.num
  unfold Rat1.mx at l1 m1
  have h := Floor_any a (D - 1) w (by omega) (by omega) (by omega) (by omega)
  simp only [Int.sub_add_cancel] at h
  exact h

set_option maxHeartbeats 400000 in
theorem ceil_D (a D : Int) (w : World) (h1 : Rat1.Low a D) :
    Calls Tryd.prog 23 #[.agg #[.int .i64 a, .int .i64 (D - 1)]] w fun e w' => e = .returned (.int .i64 (-(-a / D))) ∧ Below w.heap.size w w' := by
  have p1 := h1.pos
  have l1 := h1.le
  have m1 := h1.num
  unfold Rat1.mx at l1 m1
  have h := Ceil_any a (D - 1) w (by omega) (by omega) (by omega) (by omega)
  simp only [Int.sub_add_cancel] at h
  exact h

set_option maxHeartbeats 400000 in
theorem round_D (a D : Int) (w : World) (h1 : Rat1.Low a D) :
    Calls Tryd.prog 24 #[.agg #[.int .i64 a, .int .i64 (D - 1)]] w fun e w' => e = .returned (.int .i64 ((2 * a + D) / (2 * D))) ∧ Below w.heap.size w w' := by
  have p1 := h1.pos
  have l1 := h1.le
  have m1 := h1.num
  unfold Rat1.mx at l1 m1
  have h := Round_any a (D - 1) w (by omega) (by omega) (by omega) (by omega)
  simp only [Int.sub_add_cancel] at h
  exact h

set_option maxHeartbeats 400000 in
theorem addR_D (a D c E : Int) (w : World) (h1 : Rat1.Low a D) (h2 : Rat1.Low c E) :
    Calls Tryd.prog 13 #[.agg #[.int .i64 a, .int .i64 D], .agg #[.int .i64 c, .int .i64 E]] w fun e w' => e = .returned (.tuple #[.agg #[.int .i64 (Rat1.ofN (a * E + c * D) (D * E)), .int .i64 (Rat1.ofD (a * E + c * D) (D * E))], .int .i64 (Rat1.ofE (a * E + c * D) (D * E))]) ∧ Below w.heap.size w w' := by
  have p1 := h1.pos
  have l1 := h1.le
  have m1 := h1.num
  unfold Rat1.mx at l1 m1
  have p2 := h2.pos
  have l2 := h2.le
  have m2 := h2.num
  unfold Rat1.mx at l2 m2
  exact addRef_any a D c E w (by omega) (by omega) (by omega) (by omega) (by omega) (by omega) (by omega) (by omega)

theorem Rat1.Low.neg {a D : Int} (h : Rat1.Low a D) : Rat1.Low (-a) D := ⟨h.pos, h.le, by rw [Int.natAbs_neg]; exact h.num, by rw [Int.natAbs_neg]; exact h.cop⟩
theorem Rat1.Low.zero {D : Int} (h : Rat1.Low 0 D) : D = 1 := by
  have := h.cop
  have := h.pos
  simp at *
  omega
set_option maxHeartbeats 400000 in
theorem same_okD (a D : Int) (w : World) (h1 : Rat1.Low a D) :
    Calls Tryd.prog 12 #[.agg #[.int .i64 a, .int .i64 (D - 1)], .int .i64 0, .agg #[.int .i64 a, .int .i64 D], .int .i64 0] w fun e w' => e = .returned (.bool true) ∧ Below w.heap.size w w' := by
  have p1 := h1.pos
  have l1 := h1.le
  have m1 := h1.num
  unfold Rat1.mx at l1 m1
  have h := same_ok a (D - 1) w (by omega) (by omega)
  rw [Int.sub_add_cancel] at h
  exact h

end Go.Proofs.YtknojlccfjdpeaaDoor
