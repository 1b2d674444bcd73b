/- The walks of the laws: Of. -/
import Derived.Test.YtknojlccfjdpeaaDoorRl
namespace Go.Proofs.YtknojlccfjdpeaaDoor
open Go.RowKit
set_option linter.unusedVariables false
set_option linter.unusedSimpArgs false

theorem Rat1.of_cases (n d : Int) : (Rat1.ofE n d = 0 ∧ Rat1.Low (Rat1.ofN n d) (Rat1.ofD n d)) ∨ (Rat1.ofE n d ≠ 0 ∧ Rat1.ofN n d = 0 ∧ Rat1.ofD n d = 1) := by
  by_cases h : Rat1.ofE n d = 0
  · refine .inl ⟨h, (Rat1.ofQ_low (n := n) (d := d) ?_).1⟩
    unfold Rat1.ofE at h
    rw [show Rat1.ofN n d = (Rat1.ofQ n d).1 from rfl, show Rat1.ofD n d = (Rat1.ofQ n d).2.1 from rfl, ← h]
  · refine .inr ⟨h, ?_⟩
    unfold Rat1.ofE Rat1.ofQ at h
    unfold Rat1.ofN Rat1.ofD Rat1.ofQ
    split
    · simp
    · split
      · simp
      · rename_i h1 h2
        rw [if_neg h1, if_neg h2] at h
        simp at h
set_option maxHeartbeats 400000 in
theorem same_pair (n d : Int) (w : World)  :
    Calls Tryd.prog 12 #[.agg #[.int .i64 (Rat1.ofN n d), .int .i64 (Rat1.ofD n d - 1)], .int .i64 (Rat1.ofE n d), .agg #[.int .i64 (Rat1.ofN n d), .int .i64 (Rat1.ofD n d)], .int .i64 (Rat1.ofE n d)] w fun e w' => e = .returned (.bool true) ∧ Below w.heap.size w w' := by
  rcases Rat1.of_cases n d with ⟨h1, h2⟩ | ⟨h1, h2, h3⟩
  · have p := h2.pos
    have l := h2.le
    unfold Rat1.mx at l
    have h := same_ok (Rat1.ofN n d) (Rat1.ofD n d - 1) w (by omega) (by omega)
    rw [Int.sub_add_cancel] at h
    rw [h1]
    exact h
  · rw [h2, h3]
    exact same_err (Rat1.ofE n d) (Rat1.ofE n d) 0 1 w (by simpa using h1) rfl

end Go.Proofs.YtknojlccfjdpeaaDoor
