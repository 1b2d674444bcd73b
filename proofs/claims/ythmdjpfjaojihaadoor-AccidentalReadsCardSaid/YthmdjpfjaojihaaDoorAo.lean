/- Accidentals: law Shows. -/
import Derived.Test.YthmdjpfjaojihaaDoorAn
namespace Go.Proofs.YthmdjpfjaojihaaDoor
open Go.RowKit
set_option linter.unusedVariables false
set_option linter.unusedSimpArgs false

theorem disM_cases {L : List Nt} {f : Int} {k : Nat} {n : Nt} (h : L[k]? = some n) (hv : 0 ≤ n.v ∧ n.v ≤ 2) : disM L f k = (0, false) ∧ n.v = 0 ∨ (disM L f k).1 = n.a + 3 ∧ ((disM L f k).2 = true ∧ n.v = 2 ∨ (disM L f k).2 = false) := by
  rw [disM_at h]
  generalize conB L k = c
  generalize disF L f k = fr
  unfold markM
  generalize needB c fr n = nd
  by_cases h1 : (nd || decide (n.v ≠ 0)) = true
  · rw [if_pos h1]
    refine .inr ⟨rfl, ?_⟩
    by_cases h2 : n.v = 2
    · cases nd
      · exact .inl ⟨by simp [h2], h2⟩
      · exact .inr (by simp)
    · exact .inr (by simp [h2])
  · rw [if_neg h1]
    simp at h1
    exact .inl ⟨rfl, h1.2⟩
end Go.Proofs.YthmdjpfjaojihaaDoor
