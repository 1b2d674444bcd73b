/- Spans: no error at all. -/
import Derived.Test.YtabafabebodojaaDoorSa
namespace Go.Proofs.YtabafabebodojaaDoor
open Go
set_option linter.unusedVariables false
set_option linter.unusedSimpArgs false

theorem er_all {f : Nat → Sp} {n : Nat} {r1 : Int} (h : fst f n 0 = (r1, 0)) : ∀ k, k < n → er f k = 0 := by
  rcases first_bad f n with hg | ⟨j, hj, hg, hb⟩
  · exact hg
  · rw [fst_bad (j := j) n 0 (by omega) (by omega) (fun t _ ht => hg t ht) hb] at h
    exact absurd (congrArg Prod.snd h) hb
end Go.Proofs.YtabafabebodojaaDoor
