/- A region whose last operations come one behind the other, by a list of their numbers. -/
import Derived.Test.YtabafabebodojaaDoorQt
namespace Go.Proofs.YtabafabebodojaaDoor
open Go.RowKit
set_option linter.unusedVariables false
set_option linter.unusedSimpArgs false

namespace Qt
/-- the operations that are left come one behind the other, in the order of a list of their numbers -/
def seqL (ops : Array Oper) : List Nat → Array Bool → Bool
  | [], listed => (Region.ready .any ops listed).isEmpty
  | k :: ks, listed => decide (Region.ready .any ops listed = [k]) && seqL ops ks (listed.setIfInBounds k true)
theorem listTail {P : Program} {ops : Array Oper} {Q : Exit → Act → World → Prop} : ∀ (l : List (Nat × Oper)) (listed : Array Bool) (a : Act) (w : World), (∀ p, p ∈ l → ops[p.1]? = some p.2) →
    seqL ops (l.map (·.1)) listed = true → wpList P ops Q (l.map (·.2)) a w → wpAny P .any ops Q l.length listed a w
  | [], _, _, _, _, hB, h => ⟨by simpa [seqL] using hB, h⟩
  | p :: l, listed, a, w, hl, hB, h => by
    obtain ⟨k, o⟩ := p
    have h0 : ops[k]? = some o := hl (k, o) (List.mem_cons_self ..)
    simp only [List.map_cons, seqL, Bool.and_eq_true, decide_eq_true_eq] at hB
    refine ⟨fun h1 => (by rw [hB.1] at h1; cases h1), fun i hi => ?_⟩
    rw [hB.1] at hi
    have hik : i = k := by simpa using hi
    subst hik
    have hw : wpOp P ops Q i (wpList P ops Q (l.map (·.2))) a w := by unfold wpOp; simp only [h0]; exact h
    exact wpOp_mono (fun a' w' h' => listTail l _ a' w' (fun p hp => hl p (List.mem_cons_of_mem _ hp)) hB.2 h') hw
end Qt
end Go.Proofs.YtabafabebodojaaDoor
