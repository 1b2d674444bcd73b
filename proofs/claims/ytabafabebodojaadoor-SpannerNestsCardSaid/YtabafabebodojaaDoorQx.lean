/- A region whose order is left open, its stores told by the operations that yield what they store. -/
import Derived.Test.YtabafabebodojaaDoorQf
namespace Go.Proofs.YtabafabebodojaaDoor.Qx
open Go Go.RowKit Go.Proofs.YtabafabebodojaaDoor.Qf
set_option linter.unusedVariables false
set_option linter.unusedSimpArgs false
section
/-- .. and what a store stores told by the operation that yields it -/
theorem freshW {P : Program} {id : Nat} {Q : Exit → Act → World → Prop} {a0 : Act} {w : World} {l : List Oper} (n m : Nat) (vs : List Value) (fr : List Fresh) (hm : P.follows .mixedOrders = true) (hB : formB l n m = true) (hfr : fr.length = m)
    (hsz : (List.range (n + m)).all (fun i => match (l[i]?).bind (·.dst) with | some t => decide (t < a0.tmps.size) | none => true) = true)
    (hwalk : ∀ (T : Type) (f : T → World), Fam w T f → Nonempty T → wpQuiet P l.toArray (fun w' => ∃ t, w' = f t) (fun b => b = putAll (l.take n) vs a0) (l.take n) a0)
    (hal : ∀ k x, fr[k]? = some x → ∀ o, l[n + k]? = some o → o.dst = some x.1 ∧ ∀ (a : Act) (w : World), ∃ (zs : List Value) (T : TypeId), zs.length = x.2.length ∧ (execOp a.eval o).run P w = .ok (.value (.pointer (some ⟨w.heap.size, 0, none⟩))) (w.alloc (.cells zs.toArray T)))
    (hst : ∀ k x, fr[k]? = some x → ∀ o, l[n + m + k]? = some o → ∀ (a : Act) (w : World) (b : Nat), slot a x.1 = .pointer (some ⟨b, 0, none⟩) → (∀ j p v t, j < n → l[j]? = some p → vs[j]? = some v → p.dst = some t → t ∈ o.looksAt l.toArray → t ≠ x.1 → slot a t = v) → w.there b 0 x.2.length →
      (execOp a.eval o).run P w = .ok .skip (w.setCells b 0 x.2))
    (fin : ∀ (B : Nat → Nat) (w' : World), Below w.heap.size w w' → (∀ k x, fr[k]? = some x → w.heap.size ≤ B k ∧ B k < w'.heap.size ∧ w'.rangeAt (B k) 0 x.2 ∧ w'.there (B k) 0 x.2.length) → (∀ k k', k < m → k' < m → k ≠ k' → B k ≠ B k') → Q .normal (putFr fr B 0 (putAll (l.take n) vs a0)) w') :
    (Code.region id l.toArray true).wp P Q a0 w := by
  have F := form_of hB
  have hlen := F.len
  have once : Once (l.take n) := by
    refine List.pairwise_iff_getElem.2 fun i j hi hj hij t h1 h2 => ?_
    simp only [List.length_take] at hi hj
    simp only [List.getElem_take] at h1 h2
    have := F.once i j _ _ t (by omega) (by omega) (List.getElem?_eq_getElem (by omega)) (List.getElem?_eq_getElem (by omega)) h1 h2
    omega
  refine freshV n m vs fr hm hB hfr hsz hwalk hal (fun k x hx o ho a u b hc hl ht => hst k x hx o ho a u b hc (fun j p v t hj hp hv hd hin hne => ?_) ht) fin
  rw [hl t hin hne]
  refine putAll_at _ _ _ j p v t once (by rw [List.getElem?_take]; simp [hj, hp]) hv hd ?_
  have := List.all_eq_true.1 hsz j (by simp; omega)
  simp only [hp, Option.bind_some, hd] at this
  simpa using this
end
end Go.Proofs.YtabafabebodojaaDoor.Qx
