/- Durations: rows of values. -/
import Derived.Test.YtoobfcekgfgipaaDoorDl
import Derived.Test.YtoobfcekgfgipaaDoorDv
import Derived.Test.YtoobfcekgfgipaaDoorQu
import Derived.OwnWalk
import Derived.ArgAppend
namespace Go.Proofs.YtoobfcekgfgipaaDoor
open Go.RowKit
set_option linter.unusedVariables false
set_option linter.unusedSimpArgs false

namespace Qt
theorem lineTail {P : Program} {Q : Exit → Act → World → Prop} {l : List Oper} {k n : Nat} {listed : Array Bool} {a : Act} {w : World} (hn : n = (l.drop k).length) (hk : Region.seqB .any l.toArray n k listed = true) (h : wpList P l.toArray Q (l.drop k) a w) : wpAny P .any l.toArray Q n listed a w := by
  subst hn
  exact wpAny_of_seq (l.drop k) k listed a w (fun j => by simp [List.getElem?_drop]) hk h
end Qt
/-- the cells of a list of values -/
def pC (x : Int × Int) : List Value := [.int .i64 x.1, .int .i64 x.2]
def flatV (M : List (Int × Int)) : List Value := M.flatMap pC
theorem flatV_len (M : List (Int × Int)) : (flatV M).length = M.length * 2 := by
  induction M with
  | nil => rfl
  | cons x M ih => rw [show flatV (x :: M) = pC x ++ flatV M from rfl, List.length_append, ih]; simp [pC]; omega
theorem flatV_snoc (M : List (Int × Int)) (x : Int × Int) : flatV (M ++ [x]) = flatV M ++ pC x := by simp [flatV]
theorem flatV_at (M : List (Int × Int)) : ∀ (k : Nat) (x : Int × Int), M[k]? = some x → (flatV M)[k * 2]? = some (.int .i64 x.1) ∧ (flatV M)[k * 2 + 1]? = some (.int .i64 x.2) := by
  induction M with
  | nil => intro k x h; simp at h
  | cons y M ih =>
    intro k x h
    rw [show flatV (y :: M) = .int .i64 y.1 :: .int .i64 y.2 :: flatV M from rfl]
    cases k with
    | zero => simp at h; subst h; simp
    | succ k =>
      have := ih k x (by simpa using h)
      rw [show (k + 1) * 2 = k * 2 + 2 by omega]
      exact ⟨by simpa using this.1, by simpa using this.2⟩
theorem flatV_of (M : List (Int × Int)) : ∀ (j : Nat) (u : Value), (flatV M)[j]? = some u → ∃ k x, M[k]? = some x ∧ (j = k * 2 ∧ u = .int .i64 x.1 ∨ j = k * 2 + 1 ∧ u = .int .i64 x.2) := by
  induction M with
  | nil => intro j u h; simp [flatV] at h
  | cons y M ih =>
    intro j u h
    rw [show flatV (y :: M) = .int .i64 y.1 :: .int .i64 y.2 :: flatV M from rfl] at h
    match j, h with
    | 0, h => simp at h; exact ⟨0, y, rfl, .inl ⟨rfl, h.symm⟩⟩
    | 1, h => simp at h; exact ⟨0, y, rfl, .inr ⟨rfl, h.symm⟩⟩
    | j + 2, h =>
      obtain ⟨k, x, hk, hx⟩ := ih j u (by simpa using h)
      rcases hx with ⟨rfl, hu⟩ | ⟨rfl, hu⟩
      · exact ⟨k + 1, x, by simpa using hk, .inl ⟨by omega, hu⟩⟩
      · exact ⟨k + 1, x, by simpa using hk, .inr ⟨by omega, hu⟩⟩
theorem VsAt.cells {w : World} {b off : Nat} {M : List (Int × Int)} (h : VsAt w (some ⟨b, off, none⟩) M) : ∀ j u, (flatV M)[j]? = some u → w.cell? ⟨b, off + j, none⟩ = some u := fun j u hj => by
  obtain ⟨k, x, hk, ⟨rfl, rfl⟩ | ⟨rfl, rfl⟩⟩ := flatV_of M j u hj
  · obtain ⟨b', off', e, c0, c1⟩ := h k x hk
    cases e
    exact c0
  · obtain ⟨b', off', e, c0, c1⟩ := h k x hk
    cases e
    exact c1
theorem VsAt.own {wr : World} {base : Nat} {v : Value} {M : List (Int × Int)} {n : Nat} (hn : n = M.length) (h : wr.ownsRow base 23 2 v n (flatV M)) : ∃ ad cap, v = .slice ad M.length cap ∧ VsAt wr ad M ∧ M.length ≤ cap := by
  subst hn
  obtain ⟨hl, hr⟩ := h
  rcases hr with ⟨rfl, h0⟩ | ⟨g, cap, cur, rfl, hg, hc, hn, _, hs, ht⟩
  · have : M = [] := List.length_eq_zero_iff.1 h0
    subst this
    exact ⟨none, 0, rfl, fun k n hn => by simp at hn, by simp⟩
  · refine ⟨_, cap, rfl, fun k x hk => ⟨g, 0, rfl, ?_⟩, by omega⟩
    have hx := flatV_at M k x hk
    rw [← ht] at hx
    have rd : ∀ (j : Nat) (u : Value), (cur.toList.take (M.length * 2))[j]? = some u → wr.cell? ⟨g, j, none⟩ = some u := fun j u hj => by
      rw [List.getElem?_take] at hj
      split at hj
      · simp at hj
        simp [World.cell?, hc, hj]
      · cases hj
    rw [Nat.zero_add]
    exact ⟨rd _ _ hx.1, rd _ _ hx.2⟩
theorem okT_or (M : List (Int × Int)) : ∀ k : Nat, k ≤ M.length → okT M k ∨ ∃ m z, M[m]? = some z ∧ ¬ Va z.1 z.2 ∧ okT M m := by
  intro k
  induction k with
  | zero => intro _; exact .inl (fun j x hj => by omega)
  | succ k ih =>
    intro hk
    rcases ih (by omega) with h | h
    · obtain ⟨x, hx⟩ : ∃ x, M[k]? = some x := ⟨_, List.getElem?_eq_getElem (by omega)⟩
      by_cases hv : Va x.1 x.2
      · exact .inl (okT_succ h hx hv)
      · exact .inr ⟨k, x, hx, hv, h⟩
    · exact .inr h
end Go.Proofs.YtoobfcekgfgipaaDoor
