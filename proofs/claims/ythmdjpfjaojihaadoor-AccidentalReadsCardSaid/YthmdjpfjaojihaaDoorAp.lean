/- Accidentals: law Before. -/
import Derived.Test.YthmdjpfjaojihaaDoorAo
namespace Go.Proofs.YthmdjpfjaojihaaDoor
open Go.RowKit
set_option linter.unusedVariables false
set_option linter.unusedSimpArgs false

theorem errL_take (L : List Nt) : ∀ (last : Int) (n : Nat), errL last L = 0 → errL last (L.take n) = 0 := by
  induction L with
  | nil => intro last n h; simpa using h
  | cons m L ih =>
    intro last n h
    cases n with
    | zero => rfl
    | succ n =>
      rw [List.take_succ_cons]
      unfold errL at h ⊢
      by_cases h0 : errN last m = 0
      · rw [if_pos h0] at h ⊢
        exact ih _ _ h
      · rw [if_neg h0] at h
        exact absurd h h0
theorem NtAt.take {w : World} {ad : Option Addr} {L : List Nt} (h : NtAt w ad L) (n : Nat) : NtAt w ad (L.take n) := fun k m hm => by
  rw [List.getElem?_take] at hm
  split at hm
  · exact h k m hm
  · cases hm
/-- where the notes before a tick end -/
structure Cut (L : List Nt) (z : Int) (n : Nat) : Prop where
  le : n ≤ L.length
  low : ∀ j m, j < n → L[j]? = some m → m.t < z
  high : ∀ j m, n ≤ j → L[j]? = some m → z ≤ m.t
theorem take_at {L : List Nt} {n k : Nat} (hk : k < n) : (L.take n)[k]? = L[k]? := by rw [List.getElem?_take, if_pos hk]
theorem conB_take {L : List Nt} {z : Int} {n k : Nat} (h : Cut L z n) (hk : k < n) : conB (L.take n) k = conB L k := by
  refine Bool.eq_iff_iff.2 ?_
  rw [conB_iff, conB_iff]
  constructor
  · rintro ⟨q, m, x, h1, h2, h3⟩
    rw [take_at hk] at h1
    rw [List.getElem?_take] at h2
    split at h2
    · exact ⟨q, m, x, h1, h2, h3⟩
    · cases h2
  · rintro ⟨q, m, x, h1, h2, h3⟩
    have hq : q < n := by
      rcases Nat.lt_or_ge q n with h4 | h4
      · exact h4
      · have h5 := h.low k m hk h1
        have h6 := h.high q x h4 h2
        have h7 := h3.1
        omega
    exact ⟨q, m, x, by rw [take_at hk]; exact h1, by rw [take_at hq]; exact h2, h3⟩
theorem disF_take {L : List Nt} {z f : Int} {n : Nat} (h : Cut L z n) : ∀ k, k ≤ n → disF (L.take n) f k = disF L f k
  | 0, _ => rfl
  | k + 1, hk => by
    show (match (L.take n)[k]? with | none => disF (L.take n) f k | some m => markF (conB (L.take n) k) (disF (L.take n) f k) m) = (match L[k]? with | none => disF L f k | some m => markF (conB L k) (disF L f k) m)
    rw [take_at (by omega), disF_take h k (by omega), conB_take h (by omega)]
theorem disM_take {L : List Nt} {z f : Int} {n k : Nat} (h : Cut L z n) (hk : k < n) : disM (L.take n) f k = disM L f k := by
  unfold disM
  rw [take_at hk, disF_take h k (by omega), conB_take h hk]
end Go.Proofs.YthmdjpfjaojihaaDoor
