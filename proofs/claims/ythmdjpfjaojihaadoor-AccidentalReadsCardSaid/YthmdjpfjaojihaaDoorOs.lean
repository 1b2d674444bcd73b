/- An argument that is a slice of notes. -/
import Derived.Test.YthmdjpfjaojihaaDoorAd
import Derived.ProofKit
import Derived.OpenShut
import Derived.Lib.SmallJoins
import Derived.Deep.Strs
namespace Go.Proofs.YthmdjpfjaojihaaDoor
open Go.RowKit
set_option linter.unusedVariables false
set_option linter.unusedSimpArgs false

section
open Go.ChangeShapes Go.WideShapes Go.ChangeAt Go.RowKit Go.Joins Go.Deep
variable {H : Type} {enc : TypeId × Value → H} {P : Program} {w : World} {base : Nat} {spare : Nat → Bool} {held : Bool}
/-- an argument that is a slice: its elements, each of them with its cells -/
theorem open_rows {r : Reach} {b0 c : Nat} {t e : TypeId} {v : Value} {d : DataW H} {p : List MemPlace} (ht : P.underlying t = some (.slice e)) (hce : P.cellsOf e = c) (hc0 : 0 < c)
    (hv : Value.okWide P w r b0 t v) (h : DataW.Trod enc P w base spare held t v d p) :
    (∃ ao cap, v = .slice ao 0 cap ∧ cap ≤ maxLen) ∨ ∃ (b off len cap : Nat), v = .slice (some ⟨b, off, none⟩) len cap ∧ 0 < len ∧ len ≤ cap ∧ cap ≤ maxLen ∧
      ∀ k, k < len → ∃ (cs : List Value) (n : Nat) (y : DataW H × List MemPlace), cs.length = c ∧ DataW.trod enc P w base spare held n e cs = some y ∧ ∀ j (x : Value), cs[j]? = some x → w.cell? ⟨b, off + k * c + j, none⟩ = some x := by
  obtain ⟨a0, l0, c0, rfl⟩ := okWide_slice ht hv
  obtain ⟨fuel, hf0⟩ := h
  rcases open_slice ht hf0 with ⟨hcs, hx⟩ | ⟨a, len, cap, m, n, D, Pl, hcs, hb, hl, hm, hmm, hx, hi⟩
  · simp [Value.cells] at hcs
    obtain ⟨rfl, rfl, rfl⟩ := hcs
    exact .inl ⟨_, _, rfl, by simp [maxLen]⟩
  · simp [Value.cells] at hcs
    obtain ⟨rfl, rfl, rfl⟩ := hcs
    by_cases h0 : l0 = 0
    · subst h0; exact .inl ⟨_, _, rfl, hm⟩
    · right
      have hlm : l0 ≤ m := by rw [hmm]; split <;> omega
      have each : ∀ i, i < l0 → ∃ (cs : List Value) (y : DataW H × List MemPlace), cs.length = c ∧ DataW.trod enc P w base spare held n e cs = some y ∧ ∀ j (x : Value), cs[j]? = some x → w.cell? ((a.add (i * c)).add j) = some x := by
        intro i hil
        obtain ⟨cs', hc, ht'⟩ := hi i (by omega)
        rw [hce] at hc
        obtain ⟨_, hcl, hat⟩ := World.cells?_some hc
        refine ⟨cs', _, hcl, ht', fun j x hx => ?_⟩
        have hj := (List.getElem?_eq_some_iff.1 hx).1
        have := hat j (by omega)
        rw [hx] at this
        exact this
      obtain ⟨b, off, spot⟩ := a
      have hspot : spot = none := by
        obtain ⟨cs, y, hcl, _, hat⟩ := each 0 (by omega)
        obtain ⟨x, hx⟩ : ∃ x, cs[0]? = some x := ⟨_, List.getElem?_eq_getElem (by omega)⟩
        have := hat 0 x hx
        simpa [Addr.add] using World.cell?_spot this
      subst hspot
      refine ⟨b, off, l0, c0, rfl, by omega, hl, hm, fun k hk => ?_⟩
      obtain ⟨cs, y, hcl, htr, hat⟩ := each k hk
      refine ⟨cs, n, y, hcl, htr, fun j x hx => ?_⟩
      have := hat j x hx
      rw [add_add, add_plain, ← Nat.add_assoc] at this
      exact this
end
theorem list_of {α : Type} {P : Nat → α → Prop} : ∀ n : Nat, (∀ k, k < n → ∃ x, P k x) → ∃ L : List α, L.length = n ∧ ∀ (k : Nat) (x : α), L[k]? = some x → P k x
  | 0, _ => ⟨[], rfl, fun k x h => by simp at h⟩
  | n + 1, h => by
    obtain ⟨L, hl, hL⟩ := list_of n (fun k hk => h k (by omega))
    obtain ⟨x, hx⟩ := h n (by omega)
    refine ⟨L ++ [x], by simp [hl], fun k y hy => ?_⟩
    rw [List.getElem?_append] at hy
    split at hy
    · exact hL k y hy
    · have hk : k = n := by
        have := (List.getElem?_eq_some_iff.1 hy).1
        simp at this
        omega
      subst hk
      rw [hl] at hy
      simp at hy
      subst hy
      exact hx
section
open Go.ChangeShapes Go.WideShapes Go.ChangeAt Go.RowKit Go.Joins Go.Deep
variable {H : Type} {enc : TypeId × Value → H} {w : World} {base : Nat} {spare : Nat → Bool} {held : Bool}
theorem open_nts {r : Reach} {b0 : Nat} {v : Value} {d : DataW H} {p : List MemPlace}
    (hv : Value.okWide Tryd.prog w r b0 22 v) (h : DataW.Trod enc Tryd.prog w base spare held 22 v d p) :
    ∃ (ad : Option Addr) (L : List Nt) (cap : Nat), v = .slice ad L.length cap ∧ L.length ≤ cap ∧ cap ≤ maxLen ∧ NtAt w ad L := by
  rcases open_rows Tryd.underlying22 (show Tryd.prog.cellsOf 54 = 6 by kernel_rfl) (by omega) hv h with ⟨ao, cap, rfl, hm⟩ | ⟨b, off, len, cap, rfl, h0, hl, hm, hc⟩
  · exact ⟨ao, [], cap, rfl, by simp, hm, fun k x hx => by simp at hx⟩
  · obtain ⟨L, hz, hzs⟩ := list_of (P := fun k (n : Nt) => N6 w b (off + k * 6) n) len (fun k hk => by
      obtain ⟨cs, n, y, hcl, htr, hat⟩ := hc k hk
      match cs, hcl with
      | [c0, c1, c2, c3, c4, c5], _ =>
        obtain ⟨y0, y1, y2, y3, m, _, _, g0, g1, g2, g3⟩ := trod_struct4 Tryd.underlying54 htr
        have cI : Tryd.prog.cellsOf 3 = 1 := by kernel_rfl
        have cB : Tryd.prog.cellsOf 4 = 1 := by kernel_rfl
        have cP : Tryd.prog.cellsOf 52 = 3 := by kernel_rfl
        obtain ⟨u0, e0, _, _⟩ := DataW.trod_int Tryd.underlying3 (show DataW.trod enc Tryd.prog w base spare held m 3 [c0] = some y0 by simpa [cI] using g0)
        obtain ⟨z0, z1, z2, q, _, _, q0, q1, q2⟩ := trod_struct3 Tryd.underlying52 (show DataW.trod enc Tryd.prog w base spare held m 52 [c1, c2, c3] = some y1 by simpa [cP] using g1)
        obtain ⟨u1, e1, _, _⟩ := DataW.trod_int Tryd.underlying3 (show DataW.trod enc Tryd.prog w base spare held q 3 [c1] = some z0 by simpa [cI] using q0)
        obtain ⟨u2, e2, _, _⟩ := DataW.trod_int Tryd.underlying3 (show DataW.trod enc Tryd.prog w base spare held q 3 [c2] = some z1 by simpa [cI] using q1)
        obtain ⟨u3, e3, _, _⟩ := DataW.trod_int Tryd.underlying3 (show DataW.trod enc Tryd.prog w base spare held q 3 [c3] = some z2 by simpa [cI] using q2)
        obtain ⟨u4, e4, _⟩ := DataW.trod_bool Tryd.underlying4 (show DataW.trod enc Tryd.prog w base spare held m 4 [c4] = some y2 by simpa [cB] using g2)
        obtain ⟨u5, e5, _, _⟩ := DataW.trod_int Tryd.underlying3 (show DataW.trod enc Tryd.prog w base spare held m 3 [c5] = some y3 by simpa [cI] using g3)
        simp at e0 e1 e2 e3 e4 e5
        subst e0 e1 e2 e3 e4 e5
        exact ⟨⟨u0, u1, u2, u3, u4, u5⟩, by simpa using hat 0 _ rfl, by simpa using hat 1 _ rfl, by simpa using hat 2 _ rfl, by simpa using hat 3 _ rfl, by simpa using hat 4 _ rfl, by simpa using hat 5 _ rfl⟩)
    subst hz
    exact ⟨_, L, cap, rfl, hl, hm, fun k x hx => ⟨b, off, rfl, hzs k x hx⟩⟩
end
end Go.Proofs.YthmdjpfjaojihaaDoor
