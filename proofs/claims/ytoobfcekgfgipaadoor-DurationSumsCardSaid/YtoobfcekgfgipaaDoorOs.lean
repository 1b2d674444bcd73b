/- An argument that is a slice of values. -/
import Derived.Test.YtoobfcekgfgipaaDoorDv
import Derived.ProofKit
import Derived.OpenShut
import Derived.Lib.SmallJoins
import Derived.Deep.Strs
namespace Go.Proofs.YtoobfcekgfgipaaDoor
open Go.RowKit
set_option linter.unusedVariables false
set_option linter.unusedSimpArgs false

section
open Go.ChangeShapes Go.WideShapes Go.ChangeAt Go.RowKit Go.Joins Go.Deep
variable {H : Type} {enc : TypeId × Value → H} {P : Program} {w : World} {base : Nat} {spare : Nat → Bool} {held : Bool}
/-- an argument that is a slice: its elements, each of them with its cells -/
theorem open_rows {r : Reach} {b0 c : Nat} {t e : TypeId} {v : Value} {d : DataW H} {p : List MemPlace} (ht : P.underlying t = some (.slice e)) (hce : P.cellsOf e = c) (hc0 : 0 < c)
    (hv : Value.okWide P w r b0 t v) (h : DataW.Trod enc P w base spare held t v d p) :
    (∃ ao cap, v = .slice ao 0 cap ∧ cap ≤ maxLen) ∨ ∃ (b off len cap : Nat), v = .slice (some ⟨b, off, none⟩) len cap ∧ 0 < len ∧ len ≤ cap ∧ cap ≤ maxLen ∧
      ∀ k, k < len → ∃ (cs : List Value) (n : Nat) (y : DataW H × List MemPlace), cs.length = c ∧ DataW.trod enc P w base spare held n e cs = some y ∧ ∀ j (x : Value), cs[j]? = some x → w.cell? ⟨b, off + k * c + j, none⟩ = some x := by
  obtain ⟨a0, l0, c0, rfl⟩ := okWide_slice ht hv
  obtain ⟨fuel, hf0⟩ := h
  rcases open_slice ht hf0 with ⟨hcs, hx⟩ | ⟨a, len, cap, m, n, D, Pl, hcs, hb, hl, hm, hmm, hx, hi⟩
  · simp [Value.cells] at hcs
    obtain ⟨rfl, rfl, rfl⟩ := hcs
    exact .inl ⟨_, _, rfl, by simp [maxLen]⟩
  · simp [Value.cells] at hcs
    obtain ⟨rfl, rfl, rfl⟩ := hcs
    by_cases h0 : l0 = 0
    · subst h0; exact .inl ⟨_, _, rfl, hm⟩
    · right
      have hlm : l0 ≤ m := by rw [hmm]; split <;> omega
      have each : ∀ i, i < l0 → ∃ (cs : List Value) (y : DataW H × List MemPlace), cs.length = c ∧ DataW.trod enc P w base spare held n e cs = some y ∧ ∀ j (x : Value), cs[j]? = some x → w.cell? ((a.add (i * c)).add j) = some x := by
        intro i hil
        obtain ⟨cs', hc, ht'⟩ := hi i (by omega)
        rw [hce] at hc
        obtain ⟨_, hcl, hat⟩ := World.cells?_some hc
        refine ⟨cs', _, hcl, ht', fun j x hx => ?_⟩
        have hj := (List.getElem?_eq_some_iff.1 hx).1
        have := hat j (by omega)
        rw [hx] at this
        exact this
      obtain ⟨b, off, spot⟩ := a
      have hspot : spot = none := by
        obtain ⟨cs, y, hcl, _, hat⟩ := each 0 (by omega)
        obtain ⟨x, hx⟩ : ∃ x, cs[0]? = some x := ⟨_, List.getElem?_eq_getElem (by omega)⟩
        have := hat 0 x hx
        simpa [Addr.add] using World.cell?_spot this
      subst hspot
      refine ⟨b, off, l0, c0, rfl, by omega, hl, hm, fun k hk => ?_⟩
      obtain ⟨cs, y, hcl, htr, hat⟩ := each k hk
      refine ⟨cs, n, y, hcl, htr, fun j x hx => ?_⟩
      have := hat j x hx
      rw [add_add, add_plain, ← Nat.add_assoc] at this
      exact this
end
theorem list_of {α : Type} {P : Nat → α → Prop} : ∀ n : Nat, (∀ k, k < n → ∃ x, P k x) → ∃ L : List α, L.length = n ∧ ∀ (k : Nat) (x : α), L[k]? = some x → P k x
  | 0, _ => ⟨[], rfl, fun k x h => by simp at h⟩
  | n + 1, h => by
    obtain ⟨L, hl, hL⟩ := list_of n (fun k hk => h k (by omega))
    obtain ⟨x, hx⟩ := h n (by omega)
    refine ⟨L ++ [x], by simp [hl], fun k y hy => ?_⟩
    rw [List.getElem?_append] at hy
    split at hy
    · exact hL k y hy
    · have hk : k = n := by
        have := (List.getElem?_eq_some_iff.1 hy).1
        simp at this
        omega
      subst hk
      rw [hl] at hy
      simp at hy
      subst hy
      exact hx
section
open Go.ChangeShapes Go.WideShapes Go.ChangeAt Go.RowKit Go.Joins Go.Deep
variable {H : Type} {enc : TypeId × Value → H} {w : World} {base : Nat} {spare : Nat → Bool} {held : Bool}
set_option maxRecDepth 100000 in
theorem open_vals {r : Reach} {b0 : Nat} {v : Value} {d : DataW H} {p : List MemPlace}
    (hv : Value.okWide Tryd.prog w r b0 36 v) (h : DataW.Trod enc Tryd.prog w base spare held 36 v d p) :
    ∃ (ad : Option Addr) (L : List (Int × Int)) (cap : Nat), v = .slice ad L.length cap ∧ L.length ≤ cap ∧ cap ≤ maxLen ∧ VsAt w ad L := by
  rcases open_rows Tryd.underlying36 (show Tryd.prog.cellsOf 23 = 2 by kernel_rfl) (by omega) hv h with ⟨ao, cap, rfl, hm⟩ | ⟨b, off, len, cap, rfl, h0, hl, hm, hc⟩
  · exact ⟨ao, [], cap, rfl, by simp, hm, fun k x hx => by simp at hx⟩
  · obtain ⟨L, hz, hzs⟩ := list_of (P := fun k (n : Int × Int) => w.cell? ⟨b, off + k * 2, none⟩ = some (.int .i64 n.1) ∧ w.cell? ⟨b, off + k * 2 + 1, none⟩ = some (.int .i64 n.2)) len (fun k hk => by
      obtain ⟨cs, n, y, hcl, htr, hat⟩ := hc k hk
      match cs, hcl with
      | [c0, c1], _ =>
        obtain ⟨y0, y1, m, _, _, g0, g1⟩ := trod_struct2 Tryd.underlying23 htr
        have cI : Tryd.prog.cellsOf 3 = 1 := by kernel_rfl
        obtain ⟨u0, e0, _, _⟩ := DataW.trod_int Tryd.underlying3 (show DataW.trod enc Tryd.prog w base spare held m 3 [c0] = some y0 by simpa [cI] using g0)
        obtain ⟨u1, e1, _, _⟩ := DataW.trod_int Tryd.underlying3 (show DataW.trod enc Tryd.prog w base spare held m 3 [c1] = some y1 by simpa [cI] using g1)
        simp at e0 e1
        subst e0 e1
        exact ⟨⟨u0, u1⟩, by simpa using hat 0 _ rfl, by simpa using hat 1 _ rfl⟩)
    subst hz
    exact ⟨_, L, cap, rfl, hl, hm, fun k x hx => ⟨b, off, rfl, hzs k x hx⟩⟩
end
end Go.Proofs.YtoobfcekgfgipaaDoor
