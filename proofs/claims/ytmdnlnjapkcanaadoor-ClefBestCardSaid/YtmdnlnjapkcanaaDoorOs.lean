/- Arguments that are slices of ints, of pitches. -/
import Derived.Test.YtmdnlnjapkcanaaDoorCa
import Derived.ProofKit
import Derived.OpenShut
import Derived.Lib.SmallJoins
import Derived.Deep.Strs
namespace Go.Proofs.YtmdnlnjapkcanaaDoor
open Go.RowKit
set_option linter.unusedVariables false
set_option linter.unusedSimpArgs false

section
open Go.ChangeShapes Go.WideShapes Go.ChangeAt Go.RowKit Go.Joins Go.Deep
variable {H : Type} {enc : TypeId × Value → H} {P : Program} {w : World} {base : Nat} {spare : Nat → Bool} {held : Bool}
/-- an argument that is a slice: its elements, each of them with its cells -/
theorem open_rows {r : Reach} {b0 c : Nat} {t e : TypeId} {v : Value} {d : DataW H} {p : List MemPlace} (ht : P.underlying t = some (.slice e)) (hce : P.cellsOf e = c) (hc0 : 0 < c)
    (hv : Value.okWide P w r b0 t v) (h : DataW.Trod enc P w base spare held t v d p) :
    (∃ ao cap, v = .slice ao 0 cap ∧ cap ≤ maxLen) ∨ ∃ (b off len cap : Nat), v = .slice (some ⟨b, off, none⟩) len cap ∧ 0 < len ∧ len ≤ cap ∧ cap ≤ maxLen ∧
      ∀ k, k < len → ∃ (cs : List Value) (n : Nat) (y : DataW H × List MemPlace), cs.length = c ∧ DataW.trod enc P w base spare held n e cs = some y ∧ ∀ j (x : Value), cs[j]? = some x → w.cell? ⟨b, off + k * c + j, none⟩ = some x := by
  obtain ⟨a0, l0, c0, rfl⟩ := okWide_slice ht hv
  obtain ⟨fuel, hf0⟩ := h
  rcases open_slice ht hf0 with ⟨hcs, hx⟩ | ⟨a, len, cap, m, n, D, Pl, hcs, hb, hl, hm, hmm, hx, hi⟩
  · simp [Value.cells] at hcs
    obtain ⟨rfl, rfl, rfl⟩ := hcs
    exact .inl ⟨_, _, rfl, by simp [maxLen]⟩
  · simp [Value.cells] at hcs
    obtain ⟨rfl, rfl, rfl⟩ := hcs
    by_cases h0 : l0 = 0
    · subst h0; exact .inl ⟨_, _, rfl, hm⟩
    · right
      have hlm : l0 ≤ m := by rw [hmm]; split <;> omega
      have each : ∀ i, i < l0 → ∃ (cs : List Value) (y : DataW H × List MemPlace), cs.length = c ∧ DataW.trod enc P w base spare held n e cs = some y ∧ ∀ j (x : Value), cs[j]? = some x → w.cell? ((a.add (i * c)).add j) = some x := by
        intro i hil
        obtain ⟨cs', hc, ht'⟩ := hi i (by omega)
        rw [hce] at hc
        obtain ⟨_, hcl, hat⟩ := World.cells?_some hc
        refine ⟨cs', _, hcl, ht', fun j x hx => ?_⟩
        have hj := (List.getElem?_eq_some_iff.1 hx).1
        have := hat j (by omega)
        rw [hx] at this
        exact this
      obtain ⟨b, off, spot⟩ := a
      have hspot : spot = none := by
        obtain ⟨cs, y, hcl, _, hat⟩ := each 0 (by omega)
        obtain ⟨x, hx⟩ : ∃ x, cs[0]? = some x := ⟨_, List.getElem?_eq_getElem (by omega)⟩
        have := hat 0 x hx
        simpa [Addr.add] using World.cell?_spot this
      subst hspot
      refine ⟨b, off, l0, c0, rfl, by omega, hl, hm, fun k hk => ?_⟩
      obtain ⟨cs, y, hcl, htr, hat⟩ := each k hk
      refine ⟨cs, n, y, hcl, htr, fun j x hx => ?_⟩
      have := hat j x hx
      rw [add_add, add_plain, ← Nat.add_assoc] at this
      exact this
end
def IntAt (w : World) (ad : Option Addr) (zs : List Int) : Prop := ∀ (k : Nat) (x : Int), zs[k]? = some x → ∃ b off, ad = some ⟨b, off, none⟩ ∧ w.cell? ⟨b, off + k, none⟩ = some (.int .i64 x)
theorem IntAt.up {w w' : World} {ad : Option Addr} {zs : List Int} (h : IntAt w ad zs) (hb : Below w.heap.size w w') : IntAt w' ad zs := fun k x hx => let ⟨b, off, e, hc⟩ := h k x hx; ⟨b, off, e, cell_up hb hc⟩
def PitAt (w : World) (ad : Option Addr) (L : List (Int × Int × Int)) : Prop := ∀ (k : Nat) (p : Int × Int × Int), L[k]? = some p → ∃ b off, ad = some ⟨b, off, none⟩ ∧ w.cell? ⟨b, off + k * 3, none⟩ = some (.int .i64 p.1) ∧ w.cell? ⟨b, off + k * 3 + 1, none⟩ = some (.int .i64 p.2.1) ∧ w.cell? ⟨b, off + k * 3 + 2, none⟩ = some (.int .i64 p.2.2)
theorem PitAt.up {w w' : World} {ad : Option Addr} {L : List (Int × Int × Int)} (h : PitAt w ad L) (hb : Below w.heap.size w w') : PitAt w' ad L := fun k x hx => let ⟨b, off, e, h0, h1, h2⟩ := h k x hx; ⟨b, off, e, cell_up hb h0, cell_up hb h1, cell_up hb h2⟩
theorem list_of {α : Type} {P : Nat → α → Prop} : ∀ n : Nat, (∀ k, k < n → ∃ x, P k x) → ∃ L : List α, L.length = n ∧ ∀ (k : Nat) (x : α), L[k]? = some x → P k x
  | 0, _ => ⟨[], rfl, fun k x h => by simp at h⟩
  | n + 1, h => by
    obtain ⟨L, hl, hL⟩ := list_of n (fun k hk => h k (by omega))
    obtain ⟨x, hx⟩ := h n (by omega)
    refine ⟨L ++ [x], by simp [hl], fun k y hy => ?_⟩
    rw [List.getElem?_append] at hy
    split at hy
    · exact hL k y hy
    · have hk : k = n := by
        have := (List.getElem?_eq_some_iff.1 hy).1
        simp at this
        omega
      subst hk
      rw [hl] at hy
      simp at hy
      subst hy
      exact hx
section
open Go.ChangeShapes Go.WideShapes Go.ChangeAt Go.RowKit Go.Joins Go.Deep
variable {H : Type} {enc : TypeId × Value → H} {w : World} {base : Nat} {spare : Nat → Bool} {held : Bool}
theorem open_ints1 {r : Reach} {b0 : Nat} {v : Value} {d : DataW H} {p : List MemPlace}
    (hv : Value.okWide Tryd.prog w r b0 41 v) (h : DataW.Trod enc Tryd.prog w base spare held 41 v d p) :
    ∃ (ad : Option Addr) (zs : List Int) (cap : Nat), v = .slice ad zs.length cap ∧ zs.length ≤ cap ∧ cap ≤ maxLen ∧ (∀ z ∈ zs, -9223372036854775808 ≤ z ∧ z ≤ 9223372036854775807) ∧ IntAt w ad zs := by
  rcases open_rows Tryd.underlying41 (show Tryd.prog.cellsOf 3 = 1 by kernel_rfl) (by omega) hv h with ⟨ao, cap, rfl, hm⟩ | ⟨b, off, len, cap, rfl, h0, hl, hm, hc⟩
  · exact ⟨ao, [], cap, rfl, by simp, hm, fun z hz => by simp at hz, fun k x hx => by simp at hx⟩
  · obtain ⟨zs, hz, hzs⟩ := list_of (P := fun k (x : Int) => (-9223372036854775808 ≤ x ∧ x ≤ 9223372036854775807) ∧ w.cell? ⟨b, off + k, none⟩ = some (.int .i64 x)) len (fun k hk => by
      obtain ⟨cs, n, y, hcl, htr, hat⟩ := hc k hk
      obtain ⟨x, hx, _, hw⟩ := DataW.trod_int Tryd.underlying3 htr
      subst hx
      exact ⟨x, bounds_i64 hw, by simpa using hat 0 _ rfl⟩)
    subst hz
    refine ⟨_, zs, cap, rfl, hl, hm, fun z hm => ?_, fun k x hx => ⟨b, off, rfl, (hzs k x hx).2⟩⟩
    obtain ⟨k, hk, e⟩ := List.getElem_of_mem hm
    exact (hzs k z (by rw [List.getElem?_eq_getElem hk, e])).1
theorem open_pits {r : Reach} {b0 : Nat} {v : Value} {d : DataW H} {p : List MemPlace}
    (hv : Value.okWide Tryd.prog w r b0 49 v) (h : DataW.Trod enc Tryd.prog w base spare held 49 v d p) :
    ∃ (ad : Option Addr) (L : List (Int × Int × Int)) (cap : Nat), v = .slice ad L.length cap ∧ L.length ≤ cap ∧ cap ≤ maxLen ∧ PitAt w ad L := by
  rcases open_rows Tryd.underlying49 (show Tryd.prog.cellsOf 23 = 3 by kernel_rfl) (by omega) hv h with ⟨ao, cap, rfl, hm⟩ | ⟨b, off, len, cap, rfl, h0, hl, hm, hc⟩
  · exact ⟨ao, [], cap, rfl, by simp, hm, fun k x hx => by simp at hx⟩
  · obtain ⟨L, hz, hzs⟩ := list_of (P := fun k (q : Int × Int × Int) => w.cell? ⟨b, off + k * 3, none⟩ = some (.int .i64 q.1) ∧ w.cell? ⟨b, off + k * 3 + 1, none⟩ = some (.int .i64 q.2.1) ∧ w.cell? ⟨b, off + k * 3 + 2, none⟩ = some (.int .i64 q.2.2)) len (fun k hk => by
      obtain ⟨cs, n, y, hcl, htr, hat⟩ := hc k hk
      match cs, hcl with
      | [c0, c1, c2], _ =>
        obtain ⟨y0, y1, y2, m, _, _, g0, g1, g2⟩ := trod_struct3 Tryd.underlying23 htr
        have cI : Tryd.prog.cellsOf 3 = 1 := by kernel_rfl
        obtain ⟨u0, e0, _, _⟩ := DataW.trod_int Tryd.underlying3 (show DataW.trod enc Tryd.prog w base spare held m 3 [c0] = some y0 by simpa [cI] using g0)
        obtain ⟨u1, e1, _, _⟩ := DataW.trod_int Tryd.underlying3 (show DataW.trod enc Tryd.prog w base spare held m 3 [c1] = some y1 by simpa [cI] using g1)
        obtain ⟨u2, e2, _, _⟩ := DataW.trod_int Tryd.underlying3 (show DataW.trod enc Tryd.prog w base spare held m 3 [c2] = some y2 by simpa [cI] using g2)
        simp at e0 e1 e2
        subst e0 e1 e2
        exact ⟨(u0, u1, u2), by simpa using hat 0 _ rfl, by simpa using hat 1 _ rfl, by simpa using hat 2 _ rfl⟩)
    subst hz
    exact ⟨_, L, cap, rfl, hl, hm, fun k x hx => ⟨b, off, rfl, hzs k x hx⟩⟩
end
end Go.Proofs.YtmdnlnjapkcanaaDoor
