/- Arguments that are slices of tuplets or of integers. -/
import Derived.Test.YtidggmfgbcmklaaTb
import Derived.ProofKit
import Derived.OpenShut
import Derived.Lib.SmallJoins
import Derived.Deep.Strs
namespace Go.Proofs.Ytidggmfgbcmklaa
open Go.RowKit
set_option linter.unusedVariables false
set_option linter.unusedSimpArgs false

section
open Go.ChangeShapes Go.WideShapes Go.ChangeAt Go.RowKit Go.Joins Go.Deep
variable {H : Type} {enc : TypeId × Value → H} {P : Program} {w : World} {base : Nat} {spare : Nat → Bool} {held : Bool}
/-- an argument that is a slice: its elements, each of them with its cells -/
theorem open_rows {r : Reach} {b0 c : Nat} {t e : TypeId} {v : Value} {d : DataW H} {p : List MemPlace} (ht : P.underlying t = some (.slice e)) (hce : P.cellsOf e = c) (hc0 : 0 < c)
    (hv : Value.okWide P w r b0 t v) (h : DataW.Trod enc P w base spare held t v d p) :
    (∃ ao cap, v = .slice ao 0 cap ∧ cap ≤ maxLen) ∨ ∃ (b off len cap : Nat), v = .slice (some ⟨b, off, none⟩) len cap ∧ 0 < len ∧ len ≤ cap ∧ cap ≤ maxLen ∧
      ∀ k, k < len → ∃ (cs : List Value) (n : Nat) (y : DataW H × List MemPlace), cs.length = c ∧ DataW.trod enc P w base spare held n e cs = some y ∧ ∀ j (x : Value), cs[j]? = some x → w.cell? ⟨b, off + k * c + j, none⟩ = some x := by
  obtain ⟨a0, l0, c0, rfl⟩ := okWide_slice ht hv
  obtain ⟨fuel, hf0⟩ := h
  rcases open_slice ht hf0 with ⟨hcs, hx⟩ | ⟨a, len, cap, m, n, D, Pl, hcs, hb, hl, hm, hmm, hx, hi⟩
  · simp [Value.cells] at hcs
    obtain ⟨rfl, rfl, rfl⟩ := hcs
    exact .inl ⟨_, _, rfl, by simp [maxLen]⟩
  · simp [Value.cells] at hcs
    obtain ⟨rfl, rfl, rfl⟩ := hcs
    by_cases h0 : l0 = 0
    · subst h0; exact .inl ⟨_, _, rfl, hm⟩
    · right
      have hlm : l0 ≤ m := by rw [hmm]; split <;> omega
      have each : ∀ i, i < l0 → ∃ (cs : List Value) (y : DataW H × List MemPlace), cs.length = c ∧ DataW.trod enc P w base spare held n e cs = some y ∧ ∀ j (x : Value), cs[j]? = some x → w.cell? ((a.add (i * c)).add j) = some x := by
        intro i hil
        obtain ⟨cs', hc, ht'⟩ := hi i (by omega)
        rw [hce] at hc
        obtain ⟨_, hcl, hat⟩ := World.cells?_some hc
        refine ⟨cs', _, hcl, ht', fun j x hx => ?_⟩
        have hj := (List.getElem?_eq_some_iff.1 hx).1
        have := hat j (by omega)
        rw [hx] at this
        exact this
      obtain ⟨b, off, spot⟩ := a
      have hspot : spot = none := by
        obtain ⟨cs, y, hcl, _, hat⟩ := each 0 (by omega)
        obtain ⟨x, hx⟩ : ∃ x, cs[0]? = some x := ⟨_, List.getElem?_eq_getElem (by omega)⟩
        have := hat 0 x hx
        simpa [Addr.add] using World.cell?_spot this
      subst hspot
      refine ⟨b, off, l0, c0, rfl, by omega, hl, hm, fun k hk => ?_⟩
      obtain ⟨cs, y, hcl, htr, hat⟩ := each k hk
      refine ⟨cs, n, y, hcl, htr, fun j x hx => ?_⟩
      have := hat j x hx
      rw [add_add, add_plain, ← Nat.add_assoc] at this
      exact this
end
theorem own : ownKnob Try.prog.godebug = none := by kernel_rfl
theorem laidOut : laidOutB Try.prog = true := by kernel_rfl
theorem choose_tp {α : Type} {P : Nat → α → Prop} (x0 : α) : ∀ n : Nat, (∀ k, k < n → ∃ x, P k x) → ∃ f : Nat → α, ∀ k, k < n → P k (f k)
  | 0, _ => ⟨fun _ => x0, fun k hk => by omega⟩
  | n + 1, h => by
    obtain ⟨f, hf⟩ := choose_tp x0 n (fun k hk => h k (by omega))
    obtain ⟨x, hx⟩ := h n (by omega)
    refine ⟨fun k => if k = n then x else f k, fun k hk => ?_⟩
    by_cases e : k = n
    · subst e; simpa using hx
    · simp only [e, if_false]; exact hf k (by omega)
section
open Go.ChangeShapes Go.WideShapes Go.ChangeAt Go.RowKit Go.Joins Go.Deep
variable {H : Type} {enc : TypeId × Value → H} {w : World} {base : Nat} {spare : Nat → Bool} {held : Bool}
set_option maxRecDepth 100000 in
theorem open_ts {r : Reach} {b0 : Nat} {v : Value} {d : DataW H} {p : List MemPlace}
    (hv : Value.okWide Try.prog w r b0 22 v) (h : DataW.Trod enc Try.prog w base spare held 22 v d p) :
    ∃ (ad : Option Addr) (n cap : Nat) (f : Nat → Tp), v = .slice ad n cap ∧ n ≤ cap ∧ cap ≤ maxLen ∧ TsAt w ad n f := by
  rcases open_rows Try.underlying22 (show Try.prog.cellsOf 52 = 4 by kernel_rfl) (by omega) hv h with ⟨ao, cap, rfl, hm⟩ | ⟨b, off, len, cap, rfl, h0, hl, hm, hc⟩
  · exact ⟨ao, 0, cap, fun _ => ⟨0, 0, 0, 0⟩, rfl, by omega, hm, fun k hk => by omega⟩
  · obtain ⟨f, hf⟩ := choose_tp (P := fun k (t : Tp) => w.cell? ⟨b, off + k * 4, none⟩ = some (.int .i64 t.F) ∧ w.cell? ⟨b, off + k * 4 + 1, none⟩ = some (.int .i64 t.C) ∧ w.cell? ⟨b, off + k * 4 + 2, none⟩ = some (.int .i64 t.A) ∧ w.cell? ⟨b, off + k * 4 + 3, none⟩ = some (.int .i64 t.N)) ⟨0, 0, 0, 0⟩ len (fun k hk => by
      obtain ⟨cs, n, y, hcl, htr, hat⟩ := hc k hk
      match cs, hcl with
      | [c0, c1, c2, c3], _ =>
        obtain ⟨y0, y1, y2, y3, m, _, _, g0, g1, g2, g3⟩ := trod_struct4 Try.underlying52 htr
        have cI : Try.prog.cellsOf 3 = 1 := by kernel_rfl
        obtain ⟨u0, e0, _, _⟩ := DataW.trod_int Try.underlying3 (show DataW.trod enc Try.prog w base spare held m 3 [c0] = some y0 by simpa [cI] using g0)
        obtain ⟨u1, e1, _, _⟩ := DataW.trod_int Try.underlying3 (show DataW.trod enc Try.prog w base spare held m 3 [c1] = some y1 by simpa [cI] using g1)
        obtain ⟨u2, e2, _, _⟩ := DataW.trod_int Try.underlying3 (show DataW.trod enc Try.prog w base spare held m 3 [c2] = some y2 by simpa [cI] using g2)
        obtain ⟨u3, e3, _, _⟩ := DataW.trod_int Try.underlying3 (show DataW.trod enc Try.prog w base spare held m 3 [c3] = some y3 by simpa [cI] using g3)
        simp at e0 e1 e2 e3
        subst e0 e1 e2 e3
        exact ⟨⟨u0, u1, u2, u3⟩, by simpa using hat 0 _ rfl, by simpa using hat 1 _ rfl, by simpa using hat 2 _ rfl, by simpa using hat 3 _ rfl⟩)
    exact ⟨_, len, cap, f, rfl, hl, hm, fun k hk => ⟨b, off, rfl, hf k hk⟩⟩
set_option maxRecDepth 100000 in
theorem open_is {r : Reach} {b0 : Nat} {v : Value} {d : DataW H} {p : List MemPlace}
    (hv : Value.okWide Try.prog w r b0 40 v) (h : DataW.Trod enc Try.prog w base spare held 40 v d p) :
    ∃ (ad : Option Addr) (n cap : Nat) (f : Nat → Int), v = .slice ad n cap ∧ n ≤ cap ∧ cap ≤ maxLen ∧ IsAt w ad n f := by
  rcases open_rows Try.underlying40 (show Try.prog.cellsOf 3 = 1 by kernel_rfl) (by omega) hv h with ⟨ao, cap, rfl, hm⟩ | ⟨b, off, len, cap, rfl, h0, hl, hm, hc⟩
  · exact ⟨ao, 0, cap, fun _ => 0, rfl, by omega, hm, fun k hk => by omega⟩
  · obtain ⟨f, hf⟩ := choose_tp (P := fun k (t : Int) => w.cell? ⟨b, off + k, none⟩ = some (.int .i64 t)) 0 len (fun k hk => by
      obtain ⟨cs, n, y, hcl, htr, hat⟩ := hc k hk
      match cs, hcl with
      | [c0], _ =>
        obtain ⟨u0, e0, _, _⟩ := DataW.trod_int Try.underlying3 htr
        simp at e0
        subst e0
        exact ⟨u0, by simpa using hat 0 _ rfl⟩)
    exact ⟨_, len, cap, f, rfl, hl, hm, fun k hk => ⟨b, off, rfl, hf k hk⟩⟩
end
end Go.Proofs.Ytidggmfgbcmklaa
