/- An argument that is a slice of places. -/
import Derived.Test.YthmdjpfjaojihaaDoorOs
import Derived.Test.YthmdjpfjaojihaaDoorAx
namespace Go.Proofs.YthmdjpfjaojihaaDoor
open Go.RowKit
set_option linter.unusedVariables false
set_option linter.unusedSimpArgs false

section
open Go.ChangeShapes Go.WideShapes Go.ChangeAt Go.RowKit Go.Joins Go.Deep
variable {H : Type} {enc : TypeId × Value → H} {w : World} {base : Nat} {spare : Nat → Bool} {held : Bool}
theorem open_pls {r : Reach} {b0 : Nat} {v : Value} {d : DataW H} {p : List MemPlace}
    (hv : Value.okWide Tryd.prog w r b0 37 v) (h : DataW.Trod enc Tryd.prog w base spare held 37 v d p) :
    ∃ (ad : Option Addr) (L : List Pl) (cap : Nat), v = .slice ad L.length cap ∧ L.length ≤ cap ∧ cap ≤ maxLen ∧ PlAt w ad L := by
  rcases open_rows Tryd.underlying37 (show Tryd.prog.cellsOf 42 = 7 by kernel_rfl) (by omega) hv h with ⟨ao, cap, rfl, hm⟩ | ⟨b, off, len, cap, rfl, h0, hl, hm, hc⟩
  · exact ⟨ao, [], cap, rfl, by simp, hm, fun k x hx => by simp at hx⟩
  · obtain ⟨L, hz, hzs⟩ := list_of (P := fun k (n : Pl) => N7 w b (off + k * 7) n) len (fun k hk => by
      obtain ⟨cs, n, y, hcl, htr, hat⟩ := hc k hk
      match cs, hcl with
      | [c0, c1, c2, c3, c4, c5, c6], _ =>
        obtain ⟨xs, m, _, _, _, hlen, hf⟩ := DataW.trod_struct Tryd.underlying42 htr
        match xs, hlen with
        | [y0, y1, y2, y3, y4, y5], _ =>
        have g0 := hf 0 _ rfl
        have g1 := hf 1 _ rfl
        have g2 := hf 2 _ rfl
        have g3 := hf 3 _ rfl
        have g4 := hf 4 _ rfl
        have g5 := hf 5 _ rfl
        have cI : Tryd.prog.cellsOf 3 = 1 := by kernel_rfl
        have cB : Tryd.prog.cellsOf 4 = 1 := by kernel_rfl
        have cM : Tryd.prog.cellsOf 40 = 2 := by kernel_rfl
        obtain ⟨u0, e0, _, _⟩ := DataW.trod_int Tryd.underlying3 (show DataW.trod enc Tryd.prog w base spare held m 3 [c0] = some y0 by simpa [cI] using g0)
        obtain ⟨u1, e1, _, _⟩ := DataW.trod_int Tryd.underlying3 (show DataW.trod enc Tryd.prog w base spare held m 3 [c1] = some y1 by simpa [cI] using g1)
        obtain ⟨u2, e2, _, _⟩ := DataW.trod_int Tryd.underlying3 (show DataW.trod enc Tryd.prog w base spare held m 3 [c2] = some y2 by simpa [cI] using g2)
        obtain ⟨z0, z1, q, _, _, q0, q1⟩ := trod_struct2 Tryd.underlying40 (show DataW.trod enc Tryd.prog w base spare held m 40 [c3, c4] = some y3 by simpa [cI, cM] using g3)
        obtain ⟨u3, e3, _, _⟩ := DataW.trod_int Tryd.underlying3 (show DataW.trod enc Tryd.prog w base spare held q 3 [c3] = some z0 by simpa [cI] using q0)
        obtain ⟨u4, e4, _⟩ := DataW.trod_bool Tryd.underlying4 (show DataW.trod enc Tryd.prog w base spare held q 4 [c4] = some z1 by simpa [cI, cB] using q1)
        obtain ⟨u5, e5, _⟩ := DataW.trod_bool Tryd.underlying4 (show DataW.trod enc Tryd.prog w base spare held m 4 [c5] = some y4 by simpa [cI, cB, cM] using g4)
        obtain ⟨u6, e6, _, _⟩ := DataW.trod_int Tryd.underlying3 (show DataW.trod enc Tryd.prog w base spare held m 3 [c6] = some y5 by simpa [cI, cB, cM] using g5)
        simp at e0 e1 e2 e3 e4 e5 e6
        subst e0 e1 e2 e3 e4 e5 e6
        exact ⟨⟨u0, u1, u2, u3, u4, u5, u6⟩, by simpa using hat 0 _ rfl, by simpa using hat 1 _ rfl, by simpa using hat 2 _ rfl, by simpa using hat 3 _ rfl, by simpa using hat 4 _ rfl, by simpa using hat 5 _ rfl, by simpa using hat 6 _ rfl⟩)
    subst hz
    exact ⟨_, L, cap, rfl, hl, hm, fun k x hx => ⟨b, off, rfl, hzs k x hx⟩⟩
end
end Go.Proofs.YthmdjpfjaojihaaDoor
