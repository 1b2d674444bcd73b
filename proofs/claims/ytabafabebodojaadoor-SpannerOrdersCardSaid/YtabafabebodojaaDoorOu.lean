/- Arguments that are slices of bytes. -/
import Derived.Test.YtabafabebodojaaDoorOs
import Derived.Test.YtabafabebodojaaDoorNb1
namespace Go.Proofs.YtabafabebodojaaDoor
open Go.RowKit
set_option linter.unusedVariables false
set_option linter.unusedSimpArgs false

section
open Go.ChangeShapes Go.WideShapes Go.ChangeAt Go.RowKit Go.Joins Go.Deep
variable {H : Type} {enc : TypeId × Value → H} {w : World} {base : Nat} {spare : Nat → Bool} {held : Bool}
set_option maxRecDepth 100000 in
theorem open_u8 {r : Reach} {b0 : Nat} {v : Value} {d : DataW H} {p : List MemPlace}
    (hv : Value.okWide Tryd.prog w r b0 47 v) (h : DataW.Trod enc Tryd.prog w base spare held 47 v d p) :
    ∃ (ad : Option Addr) (n cap : Nat) (f : Nat → Int), v = .slice ad n cap ∧ n ≤ cap ∧ cap ≤ maxLen ∧ U8At w ad n f := by
  rcases open_rows Tryd.underlying47 (show Tryd.prog.cellsOf 5 = 1 by kernel_rfl) (by omega) hv h with ⟨ao, cap, rfl, hm⟩ | ⟨b, off, len, cap, rfl, h0, hl, hm, hc⟩
  · exact ⟨ao, 0, cap, fun _ => 0, rfl, by omega, hm, fun k hk => by omega⟩
  · obtain ⟨f, hf⟩ := choose_tp (P := fun k (t : Int) => w.cell? ⟨b, off + k, none⟩ = some (.int .u8 t) ∧ 0 ≤ t ∧ t ≤ 255) 0 len (fun k hk => by
      obtain ⟨cs, n, y, hcl, htr, hat⟩ := hc k hk
      match cs, hcl with
      | [c0], _ =>
        obtain ⟨u0, e0, _, wf⟩ := DataW.trod_int Tryd.underlying5 htr
        simp at e0
        subst e0
        exact ⟨u0, by simpa using hat 0 _ rfl, (bounds_u8 wf).1, (bounds_u8 wf).2⟩)
    exact ⟨_, len, cap, f, rfl, hl, hm, fun k hk => ⟨b, off, rfl, (hf k hk).1, (hf k hk).2.1, (hf k hk).2.2⟩⟩
end
end Go.Proofs.YtabafabebodojaaDoor
