/- Keys: the examples; the law KeyTransposes. -/
import Derived.Test.YthdkfeehabpikaaDoorKd
namespace Go.Proofs.YthdkfeehabpikaaDoor
open Go.RowKit
set_option linter.unusedVariables false
set_option linter.unusedSimpArgs false

def Cell3 (w : World) (b : Nat) : Prop := w.cell? ⟨b, 18, none⟩ = some (.int .i64 0) ∧ w.cell? ⟨b, 19, none⟩ = some (.int .i64 1) ∧ w.cell? ⟨b, 20, none⟩ = some (.int .i64 5)
theorem Cell3.up {w w' : World} {b : Nat} (h : Cell3 w b) (hb : Below w.heap.size w w') : Cell3 w' b := ⟨cell_up hb h.1, cell_up hb h.2.1, cell_up hb h.2.2⟩
set_option maxRecDepth 100000 in
set_option maxHeartbeats 2000000 in
theorem known_any  (w : World) (hk : KT w) :
    Calls Tryd.prog 8 #[] w fun e w' => e = .returned (.bool true) ∧ Below w.heap.size w w' := by
  have B0 := Lib.hid (Bel.refl w)
  have K0 := Lib.hid hk
  go_enter Tryd.func8, Tryd.ntmps8
  go_wp2_with fail
  refine (sigK_known _ K0.out).mono ?_
  rintro e w1 ⟨b, rfl, c0, c1, hb⟩
  have L1 := Lib.hid (show Row1 w1 b [3, 0] from fun k x hx => by
    match k, hx with
    | 0, hx => simp at hx; subst hx; exact c0
    | 1, hx => simp at hx; subst hx; exact c1)
  clear c0 c1
  have B1 := Lib.hid (B0.out.up hb)
  have K1 := Lib.hid (K0.out.below hb)
  clear hb B0 K0 
  go_wp2_with fail
  refine (name_known _ K1.out).mono ?_
  rintro e w2 ⟨rfl, hb⟩
  have B2 := Lib.hid (B1.out.up hb)
  have K2 := Lib.hid (K1.out.below hb)
  have L2 := Lib.hid (L1.out.up hb)
  clear hb B1 K1 L1 
  go_wp2_with fail
  refine (scale_known _ K2.out).mono ?_
  rintro e w3 ⟨b2, rfl, d0, d1, d2, hb⟩
  have M3 := Lib.hid (show Cell3 w3 b2 from ⟨d0, d1, d2⟩)
  clear d0 d1 d2
  have B3 := Lib.hid (B2.out.up hb)
  have K3 := Lib.hid (K2.out.below hb)
  have L3 := Lib.hid (L2.out.up hb)
  clear hb B2 K2 L2 
  go_wp2_with fail
  refine (transK_ok 7 1 2 _ (by decide) (by decide)).mono ?_
  rintro e w4 ⟨rfl, hb⟩
  rw [show redK (7 + 7 * 2 + -12 * 1) = -3 from by decide]
  have B4 := Lib.hid (B3.out.up hb)
  have K4 := Lib.hid (K3.out.below hb)
  have L4 := Lib.hid (L3.out.up hb)
  have M4 := Lib.hid (M3.out.up hb)
  clear hb B3 K3 L3 M3 
  have c0 := L4.out 0 3 rfl
  have c1 := L4.out 1 0 rfl
  obtain ⟨d0, d1, d2⟩ := M4.out
  go_wp2_with fail
  try (go_quiet (fail); go_wp2_with fail)
  go_ret
  exact ⟨by first | rfl | (simp; done), by first | exact B4.out.out | exact below_drewN B4.out.out _⟩
end Go.Proofs.YthdkfeehabpikaaDoor
