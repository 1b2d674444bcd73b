/- Tuplets: law Units, how. -/
import Derived.Test.YtidggmfgbcmklaaUh
import Derived.Test.YtidggmfgbcmklaaTsu
namespace Go.Proofs.Ytidggmfgbcmklaa
open Go.RowKit
set_option linter.unusedVariables false
set_option linter.unusedSimpArgs false

/-- what a call of Units does, in one of its three ways -/
def UnN (f : Nat → Tp) (n cap : Nat) (ad : Option Addr) (g : Nat → Int) (K cap2 : Nat) (aw : Option Addr) (w : World) (E : Int) : Prop := Calls Try.prog 32 #[.slice ad n cap, .slice aw K cap2] w fun e w' => e = .returned (.tuple #[.slice none 0 0, .int .i64 E]) ∧ Below w.heap.size w w'
theorem units_E (f : Nat → Tp) (n cap : Nat) (ad : Option Addr) (g : Nat → Int) (K cap2 : Nat) (aw : Option Addr) (w : World) (hc : n ≤ cap) (hT : TsAt w ad n f) (hI : IsAt w aw K g) (hK : K ≤ 130) (E : Int) (hE : lsE f n g K = E) (h0 : E ≠ 0) : UnN f n cap ad g K cap2 aw w E := by
  refine (units_n f n cap ad g K cap2 aw (fun _ => 0) w hc hT hI hK E hE h0).mono ?_
  rintro e w' ⟨v, rfl, hb, hv⟩
  rw [hv.2 h0]
  exact ⟨rfl, hb⟩
theorem units_21 (f : Nat → Tp) (n cap : Nat) (ad : Option Addr) (g : Nat → Int) (K cap2 : Nat) (aw : Option Addr) (J : Nat → Nat) (w : World) (hc : n ≤ cap) (hT : TsAt w ad n f) (hI : IsAt w aw K g) (hK : K ≤ 130) (hE : lsE f n g K = 0) (z : Nat) (hz : z < n) (hJ : ∀ i, i < z → UnitOf f n g K i (J i)) (hno : ¬ ∃ j, UnitOf f n g K z j) : UnN f n cap ad g K cap2 aw w 21 := by
  refine (units_b f n cap ad g K cap2 aw J w hc hT hI hK hE z hz hJ hno).mono ?_
  rintro e w' ⟨v, rfl, hb, hv⟩
  rw [hv.2 (by decide)]
  exact ⟨rfl, hb⟩
theorem choose_unit {f : Nat → Tp} {n K : Nat} {g : Nat → Int} (m : Nat) (hm : ∀ i, i < m → ∃ j, UnitOf f n g K i j) : ∃ J : Nat → Nat, ∀ i, i < m → UnitOf f n g K i (J i) := by
  refine ⟨fun i => if h : i < m then Classical.choose (hm i h) else 0, fun i hi => ?_⟩
  simp only [hi, dif_pos]
  exact Classical.choose_spec (hm i hi)
end Go.Proofs.Ytidggmfgbcmklaa
