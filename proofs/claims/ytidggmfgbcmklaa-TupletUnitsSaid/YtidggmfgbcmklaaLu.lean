/- Tuplets: law Units. -/
import Derived.Test.YtidggmfgbcmklaaUiaa
import Derived.Test.YtidggmfgbcmklaaUiab
import Derived.Test.YtidggmfgbcmklaaUiba
import Derived.Test.YtidggmfgbcmklaaUibb
import Derived.Test.YtidggmfgbcmklaaUkaa
import Derived.Test.YtidggmfgbcmklaaUkab
namespace Go.Proofs.Ytidggmfgbcmklaa
open Go.RowKit
set_option linter.unusedVariables false
set_option linter.unusedSimpArgs false

theorem law_TupletUnits (f : Nat → Tp) (n cap : Nat) (ad : Option Addr) (g : Nat → Int) (m cap2 : Nat) (aw : Option Addr) (w : World) (hc : n ≤ cap) (h : TsAt w ad n f) (hcw : m ≤ cap2) (hw : IsAt w aw m g) : Calls Try.prog 10 #[.slice ad n cap, .slice aw m cap2] w fun e w' => e = .returned (.bool true) ∧ Below w.heap.size w w' := by
  by_cases hle : n ≤ 20 <;> by_cases hlm : m ≤ 130
  · by_cases hE : lsE f n g m = 0
    · rcases first_nat (P := fun i => ∃ j, UnitOf f n g m i j) n with hu | ⟨z, hz, hu, hno⟩
      · obtain ⟨J, hJ⟩ := choose_unit n hu
        exact lunits_y_aa f n cap ad g m cap2 aw J w hc h hcw hw hle hlm hE hJ
      · obtain ⟨J, hJ⟩ := choose_unit z hu
        exact lunits_b_aa f n cap ad g m cap2 aw J w hc h hcw hw hle hlm hE z hz hJ hno
    · exact lunits_n_aa f n cap ad g m cap2 aw w hc h hcw hw hle hlm _ rfl hE
  · by_cases hE : lsE f n g 130 = 0
    · rcases first_nat (P := fun i => ∃ j, UnitOf f n g 130 i j) n with hu | ⟨z, hz, hu, hno⟩
      · obtain ⟨J, hJ⟩ := choose_unit n hu
        exact lunits_y_ab f n cap ad g m cap2 aw J w hc h hcw hw hle (by omega) hE hJ
      · obtain ⟨J, hJ⟩ := choose_unit z hu
        exact lunits_b_ab f n cap ad g m cap2 aw J w hc h hcw hw hle (by omega) hE z hz hJ hno
    · exact lunits_n_ab f n cap ad g m cap2 aw w hc h hcw hw hle (by omega) _ rfl hE
  · by_cases hE : lsE f 20 g m = 0
    · exact absurd (chk_zero (lsE_zero_chk hE)).2.2.1 (by omega)
    · exact lunits_n_ba f n cap ad g m cap2 aw w hc h hcw hw (by omega) hlm _ rfl hE
  · by_cases hE : lsE f 20 g 130 = 0
    · exact absurd (chk_zero (lsE_zero_chk hE)).2.2.1 (by omega)
    · exact lunits_n_bb f n cap ad g m cap2 aw w hc h hcw hw (by omega) (by omega) _ rfl hE
end Go.Proofs.Ytidggmfgbcmklaa
