/- What the door's own heap gives: it is well shaped, and the listed variables hold what they are laid with. -/
import Derived.Test.YtknojlccfjdpeaaDoorRows
import Derived.Test.YtknojlccfjdpeaaDoorRf
import Derived.WalkKit
import Derived.ProofKit
import Derived.LaidMore
import Derived.Stop.Joined
namespace Go.Proofs.YtknojlccfjdpeaaDoor
open Go.RowKit
theorem own : ownKnob Tryd.prog.godebug = none := by kernel_rfl
theorem laidOut : laidOutB Tryd.prog = true := by kernel_rfl
theorem doorShaped (os : Os) (args : Array Value) : ((World.doorLaid Tryd.prog 400 os).forCall (fun _ _ => 0) ⟨#[], args, []⟩).Shaped Tryd.prog := World.shaped_of_RefB (by kernel_rfl) (by kernel_rfl)

theorem Door5.met (os : Os) (args : Array Value) : laidMetH Tryd.prog Rows.rationalTextsRow.laid ((World.doorLaid Tryd.prog 400 os).forCall (fun _ _ => 0) ⟨#[], args, []⟩).memory :=
  laidMetH_of_parts3 (fuel := 8) (laidMet_of_run' 8 (by kernel_rfl) (by kernel_rfl)) (by kernel_rfl) (by kernel_rfl)
theorem Door5.gPow : Tryd.prog.globalNamed "internal/strconv.uint64pow10" = some 2 := by kernel_rfl
theorem Door5.gPowT : (Tryd.prog.globals[2]?).map (·.type) = some 99 := by kernel_rfl
theorem Door5.cellsT : Tryd.prog.cellsOf 99 = 20 := by kernel_rfl
theorem Door5.cellsE : Tryd.prog.cellsOf 54 = 1 := by kernel_rfl
theorem Door5.table {W : World} (h : laidMetH Tryd.prog Rows.rationalTextsRow.laid W) : Tab W := by
  rw [MakeChecks.laidMetH_plain _ _ _ (by kernel_rfl)] at h
  obtain ⟨ps, ⟨_, _, _, _, _, _, _, _, _, _, ⟨_, _, _, _, _, _, _, _, _, _, ⟨g, t, cs, fuel, pp, qq, hg, ht, hvar, hd, _, _⟩, _⟩, _⟩, _⟩ := h
  obtain rfl := Option.some.inj (Door5.gPow.symm.trans hg)
  obtain rfl := Option.some.inj (Door5.gPowT.symm.trans ht)
  unfold Tab Lib.TabIs
  rw [hvar, ← Lib.cells_of_tab (k := .u64) (zs := Lib.pow10Tab) Tryd.underlying99 Tryd.underlying54 Door5.cellsE Door5.cellsT hd]
end Go.Proofs.YtknojlccfjdpeaaDoor
