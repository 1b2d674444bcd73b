/- Keys: what the listed variables hold; the witness's world lays them all. -/
import Derived.Test.YthmdjpfjaojihaaDoorRows
import Derived.Test.YthmdjpfjaojihaaDoorAj
import Derived.WalkKit
import Derived.ProofKit
import Derived.LaidMore
import Derived.OpenShut
import Derived.Lay
import Derived.Lib.LaidU8
import Derived.Stop.Joined
namespace Go.Proofs.YthmdjpfjaojihaaDoor
open Go.RowKit Go.Lib Go.ChangeShapes Go.WideShapes Go.ChangeAt
theorem own : ownKnob Tryd.prog.godebug = none := by kernel_rfl
theorem laidOut : laidOutB Tryd.prog = true := by kernel_rfl
theorem layShaped (os : Os) (args : Array Value) : ((World.laidAll Tryd.prog os Rows.accidentalScaleRow.laid).forCall (fun _ _ => 0) ⟨#[], args, []⟩).Shaped Tryd.prog := World.shaped_of_ZipB (by kernel_rfl) (by kernel_rfl)
theorem layMet (os : Os) (args : Array Value) : laidMetH Tryd.prog Rows.accidentalScaleRow.laid ((World.laidAll Tryd.prog os Rows.accidentalScaleRow.laid).forCall (fun _ _ => 0) ⟨#[], args, []⟩).memory := by
  rw [MakeChecks.laidMetH_plain _ _ _ (by kernel_rfl)]
  exact laidMet_laidAll _ (by kernel_rfl) (by kernel_rfl)
theorem c7 : Tryd.prog.cellsOf 80 = 7 := by kernel_rfl
theorem cInt : Tryd.prog.cellsOf 3 = 1 := by kernel_rfl
theorem gShp : Tryd.prog.globalNamed "hemiola/key.sharps" = some 0 := by kernel_rfl
theorem gShpT : (Tryd.prog.globals[0]?).map (·.type) = some 80 := by kernel_rfl
theorem shp_of {W : World} (h : VarReads Tryd.prog W "hemiola/key.sharps" Rows.laid_hemiola_key_sharps) : ∀ i : Nat, W.cell? ⟨0, i, none⟩ = (([3, 0, 4, 1, 5, 2, 6] : List Int).map fun z => Value.int .i64 z)[i]? := by
  obtain ⟨g, t, cs, fuel, p, hg, ht, hvar, hd⟩ := h
  obtain rfl := Option.some.inj (gShp.symm.trans hg)
  obtain rfl := Option.some.inj (gShpT.symm.trans ht)
  have e := Lib.cells_of_tab (k := .i64) (zs := [3, 0, 4, 1, 5, 2, 6]) Tryd.underlying80 Tryd.underlying3 cInt c7 hd
  have f : ∀ i : Nat, W.cell? ⟨0, i, none⟩ = cs[i]? := fun i => by simpa using World.var?_cell gShp hvar i
  exact fun i => by rw [f i, ← e]; simp
theorem pw_key {W : World} (h : laidMetH Tryd.prog Rows.accidentalScaleRow.laid W) : KT W := by
  rw [MakeChecks.laidMetH_plain _ _ _ (by kernel_rfl)] at h
  have f := shp_of (laidMet.reads h (by simp [Rows.accidentalScaleRow]))
  exact ⟨f 0, f 1, f 2, f 3, f 4, f 5, f 6⟩
end Go.Proofs.YthmdjpfjaojihaaDoor
