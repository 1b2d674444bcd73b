/- Intervals: what the listed variables hold; the witness's world lays them all. -/
import Derived.Test.YtfbogakmhaiddaaDoorRows
import Derived.Test.YtfbogakmhaiddaaDoorIj
import Derived.WalkKit
import Derived.ProofKit
import Derived.LaidMore
import Derived.OpenShut
import Derived.Lay
import Derived.Lib.LaidU8
import Derived.Stop.Joined
namespace Go.Proofs.YtfbogakmhaiddaaDoor
open Go.RowKit Go.Lib Go.ChangeShapes Go.WideShapes Go.ChangeAt
theorem own : ownKnob Tryd.prog.godebug = none := by kernel_rfl
theorem laidOut : laidOutB Tryd.prog = true := by kernel_rfl
theorem layShaped (os : Os) (args : Array Value) : ((World.laidAll Tryd.prog os Rows.intervalAddsRow.laid).forCall (fun _ _ => 0) ⟨#[], args, []⟩).Shaped Tryd.prog := World.shaped_of_ZipB (by kernel_rfl) (by kernel_rfl)
theorem layMet (os : Os) (args : Array Value) : laidMetH Tryd.prog Rows.intervalAddsRow.laid ((World.laidAll Tryd.prog os Rows.intervalAddsRow.laid).forCall (fun _ _ => 0) ⟨#[], args, []⟩).memory := by
  rw [MakeChecks.laidMetH_plain _ _ _ (by kernel_rfl)]
  exact laidMet_laidAll _ (by kernel_rfl) (by kernel_rfl)
theorem c7 : Tryd.prog.cellsOf 90 = 7 := by kernel_rfl
theorem c2 : Tryd.prog.cellsOf 98 = 2 := by kernel_rfl
theorem cInt : Tryd.prog.cellsOf 3 = 1 := by kernel_rfl
theorem gNum : Tryd.prog.globalNamed "hemiola/pitch.numbers" = some 1 := by kernel_rfl
theorem gNumT : (Tryd.prog.globals[1]?).map (·.type) = some 90 := by kernel_rfl
theorem Num_of {W : World} (h : VarReads Tryd.prog W "hemiola/pitch.numbers" Rows.laid_hemiola_pitch_numbers) : ∀ i : Nat, W.cell? ⟨1, i, none⟩ = (([0, 2, 4, 5, 7, 9, 11] : List Int).map fun z => Value.int .i64 z)[i]? := by
  obtain ⟨g, t, cs, fuel, p, hg, ht, hvar, hd⟩ := h
  obtain rfl := Option.some.inj (gNum.symm.trans hg)
  obtain rfl := Option.some.inj (gNumT.symm.trans ht)
  have e := Lib.cells_of_tab (k := .i64) (zs := [0, 2, 4, 5, 7, 9, 11]) Tryd.underlying90 Tryd.underlying3 cInt c7 hd
  have f : ∀ i : Nat, W.cell? ⟨1, i, none⟩ = cs[i]? := fun i => by simpa using World.var?_cell gNum hvar i
  exact fun i => by rw [f i, ← e]; simp
theorem gNat : Tryd.prog.globalNamed "hemiola/interval.naturals" = some 3 := by kernel_rfl
theorem gNatT : (Tryd.prog.globals[3]?).map (·.type) = some 90 := by kernel_rfl
theorem Nat_of {W : World} (h : VarReads Tryd.prog W "hemiola/interval.naturals" Rows.laid_hemiola_interval_naturals) : ∀ i : Nat, W.cell? ⟨3, i, none⟩ = (([0, 2, 4, 5, 7, 9, 11] : List Int).map fun z => Value.int .i64 z)[i]? := by
  obtain ⟨g, t, cs, fuel, p, hg, ht, hvar, hd⟩ := h
  obtain rfl := Option.some.inj (gNat.symm.trans hg)
  obtain rfl := Option.some.inj (gNatT.symm.trans ht)
  have e := Lib.cells_of_tab (k := .i64) (zs := [0, 2, 4, 5, 7, 9, 11]) Tryd.underlying90 Tryd.underlying3 cInt c7 hd
  have f : ∀ i : Nat, W.cell? ⟨3, i, none⟩ = cs[i]? := fun i => by simpa using World.var?_cell gNat hvar i
  exact fun i => by rw [f i, ← e]; simp
theorem gCls : Tryd.prog.globalNamed "hemiola/interval.classes" = some 0 := by kernel_rfl
theorem gClsT : (Tryd.prog.globals[0]?).map (·.type) = some 90 := by kernel_rfl
theorem Cls_of {W : World} (h : VarReads Tryd.prog W "hemiola/interval.classes" Rows.laid_hemiola_interval_classes) : ∀ i : Nat, W.cell? ⟨0, i, none⟩ = (([0, 1, 1, 0, 0, 1, 1] : List Int).map fun z => Value.int .i64 z)[i]? := by
  obtain ⟨g, t, cs, fuel, p, hg, ht, hvar, hd⟩ := h
  obtain rfl := Option.some.inj (gCls.symm.trans hg)
  obtain rfl := Option.some.inj (gClsT.symm.trans ht)
  have e := Lib.cells_of_tab (k := .i64) (zs := [0, 1, 1, 0, 0, 1, 1]) Tryd.underlying90 Tryd.underlying3 cInt c7 hd
  have f : ∀ i : Nat, W.cell? ⟨0, i, none⟩ = cs[i]? := fun i => by simpa using World.var?_cell gCls hvar i
  exact fun i => by rw [f i, ← e]; simp
theorem gLst : Tryd.prog.globalNamed "hemiola/interval.least" = some 2 := by kernel_rfl
theorem gLstT : (Tryd.prog.globals[2]?).map (·.type) = some 98 := by kernel_rfl
theorem Lst_of {W : World} (h : VarReads Tryd.prog W "hemiola/interval.least" Rows.laid_hemiola_interval_least) : ∀ i : Nat, W.cell? ⟨2, i, none⟩ = (([0, -1] : List Int).map fun z => Value.int .i64 z)[i]? := by
  obtain ⟨g, t, cs, fuel, p, hg, ht, hvar, hd⟩ := h
  obtain rfl := Option.some.inj (gLst.symm.trans hg)
  obtain rfl := Option.some.inj (gLstT.symm.trans ht)
  have e := Lib.cells_of_tab (k := .i64) (zs := [0, -1]) Tryd.underlying98 Tryd.underlying3 cInt c2 hd
  have f : ∀ i : Nat, W.cell? ⟨2, i, none⟩ = cs[i]? := fun i => by simpa using World.var?_cell gLst hvar i
  exact fun i => by rw [f i, ← e]; simp
theorem pw_ivl {W : World} (h : laidMetH Tryd.prog Rows.intervalAddsRow.laid W) : PT W ∧ IT W := by
  rw [MakeChecks.laidMetH_plain _ _ _ (by kernel_rfl)] at h
  have f := Num_of (laidMet.reads h (by simp [Rows.intervalAddsRow]))
  have g := Nat_of (laidMet.reads h (by simp [Rows.intervalAddsRow]))
  have c := Cls_of (laidMet.reads h (by simp [Rows.intervalAddsRow]))
  have l := Lst_of (laidMet.reads h (by simp [Rows.intervalAddsRow]))
  exact ⟨⟨f 0, f 1, f 2, f 3, f 4, f 5, f 6⟩, ⟨g 0, g 1, g 2, g 3, g 4, g 5, g 6, c 0, c 1, c 2, c 3, c 4, c 5, c 6, l 0, l 1⟩⟩
end Go.Proofs.YtfbogakmhaiddaaDoor
