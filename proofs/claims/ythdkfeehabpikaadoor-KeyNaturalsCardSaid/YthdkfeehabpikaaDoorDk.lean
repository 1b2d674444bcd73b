/- Keys: what the listed variables hold; the witness's world lays them all. -/
import Derived.Test.YthdkfeehabpikaaDoorRows
import Derived.Test.YthdkfeehabpikaaDoorKc
import Derived.WalkKit
import Derived.ProofKit
import Derived.LaidMore
import Derived.OpenShut
import Derived.Lay
import Derived.Lib.LaidU8
import Derived.Stop.Joined
namespace Go.Proofs.YthdkfeehabpikaaDoor
open Go.RowKit Go.Lib Go.ChangeShapes Go.WideShapes Go.ChangeAt
theorem own : ownKnob Tryd.prog.godebug = none := by kernel_rfl
theorem laidOut : laidOutB Tryd.prog = true := by kernel_rfl
theorem layShaped (os : Os) (args : Array Value) : ((World.laidAll Tryd.prog os Rows.keyScalesRow.laid).forCall (fun _ _ => 0) ⟨#[], args, []⟩).Shaped Tryd.prog := World.shaped_of_ZipB (by kernel_rfl) (by kernel_rfl)
theorem layMet (os : Os) (args : Array Value) : laidMetH Tryd.prog Rows.keyScalesRow.laid ((World.laidAll Tryd.prog os Rows.keyScalesRow.laid).forCall (fun _ _ => 0) ⟨#[], args, []⟩).memory := by
  rw [MakeChecks.laidMetH_plain _ _ _ (by kernel_rfl)]
  exact laidMet_laidAll _ (by kernel_rfl) (by kernel_rfl)
theorem c7 : Tryd.prog.cellsOf 72 = 7 := by kernel_rfl
theorem cInt : Tryd.prog.cellsOf 3 = 1 := by kernel_rfl
theorem cStr : Tryd.prog.cellsOf 9 = 1 := by kernel_rfl
theorem gShp : Tryd.prog.globalNamed "hemiola/key.sharps" = some 1 := by kernel_rfl
theorem gShpT : (Tryd.prog.globals[1]?).map (·.type) = some 72 := by kernel_rfl
theorem gSig : Tryd.prog.globalNamed "hemiola/key.signs" = some 0 := by kernel_rfl
theorem gSigT : (Tryd.prog.globals[0]?).map (·.type) = some 58 := by kernel_rfl
theorem shp_of {W : World} (h : VarReads Tryd.prog W "hemiola/key.sharps" Rows.laid_hemiola_key_sharps) : ∀ i : Nat, W.cell? ⟨1, i, none⟩ = (([3, 0, 4, 1, 5, 2, 6] : List Int).map fun z => Value.int .i64 z)[i]? := by
  obtain ⟨g, t, cs, fuel, p, hg, ht, hvar, hd⟩ := h
  obtain rfl := Option.some.inj (gShp.symm.trans hg)
  obtain rfl := Option.some.inj (gShpT.symm.trans ht)
  have e := Lib.cells_of_tab (k := .i64) (zs := [3, 0, 4, 1, 5, 2, 6]) Tryd.underlying72 Tryd.underlying3 cInt c7 hd
  have f : ∀ i : Nat, W.cell? ⟨1, i, none⟩ = cs[i]? := fun i => by simpa using World.var?_cell gShp hvar i
  exact fun i => by rw [f i, ← e]; simp
theorem str_of {cs : List Value} {s : List UInt8} {W : World} {m i : Nat} {p : List MemPlace} (h : DataW.trod (fun _ => ()) Tryd.prog W 0 (fun _ => true) false m 9 ((cs.drop i).take 1) = some (.lit (.string s), p)) : cs[i]? = some (.string ⟨⟨s⟩⟩) := by
  obtain ⟨x, e, e2, _⟩ := DataW.trod_string Tryd.underlying9 h
  simp only [Prod.mk.injEq, DataW.lit.injEq, Lit.string.injEq] at e2
  have : cs[i]? = some (.string x) := by
    have := congrArg (·[0]?) e
    simpa [List.getElem?_take, List.getElem?_drop] using this
  rw [this, e2.1]
theorem sig_of {W : World} (h : VarReads Tryd.prog W "hemiola/key.signs" Rows.laid_hemiola_key_signs) :
    W.cell? ⟨0, 0, none⟩ = some (.string ⟨#[98]⟩) ∧ W.cell? ⟨0, 1, none⟩ = some (.string ⟨#[]⟩) ∧ W.cell? ⟨0, 2, none⟩ = some (.string ⟨#[35]⟩) := by
  obtain ⟨g, t, cs, fuel, p, hg, ht, hvar, hd⟩ := h
  obtain rfl := Option.some.inj (gSig.symm.trans hg)
  obtain rfl := Option.some.inj (gSigT.symm.trans ht)
  have f : ∀ i : Nat, W.cell? ⟨0, i, none⟩ = cs.toList[i]? := fun i => by simpa using World.var?_cell gSig hvar i
  obtain ⟨xs, m, _, hx, _, hl, hel⟩ := DataW.trod_array Tryd.underlying58 hd
  match xs, hl with
  | [(a0, q0), (a1, q1), (a2, q2)], _ =>
    unfold Rows.laid_hemiola_key_signs at hx
    simp only [List.map_cons, List.map_nil, Prod.mk.injEq, DataW.agg.injEq, List.cons.injEq, and_true] at hx
    obtain ⟨⟨rfl, rfl, rfl⟩, _⟩ := hx
    rw [cStr] at hel
    rw [f 0, f 1, f 2]
    exact ⟨str_of (hel 0 (by omega)), str_of (hel 1 (by omega)), str_of (hel 2 (by omega))⟩
theorem pw_key {W : World} (h : laidMetH Tryd.prog Rows.keyScalesRow.laid W) : KT W := by
  rw [MakeChecks.laidMetH_plain _ _ _ (by kernel_rfl)] at h
  have f := shp_of (laidMet.reads h (by simp [Rows.keyScalesRow]))
  obtain ⟨s0, s1, s2⟩ := sig_of (laidMet.reads h (by simp [Rows.keyScalesRow]))
  exact ⟨f 0, f 1, f 2, f 3, f 4, f 5, f 6, s0, s1, s2⟩
end Go.Proofs.YthdkfeehabpikaaDoor
