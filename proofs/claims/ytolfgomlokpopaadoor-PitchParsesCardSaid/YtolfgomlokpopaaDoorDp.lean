/- Pitch: what the listed variables hold; the witness's world lays them all. -/
import Derived.Test.YtolfgomlokpopaaDoorRows
import Derived.Test.YtolfgomlokpopaaDoorPf
import Derived.WalkKit
import Derived.ProofKit
import Derived.LaidMore
import Derived.OpenShut
import Derived.Lay
import Derived.Lib.LaidU8
import Derived.Stop.Joined
namespace Go.Proofs.YtolfgomlokpopaaDoor
open Go.RowKit Go.Lib Go.ChangeShapes Go.WideShapes Go.ChangeAt
theorem own : ownKnob Tryd.prog.godebug = none := by kernel_rfl
theorem laidOut : laidOutB Tryd.prog = true := by kernel_rfl
theorem layShaped (os : Os) (args : Array Value) : ((World.laidAll Tryd.prog os Rows.pitchNamesRow.laid).forCall (fun _ _ => 0) ⟨#[], args, []⟩).Shaped Tryd.prog := World.shaped_of_ZipB (by kernel_rfl) (by kernel_rfl)
theorem layMet (os : Os) (args : Array Value) : laidMetH Tryd.prog Rows.pitchNamesRow.laid ((World.laidAll Tryd.prog os Rows.pitchNamesRow.laid).forCall (fun _ _ => 0) ⟨#[], args, []⟩).memory := by
  rw [MakeChecks.laidMetH_plain _ _ _ (by kernel_rfl)]
  exact laidMet_laidAll _ (by kernel_rfl) (by kernel_rfl)
theorem layShapedF (os : Os) (args : Array Value) : ((World.laidAll Tryd.prog os Rows.pitchNumbersRow.laid).forCall (fun _ _ => 0) ⟨#[], args, []⟩).Shaped Tryd.prog := World.shaped_of_ZipB (by kernel_rfl) (by kernel_rfl)
theorem layMetF (os : Os) (args : Array Value) : laidMetH Tryd.prog Rows.pitchNumbersRow.laid ((World.laidAll Tryd.prog os Rows.pitchNumbersRow.laid).forCall (fun _ _ => 0) ⟨#[], args, []⟩).memory := by
  rw [MakeChecks.laidMetH_plain _ _ _ (by kernel_rfl)]
  exact laidMet_laidAll _ (by kernel_rfl) (by kernel_rfl)

theorem gPow : Tryd.prog.globalNamed "internal/strconv.uint64pow10" = some 4 := by kernel_rfl
theorem gPowT : (Tryd.prog.globals[4]?).map (·.type) = some 92 := by kernel_rfl
theorem c20 : Tryd.prog.cellsOf 92 = 20 := by kernel_rfl
theorem cU64 : Tryd.prog.cellsOf 85 = 1 := by kernel_rfl
theorem gNum : Tryd.prog.globalNamed "hemiola/pitch.numbers" = some 2 := by kernel_rfl
theorem gNumT : (Tryd.prog.globals[2]?).map (·.type) = some 54 := by kernel_rfl
theorem gPla : Tryd.prog.globalNamed "hemiola/pitch.places" = some 0 := by kernel_rfl
theorem gPlaT : (Tryd.prog.globals[0]?).map (·.type) = some 54 := by kernel_rfl
theorem c7 : Tryd.prog.cellsOf 54 = 7 := by kernel_rfl
theorem cInt : Tryd.prog.cellsOf 3 = 1 := by kernel_rfl
theorem gSig : Tryd.prog.globalNamed "hemiola/pitch.signs" = some 1 := by kernel_rfl
theorem gSigT : (Tryd.prog.globals[1]?).map (·.type) = some 61 := by kernel_rfl
theorem c5 : Tryd.prog.cellsOf 61 = 5 := by kernel_rfl
theorem cStr : Tryd.prog.cellsOf 9 = 1 := by kernel_rfl

theorem tab_of {W : World} (h : VarReads Tryd.prog W "internal/strconv.uint64pow10" Rows.laid_internal_strconv_uint64pow10) : Tab W := by
  obtain ⟨g, t, cs, fuel, p, hg, ht, hvar, hd⟩ := h
  obtain rfl := Option.some.inj (gPow.symm.trans hg)
  obtain rfl := Option.some.inj (gPowT.symm.trans ht)
  unfold Tab Lib.TabIs
  rw [hvar, ← Lib.cells_of_tab (k := .u64) (zs := Lib.pow10Tab) Tryd.underlying92 Tryd.underlying85 cU64 c20 hd]
theorem pt_of {W : World} (h : VarReads Tryd.prog W "hemiola/pitch.numbers" Rows.laid_hemiola_pitch_numbers) : PT W := by
  obtain ⟨g, t, cs, fuel, p, hg, ht, hvar, hd⟩ := h
  obtain rfl := Option.some.inj (gNum.symm.trans hg)
  obtain rfl := Option.some.inj (gNumT.symm.trans ht)
  have e := Lib.cells_of_tab (k := .i64) (zs := [0, 2, 4, 5, 7, 9, 11]) Tryd.underlying54 Tryd.underlying3 cInt c7 hd
  have f : ∀ i : Nat, W.cell? ⟨2, i, none⟩ = cs[i]? := fun i => by simpa using World.var?_cell gNum hvar i
  have f' : ∀ i : Nat, W.cell? ⟨2, i, none⟩ = (([0, 2, 4, 5, 7, 9, 11] : List Int).map fun z => Value.int .i64 z)[i]? := fun i => by rw [f i, ← e]; simp
  exact ⟨f' 0, f' 1, f' 2, f' 3, f' 4, f' 5, f' 6⟩
theorem pl_of {W : World} (h : VarReads Tryd.prog W "hemiola/pitch.places" Rows.laid_hemiola_pitch_places) : PL W := by
  obtain ⟨g, t, cs, fuel, p, hg, ht, hvar, hd⟩ := h
  obtain rfl := Option.some.inj (gPla.symm.trans hg)
  obtain rfl := Option.some.inj (gPlaT.symm.trans ht)
  have e := Lib.cells_of_tab (k := .i64) (zs := [0, 2, 4, -1, 1, 3, 5]) Tryd.underlying54 Tryd.underlying3 cInt c7 hd
  have f : ∀ i : Nat, W.cell? ⟨0, i, none⟩ = cs[i]? := fun i => by simpa using World.var?_cell gPla hvar i
  have f' : ∀ i : Nat, W.cell? ⟨0, i, none⟩ = (([0, 2, 4, -1, 1, 3, 5] : List Int).map fun z => Value.int .i64 z)[i]? := fun i => by rw [f i, ← e]; simp
  exact ⟨f' 0, f' 1, f' 2, f' 3, f' 4, f' 5, f' 6⟩
theorem str_of {cs : List Value} {s : List UInt8} {W : World} {m i : Nat} {p : List MemPlace} (h : DataW.trod (fun _ => ()) Tryd.prog W 0 (fun _ => true) false m 9 ((cs.drop i).take 1) = some (.lit (.string s), p)) : cs[i]? = some (.string ⟨⟨s⟩⟩) := by
  obtain ⟨x, e, e2, _⟩ := DataW.trod_string Tryd.underlying9 h
  simp only [Prod.mk.injEq, DataW.lit.injEq, Lit.string.injEq] at e2
  have : cs[i]? = some (.string x) := by
    have := congrArg (·[0]?) e
    simpa [List.getElem?_take, List.getElem?_drop] using this
  rw [this, e2.1]
theorem sig_of {W : World} (h : VarReads Tryd.prog W "hemiola/pitch.signs" Rows.laid_hemiola_pitch_signs) :
    W.cell? ⟨1, 0, none⟩ = some (.string ⟨#[98, 98]⟩) ∧ W.cell? ⟨1, 1, none⟩ = some (.string ⟨#[98]⟩) ∧ W.cell? ⟨1, 2, none⟩ = some (.string ⟨#[]⟩) ∧ W.cell? ⟨1, 3, none⟩ = some (.string ⟨#[35]⟩) ∧ W.cell? ⟨1, 4, none⟩ = some (.string ⟨#[35, 35]⟩) := by
  obtain ⟨g, t, cs, fuel, p, hg, ht, hvar, hd⟩ := h
  obtain rfl := Option.some.inj (gSig.symm.trans hg)
  obtain rfl := Option.some.inj (gSigT.symm.trans ht)
  have f : ∀ i : Nat, W.cell? ⟨1, i, none⟩ = cs.toList[i]? := fun i => by simpa using World.var?_cell gSig hvar i
  obtain ⟨xs, m, _, hx, _, hl, hel⟩ := DataW.trod_array Tryd.underlying61 hd
  match xs, hl with
  | [(a0, q0), (a1, q1), (a2, q2), (a3, q3), (a4, q4)], _ =>
    unfold Rows.laid_hemiola_pitch_signs at hx
    simp only [List.map_cons, List.map_nil, Prod.mk.injEq, DataW.agg.injEq, List.cons.injEq, and_true] at hx
    obtain ⟨⟨rfl, rfl, rfl, rfl, rfl⟩, _⟩ := hx
    rw [cStr] at hel
    rw [f 0, f 1, f 2, f 3, f 4]
    exact ⟨str_of (hel 0 (by omega)), str_of (hel 1 (by omega)), str_of (hel 2 (by omega)), str_of (hel 3 (by omega)), str_of (hel 4 (by omega))⟩
theorem pw_names {W : World} (h : laidMetH Tryd.prog Rows.pitchNamesRow.laid W) : PW W := by
  rw [MakeChecks.laidMetH_plain _ _ _ (by kernel_rfl)] at h
  obtain ⟨s0, s1, s2, s3, s4⟩ := sig_of (laidMet.reads h (by simp [Rows.pitchNamesRow]))
  exact ⟨pt_of (laidMet.reads h (by simp [Rows.pitchNamesRow])), tab_of (laidMet.reads h (by simp [Rows.pitchNamesRow])), s0, s1, s2, s3, s4⟩
theorem pw_numbers {W : World} (h : laidMetH Tryd.prog Rows.pitchNumbersRow.laid W) : PW W ∧ PL W := by
  rw [MakeChecks.laidMetH_plain _ _ _ (by kernel_rfl)] at h
  obtain ⟨s0, s1, s2, s3, s4⟩ := sig_of (laidMet.reads h (by simp [Rows.pitchNumbersRow]))
  exact ⟨⟨pt_of (laidMet.reads h (by simp [Rows.pitchNumbersRow])), tab_of (laidMet.reads h (by simp [Rows.pitchNumbersRow])), s0, s1, s2, s3, s4⟩, pl_of (laidMet.reads h (by simp [Rows.pitchNumbersRow]))⟩
end Go.Proofs.YtolfgomlokpopaaDoor
