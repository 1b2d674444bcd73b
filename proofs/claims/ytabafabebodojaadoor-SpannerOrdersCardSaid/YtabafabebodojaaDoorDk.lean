/- Spans: what the listed variable holds; the witness's world lays it. -/
import Derived.Test.YtabafabebodojaaDoorRows
import Derived.Test.YtabafabebodojaaDoorTa
import Derived.WalkKit
import Derived.ProofKit
import Derived.LaidMore
import Derived.OpenShut
import Derived.Lay
import Derived.Lib.LaidU8
import Derived.Stop.Joined
namespace Go.Proofs.YtabafabebodojaaDoor
open Go.RowKit Go.Lib Go.ChangeShapes Go.WideShapes Go.ChangeAt
set_option linter.unusedVariables false
set_option linter.unusedSimpArgs false

theorem own : ownKnob Tryd.prog.godebug = none := by kernel_rfl
theorem laidOut : laidOutB Tryd.prog = true := by kernel_rfl
theorem layShaped (os : Os) (args : Array Value) : ((World.laidAll Tryd.prog os Rows.spannerNamesRow.laid).forCall (fun _ _ => 0) ⟨#[], args, []⟩).Shaped Tryd.prog := World.shaped_of_ZipB (by kernel_rfl) (by kernel_rfl)
theorem layMet (os : Os) (args : Array Value) : laidMetH Tryd.prog Rows.spannerNamesRow.laid ((World.laidAll Tryd.prog os Rows.spannerNamesRow.laid).forCall (fun _ _ => 0) ⟨#[], args, []⟩).memory := by
  rw [MakeChecks.laidMetH_plain _ _ _ (by kernel_rfl)]
  exact laidMet_laidAll _ (by kernel_rfl) (by kernel_rfl)
theorem c7 : Tryd.prog.cellsOf 95 = 7 := by kernel_rfl
theorem cStr : Tryd.prog.cellsOf 9 = 1 := by kernel_rfl
theorem gTxt : Tryd.prog.globalNamed "hemiola/spanner.names" = some 0 := by kernel_rfl
theorem gTxtT : (Tryd.prog.globals[0]?).map (·.type) = some 95 := by kernel_rfl
/-- the names -/
def txtL : List (List UInt8) := [[115, 108, 117, 114], [99, 114, 101, 115, 99, 101, 110, 100, 111], [100, 105, 109, 105, 110, 117, 101, 110, 100, 111], [56, 118, 97], [56, 118, 98], [112, 101, 100, 97, 108], [116, 114, 105, 108, 108]]
theorem cells_of_strs {H : Type} {enc : TypeId × Value → H} {P : Program} {w : World} {base : Nat} {sp : Nat → Bool} {held : Bool} {fuel : Nat} {t e : TypeId} {n : Nat} {cs : List Value} {zs : List (List UInt8)} {p : List MemPlace}
    (ht : P.underlying t = some (.array n e)) (he : P.underlying e = some .string) (hce : P.cellsOf e = 1) (hct : P.cellsOf t = n)
    (h : DataW.trod enc P w base sp held fuel t cs = some (.agg (zs.map fun z => .lit (.string z)), p)) : cs = zs.map fun z => Value.string ⟨z.toArray⟩ := by
  cases fuel with
  | zero => simp [DataW.trod] at h
  | succ fuel =>
    simp only [DataW.trod, ht, hce, hct, Nat.mul_one] at h
    split at h
    · rename_i hl
      obtain ⟨xs, hm, hx⟩ := Option.map_eq_some_iff.1 h
      have hxs : xs.map (·.1) = zs.map fun z => (DataW.lit (.string z) : DataW H) := by
        have := congrArg Prod.fst hx
        simpa using this
      have hxl : xs.length = n := by simpa using Lib.mapM_length hm
      have hzl : zs.length = n := by
        have := congrArg List.length hxs
        simp at this
        omega
      apply List.ext_getElem?
      intro i
      by_cases hi : i < n
      · obtain ⟨b, hb, hf⟩ := Lib.mapM_at hm i i (by simp [hi])
        obtain ⟨z, hc, rfl, _⟩ := DataW.trod_string he hf
        have h1 : cs[i]? = some (.string z) := by
          have := congrArg (·[0]?) hc
          simpa [List.getElem?_take, List.getElem?_drop] using this
        have h2 : (xs.map (·.1))[i]? = some (DataW.lit (.string z.data.toList) : DataW H) := by simp [hb]
        rw [hxs] at h2
        simp only [List.getElem?_map, Option.map_eq_some_iff, DataW.lit.injEq, Lit.string.injEq] at h2
        obtain ⟨z', hz', rfl⟩ := h2
        simp [h1, hz']
      · rw [List.getElem?_eq_none (by omega), List.getElem?_eq_none (by simp; omega)]
    · cases h
theorem txt_of {W : World} (h : VarReads Tryd.prog W "hemiola/spanner.names" Rows.laid_hemiola_spanner_names) : ∀ i : Nat, W.cell? ⟨0, i, none⟩ = (txtL.map fun z => Value.string ⟨z.toArray⟩)[i]? := by
  obtain ⟨g, t, cs, fuel, p, hg, ht, hvar, hd⟩ := h
  obtain rfl := Option.some.inj (gTxt.symm.trans hg)
  obtain rfl := Option.some.inj (gTxtT.symm.trans ht)
  have e := cells_of_strs (zs := txtL) Tryd.underlying95 Tryd.underlying9 cStr c7 hd
  have f : ∀ i : Nat, W.cell? ⟨0, i, none⟩ = cs[i]? := fun i => by simpa using World.var?_cell gTxt hvar i
  exact fun i => by rw [f i, ← e]; simp
/-- the texts lie in the package's variable -/
structure KT (w : World) : Prop where
  t4 : w.cell? ⟨0, 3, none⟩ = some (.string ⟨#[56, 118, 97]⟩)
  all : ∀ i : Nat, i < 7 → w.cell? ⟨0, i, none⟩ = (txtL.map fun z => Value.string ⟨z.toArray⟩)[i]?
theorem txt_some (i : Nat) (hi : i < 7) : ∃ v, (txtL.map fun z => Value.string ⟨z.toArray⟩)[i]? = some v := ⟨_, List.getElem?_eq_getElem (by simpa [txtL] using hi)⟩
theorem KT.below {w w' : World} (h : KT w) (hb : Below w.heap.size w w') : KT w' := ⟨cell_up hb h.t4, fun i hi => by
  obtain ⟨v, hv⟩ := txt_some i hi
  have := h.all i hi
  rw [hv] at this ⊢
  exact cell_up hb this⟩
theorem pw_key {W : World} (h : laidMetH Tryd.prog Rows.spannerNamesRow.laid W) : KT W := by
  rw [MakeChecks.laidMetH_plain _ _ _ (by kernel_rfl)] at h
  have f := txt_of (laidMet.reads h (by simp [Rows.spannerNamesRow]))
  exact ⟨f 3, fun i _ => f i⟩
end Go.Proofs.YtabafabebodojaaDoor
