/- Clefs: what the listed variables hold; the witness's world lays them all. -/
import Derived.Test.YtmdnlnjapkcanaaDoorRows
import Derived.Test.YtmdnlnjapkcanaaDoorCd
import Derived.WalkKit
import Derived.ProofKit
import Derived.LaidMore
import Derived.OpenShut
import Derived.Lay
import Derived.Lib.LaidU8
import Derived.Stop.Joined
namespace Go.Proofs.YtmdnlnjapkcanaaDoor
open Go.RowKit Go.Lib Go.ChangeShapes Go.WideShapes Go.ChangeAt
theorem own : ownKnob Tryd.prog.godebug = none := by kernel_rfl
theorem laidOut : laidOutB Tryd.prog = true := by kernel_rfl
theorem layShaped (os : Os) (args : Array Value) : ((World.laidAll Tryd.prog os Rows.clefPositionsRow.laid).forCall (fun _ _ => 0) ⟨#[], args, []⟩).Shaped Tryd.prog := World.shaped_of_ZipB (by kernel_rfl) (by kernel_rfl)
theorem layMet (os : Os) (args : Array Value) : laidMetH Tryd.prog Rows.clefPositionsRow.laid ((World.laidAll Tryd.prog os Rows.clefPositionsRow.laid).forCall (fun _ _ => 0) ⟨#[], args, []⟩).memory := by
  rw [MakeChecks.laidMetH_plain _ _ _ (by kernel_rfl)]
  exact laidMet_laidAll _ (by kernel_rfl) (by kernel_rfl)
theorem c7 : Tryd.prog.cellsOf 74 = 7 := by kernel_rfl
theorem cInt : Tryd.prog.cellsOf 3 = 1 := by kernel_rfl
theorem cStr : Tryd.prog.cellsOf 9 = 1 := by kernel_rfl
theorem gShp : Tryd.prog.globalNamed "hemiola/key.sharps" = some 1 := by kernel_rfl
theorem gShpT : (Tryd.prog.globals[1]?).map (·.type) = some 74 := by kernel_rfl
theorem cU8 : Tryd.prog.cellsOf 5 = 1 := by kernel_rfl
theorem cSgn : Tryd.prog.cellsOf 64 = 7 := by kernel_rfl
theorem gNum : Tryd.prog.globalNamed "hemiola/pitch.numbers" = some 2 := by kernel_rfl
theorem gNumT : (Tryd.prog.globals[2]?).map (·.type) = some 74 := by kernel_rfl
theorem gCs : Tryd.prog.globalNamed "hemiola/clef.signs" = some 0 := by kernel_rfl
theorem gCsT : (Tryd.prog.globals[0]?).map (·.type) = some 65 := by kernel_rfl
theorem shp_of {W : World} (h : VarReads Tryd.prog W "hemiola/key.sharps" Rows.laid_hemiola_key_sharps) : ∀ i : Nat, W.cell? ⟨1, i, none⟩ = (([3, 0, 4, 1, 5, 2, 6] : List Int).map fun z => Value.int .i64 z)[i]? := by
  obtain ⟨g, t, cs, fuel, p, hg, ht, hvar, hd⟩ := h
  obtain rfl := Option.some.inj (gShp.symm.trans hg)
  obtain rfl := Option.some.inj (gShpT.symm.trans ht)
  have e := Lib.cells_of_tab (k := .i64) (zs := [3, 0, 4, 1, 5, 2, 6]) Tryd.underlying74 Tryd.underlying3 cInt c7 hd
  have f : ∀ i : Nat, W.cell? ⟨1, i, none⟩ = cs[i]? := fun i => by simpa using World.var?_cell gShp hvar i
  exact fun i => by rw [f i, ← e]; simp
theorem num_of {W : World} (h : VarReads Tryd.prog W "hemiola/pitch.numbers" Rows.laid_hemiola_pitch_numbers) : ∀ i : Nat, W.cell? ⟨2, i, none⟩ = (([0, 2, 4, 5, 7, 9, 11] : List Int).map fun z => Value.int .i64 z)[i]? := by
  obtain ⟨g, t, cs, fuel, p, hg, ht, hvar, hd⟩ := h
  obtain rfl := Option.some.inj (gNum.symm.trans hg)
  obtain rfl := Option.some.inj (gNumT.symm.trans ht)
  have e := Lib.cells_of_tab (k := .i64) (zs := [0, 2, 4, 5, 7, 9, 11]) Tryd.underlying74 Tryd.underlying3 cInt c7 hd
  have f : ∀ i : Nat, W.cell? ⟨2, i, none⟩ = cs[i]? := fun i => by simpa using World.var?_cell gNum hvar i
  exact fun i => by rw [f i, ← e]; simp
theorem at_one {cs : List Value} {i : Nat} {x : Value} (e : (cs.drop i).take 1 = [x]) : cs[i]? = some x := by
  have := congrArg (·[0]?) e
  simpa [List.getElem?_take, List.getElem?_drop] using this
theorem str_at {t : TypeId} {cs : List Value} {s : List UInt8} {W : World} {m i : Nat} {p : List MemPlace} (ht : Tryd.prog.underlying t = some .string) (hc : Tryd.prog.cellsOf t = 1) (h : DataW.trod (fun _ => ()) Tryd.prog W 0 (fun _ => true) false m t ((cs.drop i).take (Tryd.prog.cellsOf t)) = some (.lit (.string s), p)) : cs[i]? = some (.string ⟨⟨s⟩⟩) := by
  rw [hc] at h
  obtain ⟨x, e, e2, _⟩ := DataW.trod_string ht h
  simp only [Prod.mk.injEq, DataW.lit.injEq, Lit.string.injEq] at e2
  rw [at_one e, e2.1]
theorem int_at {t : TypeId} {k : IntKind} {cs : List Value} {n : Int} {W : World} {m i : Nat} {p : List MemPlace} (ht : Tryd.prog.underlying t = some (.int k)) (hc : Tryd.prog.cellsOf t = 1) (h : DataW.trod (fun _ => ()) Tryd.prog W 0 (fun _ => true) false m t ((cs.drop i).take (Tryd.prog.cellsOf t)) = some (.lit (.int k n), p)) : cs[i]? = some (.int k n) := by
  rw [hc] at h
  obtain ⟨x, e, e2, _⟩ := DataW.trod_int ht h
  simp only [Prod.mk.injEq, DataW.lit.injEq, Lit.int.injEq, true_and] at e2
  rw [at_one e, e2.1]
theorem row7 {cs : List Value} {s : List UInt8} {a b c d e f : Int} {W : World} {m : Nat} {p : List MemPlace} (h : DataW.trod (fun _ => ()) Tryd.prog W 0 (fun _ => true) false m 64 cs = some (.agg [.lit (.string s), .lit (.int .u8 a), .lit (.int .i64 b), .lit (.int .i64 c), .lit (.int .i64 d), .lit (.int .i64 e), .lit (.int .i64 f)], p)) :
    ∀ (j : Nat) (v : Value), [Value.string ⟨⟨s⟩⟩, .int .u8 a, .int .i64 b, .int .i64 c, .int .i64 d, .int .i64 e, .int .i64 f][j]? = some v → cs[j]? = some v := by
  obtain ⟨xs, n, _, hx, _, hl, hel⟩ := DataW.trod_struct Tryd.underlying64 h
  match xs, hl with
  | [(x0, p0), (x1, p1), (x2, p2), (x3, p3), (x4, p4), (x5, p5), (x6, p6)], _ =>
    simp only [List.map_cons, List.map_nil, Prod.mk.injEq, DataW.agg.injEq, List.cons.injEq, and_true] at hx
    obtain ⟨⟨rfl, rfl, rfl, rfl, rfl, rfl, rfl⟩, _⟩ := hx
    have h0 := str_at (cs := cs) Tryd.underlying9 cStr (hel 0 _ rfl)
    have h1 := int_at (cs := cs) Tryd.underlying5 cU8 (hel 1 _ rfl)
    have h2 := int_at (cs := cs) Tryd.underlying3 cInt (hel 2 _ rfl)
    have h3 := int_at (cs := cs) Tryd.underlying3 cInt (hel 3 _ rfl)
    have h4 := int_at (cs := cs) Tryd.underlying3 cInt (hel 4 _ rfl)
    have h5 := int_at (cs := cs) Tryd.underlying3 cInt (hel 5 _ rfl)
    have h6 := int_at (cs := cs) Tryd.underlying3 cInt (hel 6 _ rfl)
    intro j v hv
    match j, hv with
    | 0, hv => cases hv; exact h0
    | 1, hv => cases hv; exact h1
    | 2, hv => cases hv; exact h2
    | 3, hv => cases hv; exact h3
    | 4, hv => cases hv; exact h4
    | 5, hv => cases hv; exact h5
    | 6, hv => cases hv; exact h6
    | j + 7, hv => simp at hv
theorem sgn_of {W : World} (h : VarReads Tryd.prog W "hemiola/clef.signs" Rows.laid_hemiola_clef_signs) : Tab W 0 := by
  obtain ⟨g, t, cs, fuel, p, hg, ht, hvar, hd⟩ := h
  obtain rfl := Option.some.inj (gCs.symm.trans hg)
  obtain rfl := Option.some.inj (gCsT.symm.trans ht)
  have f : ∀ i : Nat, W.cell? ⟨0, i, none⟩ = cs.toList[i]? := fun i => by simpa using World.var?_cell gCs hvar i
  obtain ⟨xs, m, _, hx, _, hl, hel⟩ := DataW.trod_array Tryd.underlying65 hd
  rw [cSgn] at hel
  have H : ∀ k : Nat, k < 9 → ∀ (j : Nat) (v : Value), ((tabV.drop (7 * k)).take 7)[j]? = some v → ((cs.toList.drop (k * 7)).take 7)[j]? = some v := by
    match xs, hl with
    | [(a0, q0), (a1, q1), (a2, q2), (a3, q3), (a4, q4), (a5, q5), (a6, q6), (a7, q7), (a8, q8)], _ =>
      unfold Rows.laid_hemiola_clef_signs at hx
      simp only [List.map_cons, List.map_nil, Prod.mk.injEq, DataW.agg.injEq, List.cons.injEq, and_true] at hx
      obtain ⟨⟨rfl, rfl, rfl, rfl, rfl, rfl, rfl, rfl, rfl⟩, _⟩ := hx
      intro k hk
      match k, hk with
      | 0, _ => exact row7 (hel 0 (by omega))
      | 1, _ => exact row7 (hel 1 (by omega))
      | 2, _ => exact row7 (hel 2 (by omega))
      | 3, _ => exact row7 (hel 3 (by omega))
      | 4, _ => exact row7 (hel 4 (by omega))
      | 5, _ => exact row7 (hel 5 (by omega))
      | 6, _ => exact row7 (hel 6 (by omega))
      | 7, _ => exact row7 (hel 7 (by omega))
      | 8, _ => exact row7 (hel 8 (by omega))
  intro i v hv
  rw [f i]
  have hi : i < 63 := (List.getElem?_eq_some_iff.1 hv).1
  have h1 := H (i / 7) (by omega) (i % 7) v (by
    rw [List.getElem?_take, if_pos (by omega), List.getElem?_drop, show 7 * (i / 7) + i % 7 = i by omega]
    exact hv)
  rw [List.getElem?_take, if_pos (by omega), List.getElem?_drop, show i / 7 * 7 + i % 7 = i by omega] at h1
  exact h1
theorem pw_clef {W : World} (h : laidMetH Tryd.prog Rows.clefPositionsRow.laid W) : CW W := by
  rw [MakeChecks.laidMetH_plain _ _ _ (by kernel_rfl)] at h
  have f := shp_of (laidMet.reads h (by simp [Rows.clefPositionsRow]))
  have n := num_of (laidMet.reads h (by simp [Rows.clefPositionsRow]))
  have c := sgn_of (laidMet.reads h (by simp [Rows.clefPositionsRow]))
  exact ⟨⟨n 0, n 1, n 2, n 3, n 4, n 5, n 6⟩, ⟨f 0, f 1, f 2, f 3, f 4, f 5, f 6⟩, c⟩
end Go.Proofs.YtmdnlnjapkcanaaDoor
