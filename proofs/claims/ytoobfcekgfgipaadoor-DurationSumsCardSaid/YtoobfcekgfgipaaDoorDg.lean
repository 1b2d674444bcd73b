/- Note values: the map of beginnings. -/
import Derived.Test.YtoobfcekgfgipaaDoorDf
import Derived.MapKept
import Derived.Outline
namespace Go.Proofs.YtoobfcekgfgipaaDoor
open Go.RowKit
set_option linter.unusedVariables false
set_option linter.unusedSimpArgs false

/-- a block replaced -/
def mput (W : World) (b : Nat) (o : Obj) : World := { W with heap := W.heap.setIfInBounds b o }
theorem mput_grown (W : World) (b : Nat) (o : Obj) : W.grownBy (mput W b o) (some b) := by
  refine ⟨rfl, rfl, rfl, by simp [mput], fun k hk hne => ?_⟩
  have h1 : b ≠ k := fun e => hne (by rw [e])
  simp [mput, Array.getElem?_setIfInBounds_ne h1]
theorem mput_same {W : World} {b : Nat} {o o' : Obj} (h : W.heap[b]? = some o') : (mput W b o).heap[b]? = some o := by
  have := (Array.getElem?_eq_some_iff.1 h).1
  simp [mput, this]
theorem look0 (W : World) (mb c : Nat) (x y : Int) (h : W.heap[mb]? = some (.map #[] c)) :
    (Instr.lookup 58 (.map (some mb)) (.agg #[.int .i64 x, .int .i64 y]) true).run Tryd.prog W = .ok (.tuple #[.agg #[.int .i64 0, .int .i64 0, .bool false], .bool false]) W := by
  have hck : (Instr.checkKey true 10000 63 (.agg #[.int .i64 x, .int .i64 y])).run Tryd.prog W = .ok () W := by kernel_rfl
  have hfk : (Instr.findKey 63 (.agg #[.int .i64 x, .int .i64 y]) []).run Tryd.prog W = .ok none W := by kernel_rfl
  have hz : (zeroValue 60).run Tryd.prog W = .ok (.agg #[.int .i64 0, .int .i64 0, .bool false]) W := by kernel_rfl
  simp [Instr.lookup, run_underlying Tryd.underlying58, MapKept.run_getObj_map h, hck, hfk, hz, Result.andThen]
theorem look1 (W : World) (mb c n : Nat) (v : Value) (h : W.heap[mb]? = some (.map #[⟨.agg #[.int .i64 2419200, .int .i64 2], v, n⟩] c)) :
    (Instr.lookup 58 (.map (some mb)) (.agg #[.int .i64 2419200, .int .i64 2]) true).run Tryd.prog W = .ok (.tuple #[v, .bool true]) W := by
  have hck : (Instr.checkKey false 10000 63 (.agg #[.int .i64 2419200, .int .i64 2])).run Tryd.prog W = .ok () W := by kernel_rfl
  have hfk : (Instr.findKey 63 (.agg #[.int .i64 2419200, .int .i64 2]) [⟨.agg #[.int .i64 2419200, .int .i64 2], v, n⟩]).run Tryd.prog W = .ok (some (0, v)) W := by kernel_rfl
  simp [Instr.lookup, run_underlying Tryd.underlying58, MapKept.run_getObj_map h, hck, hfk, Result.andThen]
theorem upd0 (W : World) (mb c : Nat) (x y : Int) (v : Value) (h : W.heap[mb]? = some (.map #[] c)) :
    (Instr.mapUpdate 58 (.map (some mb)) (.agg #[.int .i64 x, .int .i64 y]) v).run Tryd.prog W = .ok () (mput W mb (.map #[⟨.agg #[.int .i64 x, .int .i64 y], v, c⟩] (c + 1))) := by
  have hck : (Instr.checkKey false 10000 63 (.agg #[.int .i64 x, .int .i64 y])).run Tryd.prog W = .ok () W := by kernel_rfl
  have hfk : (Instr.findKey 63 (.agg #[.int .i64 x, .int .i64 y]) []).run Tryd.prog W = .ok none W := by kernel_rfl
  simp [Instr.mapUpdate, run_underlying Tryd.underlying58, MapKept.run_getObj_map h, hck, hfk, MapKept.run_setObj_map _ h, Result.andThen, mput]
theorem Thr.grown {W W' : World} {b : Nat} {x y z : Value} {row : Option Nat} (h : Thr W b x y z) (hg : W.grownBy W' row) (hne : some b ≠ row) : Thr W' b x y z := by
  obtain ⟨h0, h1, h2, h3, h4, h5⟩ := h
  have hb := hg.block b (lt_of_cell h0) hne
  have kc : ∀ (i : Nat) (v : Value), W.cell? ⟨b, i, none⟩ = some v → W'.cell? ⟨b, i, none⟩ = some v := fun i v hv => (World.cell?_of_block (a := ⟨b, i, none⟩) hb).trans hv
  have kf : ∀ (i : Nat), W.frozen? ⟨b, i, none⟩ = false → W'.frozen? ⟨b, i, none⟩ = false := fun i hv => (World.frozen?_of_block (a := ⟨b, i, none⟩) hb).trans hv
  exact ⟨kc _ _ h0, kc _ _ h1, kc _ _ h2, kf _ h3, kf _ h4, kf _ h5⟩
theorem map_below {W W' : World} {mb : Nat} {o : Obj} (h : W.heap[mb]? = some o) (hb : Below W.heap.size W W') : W'.heap[mb]? = some o := (hb.block mb (Array.getElem?_eq_some_iff.1 h).1).trans h
def K22 : Value := .agg #[.int .i64 2419200, .int .i64 2]
def V22 : Value := .agg #[.int .i64 0, .int .i64 0, .bool true]
set_option maxRecDepth 100000 in
set_option maxHeartbeats 4000000 in
theorem first_2h (mb : Nat) (w : World) (h : w.heap[mb]? = some (.map #[⟨.agg #[.int .i64 2419200, .int .i64 2], .agg #[.int .i64 0, .int .i64 0, .bool true], 0⟩] 1)) :
    Calls Tryd.prog 32 #[.map (some mb), .agg #[.int .i64 2419200, .int .i64 2]] w fun e w' => e = .returned (.agg #[.int .i64 0, .int .i64 0, .bool true]) ∧ Below w.heap.size w w' := by
  have hup : Below w.heap.size w ((w.alloc (.cells #[.int .i64 2419200, .int .i64 2] 63)).alloc (.cells #[.int .i64 0, .int .i64 0, .bool false] 60)) := ((Below.refl _ w).alloc (Nat.le_refl _) _).alloc (by simp) _
  have hlk := look1 _ mb 1 0 _ (map_below h hup)
  have B0 := Lib.hid ((((Bel.refl w).alloc (.cells #[.int .i64 2419200, .int .i64 2] 63)).alloc (.cells #[.int .i64 0, .int .i64 0, .bool true] 60)).alloc (.cells #[.int .i64 0, .int .i64 0, .bool true] 60))
  go_enter Tryd.func32, Tryd.ntmps32
  go_wp2_with fail
  exact bodyPost_ret (v := .agg #[.int .i64 0, .int .i64 0, .bool true]) (by simp [results, Tryd.results32, go_sem]) rfl ⟨rfl, B0.out.out⟩
end Go.Proofs.YtoobfcekgfgipaaDoor
