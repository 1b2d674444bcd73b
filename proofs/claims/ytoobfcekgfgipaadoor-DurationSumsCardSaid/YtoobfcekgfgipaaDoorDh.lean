/- Note values: a list of two is searched once. -/
import Derived.Test.YtoobfcekgfgipaaDoorDg
import Derived.Deep.Cut
import Derived.Outline
namespace Go.Proofs.YtoobfcekgfgipaaDoor
open Go.RowKit
set_option linter.unusedVariables false
set_option linter.unusedSimpArgs false

theorem grown_set' (w : World) (b i : Nat) (u : Value) : w.grownBy (w.setCell ⟨b, i, none⟩ u) (some b) := by
  refine ⟨by first | rfl | simp [go_sem], by first | rfl | simp [go_sem], by first | rfl | simp [go_sem], by simp [go_sem], fun k hk hne => ?_⟩
  have h1 : b ≠ k := fun e => hne (by rw [e])
  simp [World.setCell, Array.getElem?_modify, h1]
set_option maxRecDepth 100000 in
set_option maxHeartbeats 4000000 in
theorem first_2m (mb : Nat) (w : World) (h : w.heap[mb]? = some (.map #[] 0)) :
    Calls Tryd.prog 32 #[.map (some mb), .agg #[.int .i64 2419200, .int .i64 2]] w fun e w' => e = .returned (.agg #[.int .i64 0, .int .i64 0, .bool true]) ∧ w'.heap[mb]? = some (.map #[⟨.agg #[.int .i64 2419200, .int .i64 2], .agg #[.int .i64 0, .int .i64 0, .bool true], 0⟩] 1) ∧ w.grownBy w' (some mb) := by
  have hmb : mb < w.heap.size := (Array.getElem?_eq_some_iff.1 h).1
  have hup : Below w.heap.size w ((w.alloc (.cells #[.int .i64 2419200, .int .i64 2] 63)).alloc (.cells #[.int .i64 0, .int .i64 0, .bool false] 60)) := ((Below.refl _ w).alloc (Nat.le_refl _) _).alloc (by simp) _
  have hlk := look0 _ mb 0 2419200 2 (map_below h hup)
  have B0 := Lib.hid ((((Bel.refl w).alloc (.cells #[.int .i64 2419200, .int .i64 2] 63)).alloc (.cells #[.int .i64 0, .int .i64 0, .bool false] 60)).alloc (.cells #[.int .i64 0, .int .i64 0, .bool false] 60))
  have R0 := Lib.hid ((Thr.new (w.alloc (.cells #[.int .i64 2419200, .int .i64 2] 63)) (.int .i64 0) (.int .i64 0) (.bool false) 60 (w.heap.size + 1) (by simp)).up ((Below.refl _ _).alloc (Nat.le_refl _) (.cells #[.int .i64 0, .int .i64 0, .bool false] 60)))
  have V0 := Lib.hid (Thr.new ((w.alloc (.cells #[.int .i64 2419200, .int .i64 2] 63)).alloc (.cells #[.int .i64 0, .int .i64 0, .bool false] 60)) (.int .i64 0) (.int .i64 0) (.bool false) 60 (w.heap.size + 1 + 1) (by simp))
  have L0 := Lib.hid ((((Duo.new w (.int .i64 2419200) (.int .i64 2) 63 w.heap.size rfl).alloc (.cells #[.int .i64 0, .int .i64 0, .bool false] 60)).alloc (.cells #[.int .i64 0, .int .i64 0, .bool false] 60)))
  have HM := Lib.hid h
  clear h hup
  go_enter Tryd.func32, Tryd.ntmps32
  go_wp2_with fail
  refine (search_2 mb _).mono ?_
  rintro e w4 ⟨rfl, hb⟩
  clear hlk
  have B4 := Lib.hid (B0.out.up hb)
  have R4 := Lib.hid (R0.out.up hb)
  have V4 := Lib.hid (V0.out.up hb)
  have L4 := Lib.hid (L0.out.up hb)
  clear hb B0 R0 V0 L0
  have n1 : w.heap.size ≠ w.heap.size + 1 + 1 := by omega
  have n2 : w.heap.size + 1 ≠ w.heap.size + 1 + 1 := by omega
  have n3 : w.heap.size + 1 + 1 ≠ w.heap.size := by omega
  have n4 : w.heap.size + 1 + 1 ≠ w.heap.size + 1 := by omega
  have B5 := Lib.hid (((B4.out.set (b := w.heap.size + 1 + 1) (by omega) 0 (.int .i64 0)).set (b := w.heap.size + 1 + 1) (by omega) 1 (.int .i64 0)).set (b := w.heap.size + 1 + 1) (by omega) 2 (.bool true))
  have V5 := Lib.hid (V4.out.put (x' := .int .i64 0) (y' := .int .i64 0) (z' := .bool true))
  have R5 := Lib.hid (Thr.grown (Thr.grown (Thr.grown R4.out (grown_set' _ (w.heap.size + 1 + 1) 0 (.int .i64 0)) (by simp)) (grown_set' _ (w.heap.size + 1 + 1) 1 (.int .i64 0)) (by simp)) (grown_set' _ (w.heap.size + 1 + 1) 2 (.bool true)) (by simp))
  obtain ⟨_, l0, l1, _, _⟩ := id L4.out
  obtain ⟨v0, v1, v2, v3, v4, v5⟩ := id V4.out
  go_upto_region 9 with (fail)
  have L5 : ∀ i v, w4.cell? ⟨w.heap.size, i, none⟩ = some v → (((w4.setCell ⟨w.heap.size + 1 + 1, 0, none⟩ (.int .i64 0)).setCell ⟨w.heap.size + 1 + 1, 1, none⟩ (.int .i64 0)).setCell ⟨w.heap.size + 1 + 1, 2, none⟩ (.bool true)).cell? ⟨w.heap.size, i, none⟩ = some v := fun i v hv => by simp [go_sem, hv]
  have l50 := L5 0 _ l0
  have l51 := L5 1 _ l1
  clear L5 l0 l1 v0 v1 v2 v3 v4 v5 B4 R4 V4 L4
  generalize (((w4.setCell ⟨w.heap.size + 1 + 1, 0, none⟩ (.int .i64 0)).setCell ⟨w.heap.size + 1 + 1, 1, none⟩ (.int .i64 0)).setCell ⟨w.heap.size + 1 + 1, 2, none⟩ (.bool true)) = W5 at *
  have hm5 : W5.heap[mb]? = some (.map #[] 0) := (B5.out.out.block mb hmb).trans HM.out
  have hup5 := upd0 W5 mb 0 2419200 2 (.agg #[.int .i64 0, .int .i64 0, .bool true]) hm5
  have hg6 := mput_grown W5 mb (.map #[⟨.agg #[.int .i64 2419200, .int .i64 2], .agg #[.int .i64 0, .int .i64 0, .bool true], 0⟩] (0 + 1))
  have hm6 := mput_same (o := .map #[⟨.agg #[.int .i64 2419200, .int .i64 2], .agg #[.int .i64 0, .int .i64 0, .bool true], 0⟩] (0 + 1)) hm5
  have V6 := Lib.hid (V5.out.grown hg6 (by simp; omega))
  have R6 := Lib.hid (R5.out.grown hg6 (by simp; omega))
  have HM6 := Lib.hid hm6
  have HG6 := Lib.hid hg6
  obtain ⟨v0, v1, v2, v3, v4, v5⟩ := id V5.out
  clear hm5 hg6 hm6 V5 R5
  simp only [Nat.zero_add] at *
  go_upto_region 10 with (fail)
  generalize (mput W5 mb (.map #[⟨.agg #[.int .i64 2419200, .int .i64 2], .agg #[.int .i64 0, .int .i64 0, .bool true], 0⟩] 1)) = W6 at *
  clear hup5 l50 l51 v0 v1 v2 v3 v4 v5
  obtain ⟨v0, v1, v2, v3, v4, v5⟩ := id V6.out
  obtain ⟨r0, r1, r2, r3, r4, r5⟩ := id R6.out
  have R7 := Lib.hid (R6.out.put (x' := .int .i64 0) (y' := .int .i64 0) (z' := .bool true))
  have hb7 : Below w.heap.size W6 (((W6.setCell ⟨w.heap.size + 1, 0, none⟩ (.int .i64 0)).setCell ⟨w.heap.size + 1, 1, none⟩ (.int .i64 0)).setCell ⟨w.heap.size + 1, 2, none⟩ (.bool true)) := (((Below.refl _ W6).setCell (by simp) _).setCell (by simp) _).setCell (by simp) _
  have HB7 := Lib.hid hb7
  clear hb7
  go_wp2_with fail
  have g5 := B5.out.out
  have g6 := HG6.out
  have g7 := HB7.out
  refine bodyPost_ret (v := .agg #[.int .i64 0, .int .i64 0, .bool true]) (by simp [results, Tryd.results32, go_sem, R7.out.c0, R7.out.c1, R7.out.c2]) rfl ⟨rfl, (g7.block mb hmb).trans HM6.out, ?_⟩
  exact ⟨g7.os.trans (g6.os.trans g5.os), g7.tape.trans (g6.tape.trans g5.tape), g7.output.trans (g6.output.trans g5.output), Nat.le_trans g5.size (Nat.le_trans g6.size g7.size), fun k hk hne => (g7.block k hk).trans ((g6.block k (Nat.lt_of_lt_of_le hk g5.size) hne).trans (g5.block k hk))⟩
end Go.Proofs.YtoobfcekgfgipaaDoor
