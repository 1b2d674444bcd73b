/- Pitches: slices.Backward over the five alterations; all pitches with a number. -/
import Derived.RangeFuncNested
import Derived.RangeFuncBound
import Derived.RangeFuncCalls
import Derived.RangeFuncLeaves
import Derived.RangeFuncBox
import Derived.Shelf.Abstract
import Derived.Shelf.RegionOpen
import Derived.OwnWalkIn
import Derived.TacticsInMore
import Derived.LoopNIn
import Derived.LoopIn
import Derived.Maps.AppendAt
import Derived.Outline
import Derived.Test.YtfbogakmhaiddaaDoorPb
namespace Go.Proofs.YtfbogakmhaiddaaDoor
open Go.RowKit Go.Shelf
set_option linter.unusedVariables false
set_option linter.unusedSimpArgs false
attribute [local go_sem] Oper.semAt_some

set_option maxHeartbeats 1000000 in
theorem backward_in (F : Fence) (n : Nat) (hf : F.fn 71) (hro : F.round = none) (a : Option Addr) (len cap : Nat) (w : World) :
    CallsIn F n Tryd.prog 71 #[.slice a len cap] w fun e w' => e = .returned (.func (.func 80) #[] #[.pointer (some ⟨w.heap.size, 0, none⟩)]) ∧ w' = w.alloc (.cells #[.slice a len cap] 85) := by
  refine callsIn_of_wp Tryd.func71 rfl hf ?_ hro
  simp only [Tryd.ntmps71, List.size_toArray, List.length_cons, List.length_nil, Nat.reduceAdd, Nat.reduceSub, Array.replicate_succ, Array.replicate_zero, List.push_toArray, List.append_toArray, List.nil_append, List.cons_append]
  gi_wp2
  go_ret
  exact ⟨rfl, rfl⟩

/-- what the blocks below M hold, but block B, stays as it is -/
def KeepM (M B : Nat) (W W' : World) : Prop := ∀ (k : Nat) (o : Obj), k < M → k ≠ B → W.heap[k]? = some o → o.isCells = true → W'.heap[k]? = some o
theorem KeepM.refl (M B : Nat) (W : World) : KeepM M B W W := fun _ _ _ _ h _ => h
theorem KeepM.trans {M B : Nat} {X Y Z : World} (h : KeepM M B X Y) (k : KeepM M B Y Z) : KeepM M B X Z := fun i o hi hb ho hc => k i o hi hb (h i o hi hb ho hc) hc
theorem KeepM.put {M B : Nat} (W : World) (l : Nat) (o o' : Obj) (h : W.heap[l]? = some o) (hc : o.isCells = false) : KeepM M B W (W.putObj l o') := by
  intro k p hk hb hp hpc
  have g := grownBy_putObj' W l o'
  have hlt := (Array.getElem?_eq_some_iff.1 hp).1
  rw [g.block k hlt (fun e => by cases e; rw [h] at hp; cases hp; rw [hc] at hpc; cases hpc)]
  exact hp
theorem KeepM.grown {M B : Nat} {W W' : World} {row : Option Nat} (hg : W.grownBy W' row) (hr : ∀ r, row = some r → M ≤ r ∨ r = B) : KeepM M B W W' := by
  intro k p hk hb hp _
  have hlt := (Array.getElem?_eq_some_iff.1 hp).1
  rw [hg.block k hlt (fun e => by rcases hr k e.symm with h | h <;> omega)]
  exact hp
theorem KeepM.below {M B : Nat} {W W' : World} (h : Below W.heap.size W W') : KeepM M B W W' := by
  intro k p hk hb hp _
  have hlt := (Array.getElem?_eq_some_iff.1 hp).1
  rw [h.block k hlt]
  exact hp
theorem KeepM.cell {M B : Nat} {W W' : World} (h : KeepM M B W W') {b o : Nat} {v : Value} (hb : b < M) (hB : b ≠ B) (hc : W.cell? ⟨b, o, none⟩ = some v) (hh : ∃ cs t m, W.heap[b]? = some (.cells cs t m)) : W'.cell? ⟨b, o, none⟩ = some v := by
  obtain ⟨cs, t, m, hh⟩ := hh
  exact (World.cell?_of_block (a := ⟨b, o, none⟩) ((h b _ hb hB hh rfl).trans hh.symm)).trans hc

/-- the first k rounds -/
def upF (k : Nat) : List (Fin 5) := (List.finRange 5).take k
def encF (x : Fin 5) : Array Value := match x.val with
  | 0 => #[.int .i64 4, .int .i64 2]
  | 1 => #[.int .i64 3, .int .i64 1]
  | 2 => #[.int .i64 2, .int .i64 0]
  | 3 => #[.int .i64 1, .int .i64 (-1)]
  | _ => #[.int .i64 0, .int .i64 (-2)]
/-- the index and the alteration of a round -/
def idF (x : Fin 5) : Int := 4 - (x.val : Int)
def alF (x : Fin 5) : Int := 2 - (x.val : Int)
theorem encF_eq (x : Fin 5) : encF x = #[.int .i64 (idF x), .int .i64 (alF x)] := by
  match x with
  | ⟨0, _⟩ => rfl
  | ⟨1, _⟩ => rfl
  | ⟨2, _⟩ => rfl
  | ⟨3, _⟩ => rfl
  | ⟨4, _⟩ => rfl
theorem alF_bd (x : Fin 5) : -2 ≤ alF x ∧ alF x ≤ 2 := by unfold alF; have := x.isLt; omega
theorem upF_succ {k : Nat} (h : k < 5) : upF (k + 1) = upF k ++ [⟨k, h⟩] := by
  unfold upF
  rw [List.take_succ_eq_append_getElem (by simpa using h)]
  simp
theorem upF_len {k : Nat} (h : k ≤ 5) : (upF k).length = k := by
  unfold upF; rw [List.length_take]; simp; omega
/-- the index behind k rounds -/
def ivF (k : Nat) : Int := match k with | 0 => 4 | 1 => 3 | 2 => 2 | 3 => 1 | 4 => 0 | _ => -1

set_option maxRecDepth 100000 in
set_option maxHeartbeats 4000000 in
theorem backward1_in (F : Fence) (n : Nat) (hf : F.fn 80) (hro : F.round = none) (hn : 1 ≤ n) (l bx b M B : Nat) (hbx : bx < M ∧ bx ≠ B) (hb : b < M ∧ b ≠ B) (J Jx : List (Fin 5) → World → Prop)
    (hY : ∀ pre x W, J pre W → pre.length < 5 → YieldAt F (n - 1) Tryd.prog l (encF x) W fun e W' =>
      (e = .returned (.bool true) ∧ J (pre ++ [x]) W' ∧ KeepM M B W W') ∨ (e = .returned (.bool false) ∧ Jx (pre ++ [x]) W'))
    (W : World) (hx : W.heap[bx]? = some (.cells #[.slice (some ⟨b, 0, none⟩) 5 5] 85)) (hs : W.heap[b]? = some (.cells #[.int .i64 (-2), .int .i64 (-1), .int .i64 0, .int .i64 1, .int .i64 2] 3)) (h0 : J [] W) :
    CallsIn F n Tryd.prog 80 #[.func (.yield l) #[] #[], .pointer (some ⟨bx, 0, none⟩)] W fun e W' => (∃ v, e = .returned v) ∧
      ((∃ ys, ys = upF 5 ∧ J ys W') ∨ (∃ pre, (∃ k, k ≤ 5 ∧ pre = upF k) ∧ Jx pre W')) := by
  have cx : W.cell? ⟨bx, 0, none⟩ = some (.slice (some ⟨b, 0, none⟩) 5 5) := by unfold World.cell?; rw [hx]; rfl
  refine callsIn_of_wp Tryd.func80 rfl hf ?_ hro
  simp only [Tryd.ntmps80, List.size_toArray, List.length_cons, List.length_nil, Nat.reduceAdd, Nat.reduceSub, Array.replicate_succ, Array.replicate_zero, List.push_toArray, List.append_toArray, List.nil_append, List.cons_append]
  gi_wp2
  gi_loopw [3] (fun i wr => ∃ k : Nat, k ≤ 5 ∧ i = .int .i64 (ivF k) ∧ J (upF k) wr ∧ KeepM M B W wr)
    (fun i _ => (intOf i + 1).toNat)
  case atStart => exact ⟨0, Nat.zero_le _, rfl, h0, KeepM.refl _ _ _⟩
  case round =>
    obtain ⟨k, hk, rfl, hJs, hnx⟩ := hrel
    by_cases hlt : k < 5
    · have hh := hnx b _ hb.1 hb.2 hs rfl
      have hhx := hnx bx _ hbx.1 hbx.2 hx rfl
      have c0 : wr.cell? ⟨b, 0, none⟩ = some (.int .i64 (-2)) := by unfold World.cell?; rw [hh]; rfl
      have c1 : wr.cell? ⟨b, 1, none⟩ = some (.int .i64 (-1)) := by unfold World.cell?; rw [hh]; rfl
      have c2 : wr.cell? ⟨b, 2, none⟩ = some (.int .i64 0) := by unfold World.cell?; rw [hh]; rfl
      have c3 : wr.cell? ⟨b, 3, none⟩ = some (.int .i64 1) := by unfold World.cell?; rw [hh]; rfl
      have c4 : wr.cell? ⟨b, 4, none⟩ = some (.int .i64 2) := by unfold World.cell?; rw [hh]; rfl
      have cx' : wr.cell? ⟨bx, 0, none⟩ = some (.slice (some ⟨b, 0, none⟩) 5 5) := by unfold World.cell?; rw [hhx]; rfl
      obtain ⟨fn, tmps, assign, body, hy, hR⟩ := hY _ ⟨k, hlt⟩ wr hJs (by rw [upF_len hk]; exact hlt)
      have HU := Lib.hid (upF_succ hlt)
      have HX := Lib.hid hnx
      clear hnx hh hhx hx hs cx hJs h0
      rcases (show k = 0 ∨ k = 1 ∨ k = 2 ∨ k = 3 ∨ k = 4 by omega) with rfl | rfl | rfl | rfl | rfl
      · dsimp only [ivF, encF] at hy hR ⊢
        gi_wp2
        refine hR.mono ?_
        rintro e W3 (⟨rfl, hJ3, hk3⟩ | ⟨rfl, hJx3⟩)
        · gi_wp2
          go_roundw
          case rel => exact ⟨1, by omega, rfl, by rw [show upF 1 = _ from HU.out]; exact hJ3, HX.out.trans hk3⟩
          case measure => simp [intOf]
        · gi_wp2
          refine bodyPost_ret (results_none rfl _ _ _) rfl ?_
          exact ⟨⟨_, rfl⟩, .inr ⟨_, ⟨1, by omega, HU.out.symm⟩, hJx3⟩⟩
      · dsimp only [ivF, encF] at hy hR ⊢
        gi_wp2
        refine hR.mono ?_
        rintro e W3 (⟨rfl, hJ3, hk3⟩ | ⟨rfl, hJx3⟩)
        · gi_wp2
          go_roundw
          case rel => exact ⟨2, by omega, rfl, by rw [show upF 2 = _ from HU.out]; exact hJ3, HX.out.trans hk3⟩
          case measure => simp [intOf]
        · gi_wp2
          refine bodyPost_ret (results_none rfl _ _ _) rfl ?_
          exact ⟨⟨_, rfl⟩, .inr ⟨_, ⟨2, by omega, HU.out.symm⟩, hJx3⟩⟩
      · dsimp only [ivF, encF] at hy hR ⊢
        gi_wp2
        refine hR.mono ?_
        rintro e W3 (⟨rfl, hJ3, hk3⟩ | ⟨rfl, hJx3⟩)
        · gi_wp2
          go_roundw
          case rel => exact ⟨3, by omega, rfl, by rw [show upF 3 = _ from HU.out]; exact hJ3, HX.out.trans hk3⟩
          case measure => simp [intOf]
        · gi_wp2
          refine bodyPost_ret (results_none rfl _ _ _) rfl ?_
          exact ⟨⟨_, rfl⟩, .inr ⟨_, ⟨3, by omega, HU.out.symm⟩, hJx3⟩⟩
      · dsimp only [ivF, encF] at hy hR ⊢
        gi_wp2
        refine hR.mono ?_
        rintro e W3 (⟨rfl, hJ3, hk3⟩ | ⟨rfl, hJx3⟩)
        · gi_wp2
          go_roundw
          case rel => exact ⟨4, by omega, rfl, by rw [show upF 4 = _ from HU.out]; exact hJ3, HX.out.trans hk3⟩
          case measure => simp [intOf]
        · gi_wp2
          refine bodyPost_ret (results_none rfl _ _ _) rfl ?_
          exact ⟨⟨_, rfl⟩, .inr ⟨_, ⟨4, by omega, HU.out.symm⟩, hJx3⟩⟩
      · dsimp only [ivF, encF] at hy hR ⊢
        gi_wp2
        refine hR.mono ?_
        rintro e W3 (⟨rfl, hJ3, hk3⟩ | ⟨rfl, hJx3⟩)
        · gi_wp2
          go_roundw
          case rel => exact ⟨5, by omega, rfl, by rw [show upF 5 = _ from HU.out]; exact hJ3, HX.out.trans hk3⟩
          case measure => simp [intOf]
        · gi_wp2
          refine bodyPost_ret (results_none rfl _ _ _) rfl ?_
          exact ⟨⟨_, rfl⟩, .inr ⟨_, ⟨5, by omega, HU.out.symm⟩, hJx3⟩⟩
    · obtain rfl : k = 5 := by omega
      dsimp only [ivF]
      gi_wp2
      go_end0
      exact ⟨⟨_, rfl⟩, .inl ⟨_, rfl, hJs⟩⟩
end Go.Proofs.YtfbogakmhaiddaaDoor
