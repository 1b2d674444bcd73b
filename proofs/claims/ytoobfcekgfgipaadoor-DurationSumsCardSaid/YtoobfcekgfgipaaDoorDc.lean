/- Note values: the range over them. -/
import Derived.RangeFuncNested
import Derived.RangeFuncBound
import Derived.RangeFuncCalls
import Derived.RangeFuncLeaves
import Derived.RangeFuncBox
import Derived.Shelf.Abstract
import Derived.Shelf.RegionOpen
import Derived.OwnWalkIn
import Derived.TacticsInMore
import Derived.LoopNIn
import Derived.LoopIn
import Derived.Outline
import Derived.Test.YtoobfcekgfgipaaDoorDb
namespace Go.Proofs.YtoobfcekgfgipaaDoor
open Go.RowKit Go.Shelf
set_option linter.unusedVariables false
set_option linter.unusedSimpArgs false

attribute [local go_sem] Oper.semAt_some
/-- the note values in the program's order: the dots of each, most dots first -/
def lgV (x : Fin 40) : Int := ((x.val / 4 : Nat) : Int) - 1
def dtV (x : Fin 40) : Int := 3 - ((x.val % 4 : Nat) : Int)
def encV (x : Fin 40) : Array Value := #[.agg #[.int .i64 (lgV x), .int .i64 (dtV x)]]
def upV (k : Nat) : List (Fin 40) := (List.finRange 40).take k
theorem upV_succ {k : Nat} (h : k < 40) : upV (k + 1) = upV k ++ [⟨k, h⟩] := by
  unfold upV
  rw [List.take_succ_eq_append_getElem (by simpa using h)]
  simp
theorem upV_len {k : Nat} (h : k ≤ 40) : (upV k).length = k := by
  unfold upV; rw [List.length_take]; simp; omega
theorem encV_at (k j : Nat) (hk : k < 10) (hj : j < 4) (h : 4 * k + j < 40) : encV ⟨4 * k + j, h⟩ = #[.agg #[.int .i64 ((k : Int) - 1), .int .i64 (3 - (j : Int))]] := by
  unfold encV lgV dtV
  have h1 : (4 * k + j) / 4 = k := by omega
  have h2 : (4 * k + j) % 4 = j := by omega
  simp only [h1, h2]
theorem va_at (x : Fin 40) : Va (lgV x) (dtV x) := by
  have := x.isLt
  unfold lgV dtV
  exact ⟨by omega, by omega, by omega, by omega⟩
theorem int_eq {a b : Int} (h : a = b) : Value.int .i64 a = Value.int .i64 b := by rw [h]
theorem values_in (F : Fence) (n : Nat) (hf : F.fn 27) (hro : F.round = none) (w : World) :
    CallsIn F n Tryd.prog 27 #[] w fun e w' => e = .returned (.func (.func 34) #[] #[]) ∧ w' = w := by
  refine callsIn_of_wp Tryd.func27 rfl hf ?_ hro
  simp only [Tryd.ntmps27, List.size_toArray, List.length_cons, List.length_nil, Nat.reduceAdd, Nat.reduceSub, Array.replicate_succ, Array.replicate_zero, List.push_toArray, List.append_toArray, List.nil_append, List.cons_append]
  gi_wp2
  go_ret
  exact ⟨rfl, rfl⟩
set_option maxRecDepth 100000 in
set_option maxHeartbeats 4000000 in
theorem values1_in (F : Fence) (n : Nat) (hf : F.fn 34) (hro : F.round = none) (hn : 1 ≤ n) (l : Nat) (Kp : World → World → Prop) (J Jx : List (Fin 40) → World → Prop)
    (hY : ∀ pre x W, J pre W → pre.length < 40 → YieldAt F (n - 1) Tryd.prog l (encV x) W fun e W' =>
      (e = .returned (.bool true) ∧ J (pre ++ [x]) W' ∧ Kp W W') ∨ (e = .returned (.bool false) ∧ Jx (pre ++ [x]) W'))
    (W : World) (h0 : J [] W) :
    CallsIn F n Tryd.prog 34 #[.func (.yield l) #[] #[]] W fun e W' => (∃ v, e = .returned v) ∧
      ((∃ ys, ys = upV 40 ∧ J ys W') ∨ (∃ pre, (∃ k, k ≤ 40 ∧ pre = upV k) ∧ Jx pre W')) := by
  refine callsIn_of_wp Tryd.func34 rfl hf ?_ hro
  simp only [Tryd.ntmps34, List.size_toArray, List.length_cons, List.length_nil, Nat.reduceAdd, Nat.reduceSub, Array.replicate_succ, Array.replicate_zero, List.push_toArray, List.append_toArray, List.nil_append, List.cons_append]
  gi_wp2
  gi_loopw [2, 3] (fun lg dt wr => ∃ k : Nat, k ≤ 10 ∧ lg = .int .i64 ((k : Int) - 1) ∧ J (upV (4 * k)) wr)
    (fun lg _ _ => (9 - intOf lg).toNat)
  case atStart => exact ⟨0, Nat.zero_le _, rfl, h0⟩
  case round =>
    obtain ⟨k, hk, rfl, hJs⟩ := hrel
    by_cases hlt : k < 10
    · have hkd : decide ((k : Int) - 1 ≤ 8) = true := decide_eq_true (by omega)
      gi_wp2
      obtain ⟨wo, rfl⟩ : ∃ wo : World, wo = wr := ⟨_, rfl⟩
      gi_loopw [3] (fun dt wr => ∃ j : Nat, j ≤ 4 ∧ dt = .int .i64 (3 - (j : Int)) ∧ J (upV (4 * k + j)) wr)
        (fun dt _ => (intOf dt + 1).toNat)
      case atStart => exact ⟨0, Nat.zero_le _, rfl, hJs⟩
      case round =>
        obtain ⟨j, hj, rfl, hJ2⟩ := hrel
        by_cases hlj : j < 4
        · have hb40 : 4 * k + j < 40 := by omega
          have hY1 := hY _ ⟨4 * k + j, hb40⟩ wr hJ2 (by rw [upV_len (by omega)]; omega)
          rw [encV_at k j hlt hlj] at hY1
          obtain ⟨fn, tmps, assign, body, hy, hR⟩ := hY1
          have HU := Lib.hid (upV_succ hb40)
          clear hJ2 hJs h0
          gi_wp2
          refine hR.mono ?_
          rintro e W3 (⟨rfl, hJ3, _⟩ | ⟨rfl, hJx3⟩)
          · gi_wp2
            go_roundw
            case rel => first | exact ⟨j + 1, by omega, by go_num, by rw [show 4 * k + (j + 1) = 4 * k + j + 1 by omega, HU.out]; exact hJ3⟩ | ((repeat apply Exists.intro); exact ⟨⟨j + 1, by omega, int_eq (by omega), by rw [show 4 * k + (j + 1) = 4 * k + j + 1 by omega, HU.out]; exact hJ3⟩, rfl⟩)
            case measure => simp [intOf]; omega
          · gi_wp2
            refine bodyPost_ret (results_none rfl _ _ _) rfl ?_
            exact ⟨⟨_, rfl⟩, .inr ⟨_, ⟨4 * k + j + 1, by omega, HU.out.symm⟩, hJx3⟩⟩
        · obtain rfl : j = 4 := by omega
          gi_wp2
          go_roundw
          case rel => first | exact ⟨k + 1, by omega, by go_num, by rw [show 4 * (k + 1) = 4 * k + 4 by omega]; exact hJ2⟩ | ((repeat apply Exists.intro); exact ⟨⟨k + 1, by omega, int_eq (by omega), by rw [show 4 * (k + 1) = 4 * k + 4 by omega]; exact hJ2⟩, rfl⟩)
          case measure => simp [intOf]; omega
    · obtain rfl : k = 10 := by omega
      gi_wp2
      go_end0
      exact ⟨⟨_, rfl⟩, .inl ⟨_, rfl, hJs⟩⟩
end Go.Proofs.YtoobfcekgfgipaaDoor
