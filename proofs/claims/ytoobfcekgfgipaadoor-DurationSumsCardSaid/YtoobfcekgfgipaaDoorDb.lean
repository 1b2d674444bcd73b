/- Note values: Check, length. -/
import Derived.Test.YtoobfcekgfgipaaDoorDa
import Derived.Outline
namespace Go.Proofs.YtoobfcekgfgipaaDoor
open Go.RowKit
set_option linter.unusedVariables false
set_option linter.unusedSimpArgs false

/-- a note value -/
structure Va (l d : Int) : Prop where
  l0 : -1 ≤ l
  l1 : l ≤ 8
  d0 : 0 ≤ d
  d1 : d ≤ 3
instance (l d : Int) : Decidable (Va l d) := if h : -1 ≤ l ∧ l ≤ 8 ∧ 0 ≤ d ∧ d ≤ 3 then .isTrue ⟨h.1, h.2.1, h.2.2.1, h.2.2.2⟩ else .isFalse (fun h2 => h ⟨h2.1, h2.2, h2.3, h2.4⟩)
/-- the duration without dots; with dots -/
def undL (l : Int) : Int := 3870720 / 2 ^ (l + 1).toNat
def lenV (l d : Int) : Int := undL l + (if 1 ≤ d then undL l / 2 else 0) + (if 2 ≤ d then undL l / 4 else 0) + (if 3 ≤ d then undL l / 8 else 0)
theorem log_cases {l : Int} (h0 : -1 ≤ l) (h1 : l ≤ 8) : l = -1 ∨ l = 0 ∨ l = 1 ∨ l = 2 ∨ l = 3 ∨ l = 4 ∨ l = 5 ∨ l = 6 ∨ l = 7 ∨ l = 8 := by omega
theorem lenV_bd {l d : Int} (h : Va l d) : 0 < lenV l d ∧ lenV l d ≤ 7257600 := by
  obtain ⟨l0, l1, d0, d1⟩ := h
  rcases log_cases l0 l1 with rfl | rfl | rfl | rfl | rfl | rfl | rfl | rfl | rfl | rfl <;> (rcases (show d = 0 ∨ d = 1 ∨ d = 2 ∨ d = 3 by omega) with rfl | rfl | rfl | rfl <;> decide)
set_option maxRecDepth 100000 in
set_option maxHeartbeats 1000000 in
theorem check_y (l d : Int) (w : World) (h : Va l d) :
    Calls Tryd.prog 11 #[.agg #[.int .i64 l, .int .i64 d]] w fun e w' => e = .returned (.int .i64 0) ∧ Below w.heap.size w w' := by
  have B0 := Lib.hid ((Bel.refl w).alloc (.cells #[.int .i64 l, .int .i64 d] 23))
  obtain ⟨l0, l1, d0, d1⟩ := h
  have a0 : ¬ l < -1 := by omega
  have a1 : ¬ 8 < l := by omega
  have a2 : ¬ d < 0 := by omega
  have a3 : ¬ 3 < d := by omega
  go_enter Tryd.func11, Tryd.ntmps11
  go_wp2_with fail
  go_ret
  exact ⟨rfl, B0.out.out⟩
set_option maxRecDepth 100000 in
set_option maxHeartbeats 1000000 in
theorem check_a (l d : Int) (w : World) (h : l < -1) :
    Calls Tryd.prog 11 #[.agg #[.int .i64 l, .int .i64 d]] w fun e w' => e = .returned (.int .i64 17) ∧ Below w.heap.size w w' := by
  have B0 := Lib.hid ((Bel.refl w).alloc (.cells #[.int .i64 l, .int .i64 d] 23))
  go_enter Tryd.func11, Tryd.ntmps11
  go_wp2_with fail
  go_ret
  exact ⟨rfl, B0.out.out⟩
set_option maxRecDepth 100000 in
set_option maxHeartbeats 1000000 in
theorem check_b (l d : Int) (w : World) (h0 : -1 ≤ l) (h : 8 < l) :
    Calls Tryd.prog 11 #[.agg #[.int .i64 l, .int .i64 d]] w fun e w' => e = .returned (.int .i64 17) ∧ Below w.heap.size w w' := by
  have B0 := Lib.hid ((Bel.refl w).alloc (.cells #[.int .i64 l, .int .i64 d] 23))
  have a0 : ¬ l < -1 := by omega
  go_enter Tryd.func11, Tryd.ntmps11
  go_wp2_with fail
  go_ret
  exact ⟨rfl, B0.out.out⟩
set_option maxRecDepth 100000 in
set_option maxHeartbeats 1000000 in
theorem check_c (l d : Int) (w : World) (h0 : -1 ≤ l) (h1 : l ≤ 8) (h : d < 0) :
    Calls Tryd.prog 11 #[.agg #[.int .i64 l, .int .i64 d]] w fun e w' => e = .returned (.int .i64 17) ∧ Below w.heap.size w w' := by
  have B0 := Lib.hid ((Bel.refl w).alloc (.cells #[.int .i64 l, .int .i64 d] 23))
  have a0 : ¬ l < -1 := by omega
  have a1 : ¬ 8 < l := by omega
  go_enter Tryd.func11, Tryd.ntmps11
  go_wp2_with fail
  go_ret
  exact ⟨rfl, B0.out.out⟩
set_option maxRecDepth 100000 in
set_option maxHeartbeats 1000000 in
theorem check_d (l d : Int) (w : World) (h0 : -1 ≤ l) (h1 : l ≤ 8) (h2 : 0 ≤ d) (h : 3 < d) :
    Calls Tryd.prog 11 #[.agg #[.int .i64 l, .int .i64 d]] w fun e w' => e = .returned (.int .i64 17) ∧ Below w.heap.size w w' := by
  have B0 := Lib.hid ((Bel.refl w).alloc (.cells #[.int .i64 l, .int .i64 d] 23))
  have a0 : ¬ l < -1 := by omega
  have a1 : ¬ 8 < l := by omega
  have a2 : ¬ d < 0 := by omega
  go_enter Tryd.func11, Tryd.ntmps11
  go_wp2_with fail
  go_ret
  exact ⟨rfl, B0.out.out⟩
theorem not_va {l d : Int} (h : ¬ Va l d) : l < -1 ∨ -1 ≤ l ∧ (8 < l ∨ l ≤ 8 ∧ (d < 0 ∨ 0 ≤ d ∧ 3 < d)) := by
  have : ¬ (-1 ≤ l ∧ l ≤ 8 ∧ 0 ≤ d ∧ d ≤ 3) := fun ⟨a, b, c, e⟩ => h ⟨a, b, c, e⟩
  omega
theorem check_n (l d : Int) (w : World) (h : ¬ Va l d) : Calls Tryd.prog 11 #[.agg #[.int .i64 l, .int .i64 d]] w fun e w' => e = .returned (.int .i64 17) ∧ Below w.heap.size w w' := by
  rcases not_va h with h1 | ⟨h1, h2 | ⟨h2, h3 | ⟨h3, h4⟩⟩⟩
  · exact check_a l d w h1
  · exact check_b l d w h1 h2
  · exact check_c l d w h1 h2 h3
  · exact check_d l d w h1 h2 h3 h4
set_option maxRecDepth 100000 in
set_option maxHeartbeats 4000000 in
theorem length_m (D : Nat) (hD : D ≤ 3) (w : World) :
    Calls Tryd.prog 25 #[.agg #[.int .i64 (-1), .int .i64 (D : Int)]] w fun e w' => e = .returned (.int .i64 (lenV (-1) (D : Int))) ∧ Below w.heap.size w w' := by
  have B0 := Lib.hid ((Bel.refl w).alloc (.cells #[.int .i64 (-1), .int .i64 (D : Int)] 23))
  go_enter Tryd.func25, Tryd.ntmps25
  go_wp2_with fail
  go_loopg [4, 5, 13] D (fun gm t q i wr => ∃ j : Nat, j ≤ D ∧ gm = D - j ∧ i = .int .i64 (j : Int) ∧ t = .int .i64 (lenV (-1) (j : Int)) ∧ Hid (Bel w wr))
  case atStart => exact ⟨0, by omega, by omega, rfl, by rw [show lenV (-1) ((0 : Nat) : Int) = undL (-1) by decide]; rfl, B0⟩
  case round =>
    obtain ⟨j, hj, rfl, rfl, rfl, HB⟩ := hrel
    clear B0
    by_cases hlt : j < D
    · rcases (show j = 0 ∨ j = 1 ∨ j = 2 by omega) with rfl | rfl | rfl
      · rw [show lenV (-1) ((0 : Nat) : Int) = 3870720 by decide]
        go_wp2_with fail
        go_roundg (D - (0 + 1))
        case measure => omega
        case rel => exact ⟨1, hlt, rfl, rfl, by rw [show lenV (-1) ((1 : Nat) : Int) = 5806080 by decide], HB⟩
      · rw [show lenV (-1) ((1 : Nat) : Int) = 5806080 by decide]
        go_wp2_with fail
        go_roundg (D - (1 + 1))
        case measure => omega
        case rel => exact ⟨2, hlt, rfl, rfl, by rw [show lenV (-1) ((2 : Nat) : Int) = 6773760 by decide], HB⟩
      · rw [show lenV (-1) ((2 : Nat) : Int) = 6773760 by decide]
        go_wp2_with fail
        go_roundg (D - (2 + 1))
        case measure => omega
        case rel => exact ⟨3, hlt, rfl, rfl, by rw [show lenV (-1) ((3 : Nat) : Int) = 7257600 by decide], HB⟩
    · obtain rfl : j = D := by omega
      go_wp2_with fail
      go_ret
      exact ⟨rfl, HB.out.out⟩
set_option maxRecDepth 100000 in
set_option maxHeartbeats 4000000 in
theorem length_0 (D : Nat) (hD : D ≤ 3) (w : World) :
    Calls Tryd.prog 25 #[.agg #[.int .i64 0, .int .i64 (D : Int)]] w fun e w' => e = .returned (.int .i64 (lenV 0 (D : Int))) ∧ Below w.heap.size w w' := by
  have B0 := Lib.hid ((Bel.refl w).alloc (.cells #[.int .i64 0, .int .i64 (D : Int)] 23))
  go_enter Tryd.func25, Tryd.ntmps25
  go_wp2_with fail
  go_loopg [4, 5, 13] D (fun gm t q i wr => ∃ j : Nat, j ≤ D ∧ gm = D - j ∧ i = .int .i64 (j : Int) ∧ t = .int .i64 (lenV 0 (j : Int)) ∧ Hid (Bel w wr))
  case atStart => exact ⟨0, by omega, by omega, rfl, by rw [show lenV 0 ((0 : Nat) : Int) = undL 0 by decide]; rfl, B0⟩
  case round =>
    obtain ⟨j, hj, rfl, rfl, rfl, HB⟩ := hrel
    clear B0
    by_cases hlt : j < D
    · rcases (show j = 0 ∨ j = 1 ∨ j = 2 by omega) with rfl | rfl | rfl
      · rw [show lenV 0 ((0 : Nat) : Int) = 1935360 by decide]
        go_wp2_with fail
        go_roundg (D - (0 + 1))
        case measure => omega
        case rel => exact ⟨1, hlt, rfl, rfl, by rw [show lenV 0 ((1 : Nat) : Int) = 2903040 by decide], HB⟩
      · rw [show lenV 0 ((1 : Nat) : Int) = 2903040 by decide]
        go_wp2_with fail
        go_roundg (D - (1 + 1))
        case measure => omega
        case rel => exact ⟨2, hlt, rfl, rfl, by rw [show lenV 0 ((2 : Nat) : Int) = 3386880 by decide], HB⟩
      · rw [show lenV 0 ((2 : Nat) : Int) = 3386880 by decide]
        go_wp2_with fail
        go_roundg (D - (2 + 1))
        case measure => omega
        case rel => exact ⟨3, hlt, rfl, rfl, by rw [show lenV 0 ((3 : Nat) : Int) = 3628800 by decide], HB⟩
    · obtain rfl : j = D := by omega
      go_wp2_with fail
      go_ret
      exact ⟨rfl, HB.out.out⟩
set_option maxRecDepth 100000 in
set_option maxHeartbeats 4000000 in
theorem length_1 (D : Nat) (hD : D ≤ 3) (w : World) :
    Calls Tryd.prog 25 #[.agg #[.int .i64 1, .int .i64 (D : Int)]] w fun e w' => e = .returned (.int .i64 (lenV 1 (D : Int))) ∧ Below w.heap.size w w' := by
  have B0 := Lib.hid ((Bel.refl w).alloc (.cells #[.int .i64 1, .int .i64 (D : Int)] 23))
  go_enter Tryd.func25, Tryd.ntmps25
  go_wp2_with fail
  go_loopg [4, 5, 13] D (fun gm t q i wr => ∃ j : Nat, j ≤ D ∧ gm = D - j ∧ i = .int .i64 (j : Int) ∧ t = .int .i64 (lenV 1 (j : Int)) ∧ Hid (Bel w wr))
  case atStart => exact ⟨0, by omega, by omega, rfl, by rw [show lenV 1 ((0 : Nat) : Int) = undL 1 by decide]; rfl, B0⟩
  case round =>
    obtain ⟨j, hj, rfl, rfl, rfl, HB⟩ := hrel
    clear B0
    by_cases hlt : j < D
    · rcases (show j = 0 ∨ j = 1 ∨ j = 2 by omega) with rfl | rfl | rfl
      · rw [show lenV 1 ((0 : Nat) : Int) = 967680 by decide]
        go_wp2_with fail
        go_roundg (D - (0 + 1))
        case measure => omega
        case rel => exact ⟨1, hlt, rfl, rfl, by rw [show lenV 1 ((1 : Nat) : Int) = 1451520 by decide], HB⟩
      · rw [show lenV 1 ((1 : Nat) : Int) = 1451520 by decide]
        go_wp2_with fail
        go_roundg (D - (1 + 1))
        case measure => omega
        case rel => exact ⟨2, hlt, rfl, rfl, by rw [show lenV 1 ((2 : Nat) : Int) = 1693440 by decide], HB⟩
      · rw [show lenV 1 ((2 : Nat) : Int) = 1693440 by decide]
        go_wp2_with fail
        go_roundg (D - (2 + 1))
        case measure => omega
        case rel => exact ⟨3, hlt, rfl, rfl, by rw [show lenV 1 ((3 : Nat) : Int) = 1814400 by decide], HB⟩
    · obtain rfl : j = D := by omega
      go_wp2_with fail
      go_ret
      exact ⟨rfl, HB.out.out⟩
set_option maxRecDepth 100000 in
set_option maxHeartbeats 4000000 in
theorem length_2 (D : Nat) (hD : D ≤ 3) (w : World) :
    Calls Tryd.prog 25 #[.agg #[.int .i64 2, .int .i64 (D : Int)]] w fun e w' => e = .returned (.int .i64 (lenV 2 (D : Int))) ∧ Below w.heap.size w w' := by
  have B0 := Lib.hid ((Bel.refl w).alloc (.cells #[.int .i64 2, .int .i64 (D : Int)] 23))
  go_enter Tryd.func25, Tryd.ntmps25
  go_wp2_with fail
  go_loopg [4, 5, 13] D (fun gm t q i wr => ∃ j : Nat, j ≤ D ∧ gm = D - j ∧ i = .int .i64 (j : Int) ∧ t = .int .i64 (lenV 2 (j : Int)) ∧ Hid (Bel w wr))
  case atStart => exact ⟨0, by omega, by omega, rfl, by rw [show lenV 2 ((0 : Nat) : Int) = undL 2 by decide]; rfl, B0⟩
  case round =>
    obtain ⟨j, hj, rfl, rfl, rfl, HB⟩ := hrel
    clear B0
    by_cases hlt : j < D
    · rcases (show j = 0 ∨ j = 1 ∨ j = 2 by omega) with rfl | rfl | rfl
      · rw [show lenV 2 ((0 : Nat) : Int) = 483840 by decide]
        go_wp2_with fail
        go_roundg (D - (0 + 1))
        case measure => omega
        case rel => exact ⟨1, hlt, rfl, rfl, by rw [show lenV 2 ((1 : Nat) : Int) = 725760 by decide], HB⟩
      · rw [show lenV 2 ((1 : Nat) : Int) = 725760 by decide]
        go_wp2_with fail
        go_roundg (D - (1 + 1))
        case measure => omega
        case rel => exact ⟨2, hlt, rfl, rfl, by rw [show lenV 2 ((2 : Nat) : Int) = 846720 by decide], HB⟩
      · rw [show lenV 2 ((2 : Nat) : Int) = 846720 by decide]
        go_wp2_with fail
        go_roundg (D - (2 + 1))
        case measure => omega
        case rel => exact ⟨3, hlt, rfl, rfl, by rw [show lenV 2 ((3 : Nat) : Int) = 907200 by decide], HB⟩
    · obtain rfl : j = D := by omega
      go_wp2_with fail
      go_ret
      exact ⟨rfl, HB.out.out⟩
set_option maxRecDepth 100000 in
set_option maxHeartbeats 4000000 in
theorem length_3 (D : Nat) (hD : D ≤ 3) (w : World) :
    Calls Tryd.prog 25 #[.agg #[.int .i64 3, .int .i64 (D : Int)]] w fun e w' => e = .returned (.int .i64 (lenV 3 (D : Int))) ∧ Below w.heap.size w w' := by
  have B0 := Lib.hid ((Bel.refl w).alloc (.cells #[.int .i64 3, .int .i64 (D : Int)] 23))
  go_enter Tryd.func25, Tryd.ntmps25
  go_wp2_with fail
  go_loopg [4, 5, 13] D (fun gm t q i wr => ∃ j : Nat, j ≤ D ∧ gm = D - j ∧ i = .int .i64 (j : Int) ∧ t = .int .i64 (lenV 3 (j : Int)) ∧ Hid (Bel w wr))
  case atStart => exact ⟨0, by omega, by omega, rfl, by rw [show lenV 3 ((0 : Nat) : Int) = undL 3 by decide]; rfl, B0⟩
  case round =>
    obtain ⟨j, hj, rfl, rfl, rfl, HB⟩ := hrel
    clear B0
    by_cases hlt : j < D
    · rcases (show j = 0 ∨ j = 1 ∨ j = 2 by omega) with rfl | rfl | rfl
      · rw [show lenV 3 ((0 : Nat) : Int) = 241920 by decide]
        go_wp2_with fail
        go_roundg (D - (0 + 1))
        case measure => omega
        case rel => exact ⟨1, hlt, rfl, rfl, by rw [show lenV 3 ((1 : Nat) : Int) = 362880 by decide], HB⟩
      · rw [show lenV 3 ((1 : Nat) : Int) = 362880 by decide]
        go_wp2_with fail
        go_roundg (D - (1 + 1))
        case measure => omega
        case rel => exact ⟨2, hlt, rfl, rfl, by rw [show lenV 3 ((2 : Nat) : Int) = 423360 by decide], HB⟩
      · rw [show lenV 3 ((2 : Nat) : Int) = 423360 by decide]
        go_wp2_with fail
        go_roundg (D - (2 + 1))
        case measure => omega
        case rel => exact ⟨3, hlt, rfl, rfl, by rw [show lenV 3 ((3 : Nat) : Int) = 453600 by decide], HB⟩
    · obtain rfl : j = D := by omega
      go_wp2_with fail
      go_ret
      exact ⟨rfl, HB.out.out⟩
set_option maxRecDepth 100000 in
set_option maxHeartbeats 4000000 in
theorem length_4 (D : Nat) (hD : D ≤ 3) (w : World) :
    Calls Tryd.prog 25 #[.agg #[.int .i64 4, .int .i64 (D : Int)]] w fun e w' => e = .returned (.int .i64 (lenV 4 (D : Int))) ∧ Below w.heap.size w w' := by
  have B0 := Lib.hid ((Bel.refl w).alloc (.cells #[.int .i64 4, .int .i64 (D : Int)] 23))
  go_enter Tryd.func25, Tryd.ntmps25
  go_wp2_with fail
  go_loopg [4, 5, 13] D (fun gm t q i wr => ∃ j : Nat, j ≤ D ∧ gm = D - j ∧ i = .int .i64 (j : Int) ∧ t = .int .i64 (lenV 4 (j : Int)) ∧ Hid (Bel w wr))
  case atStart => exact ⟨0, by omega, by omega, rfl, by rw [show lenV 4 ((0 : Nat) : Int) = undL 4 by decide]; rfl, B0⟩
  case round =>
    obtain ⟨j, hj, rfl, rfl, rfl, HB⟩ := hrel
    clear B0
    by_cases hlt : j < D
    · rcases (show j = 0 ∨ j = 1 ∨ j = 2 by omega) with rfl | rfl | rfl
      · rw [show lenV 4 ((0 : Nat) : Int) = 120960 by decide]
        go_wp2_with fail
        go_roundg (D - (0 + 1))
        case measure => omega
        case rel => exact ⟨1, hlt, rfl, rfl, by rw [show lenV 4 ((1 : Nat) : Int) = 181440 by decide], HB⟩
      · rw [show lenV 4 ((1 : Nat) : Int) = 181440 by decide]
        go_wp2_with fail
        go_roundg (D - (1 + 1))
        case measure => omega
        case rel => exact ⟨2, hlt, rfl, rfl, by rw [show lenV 4 ((2 : Nat) : Int) = 211680 by decide], HB⟩
      · rw [show lenV 4 ((2 : Nat) : Int) = 211680 by decide]
        go_wp2_with fail
        go_roundg (D - (2 + 1))
        case measure => omega
        case rel => exact ⟨3, hlt, rfl, rfl, by rw [show lenV 4 ((3 : Nat) : Int) = 226800 by decide], HB⟩
    · obtain rfl : j = D := by omega
      go_wp2_with fail
      go_ret
      exact ⟨rfl, HB.out.out⟩
set_option maxRecDepth 100000 in
set_option maxHeartbeats 4000000 in
theorem length_5 (D : Nat) (hD : D ≤ 3) (w : World) :
    Calls Tryd.prog 25 #[.agg #[.int .i64 5, .int .i64 (D : Int)]] w fun e w' => e = .returned (.int .i64 (lenV 5 (D : Int))) ∧ Below w.heap.size w w' := by
  have B0 := Lib.hid ((Bel.refl w).alloc (.cells #[.int .i64 5, .int .i64 (D : Int)] 23))
  go_enter Tryd.func25, Tryd.ntmps25
  go_wp2_with fail
  go_loopg [4, 5, 13] D (fun gm t q i wr => ∃ j : Nat, j ≤ D ∧ gm = D - j ∧ i = .int .i64 (j : Int) ∧ t = .int .i64 (lenV 5 (j : Int)) ∧ Hid (Bel w wr))
  case atStart => exact ⟨0, by omega, by omega, rfl, by rw [show lenV 5 ((0 : Nat) : Int) = undL 5 by decide]; rfl, B0⟩
  case round =>
    obtain ⟨j, hj, rfl, rfl, rfl, HB⟩ := hrel
    clear B0
    by_cases hlt : j < D
    · rcases (show j = 0 ∨ j = 1 ∨ j = 2 by omega) with rfl | rfl | rfl
      · rw [show lenV 5 ((0 : Nat) : Int) = 60480 by decide]
        go_wp2_with fail
        go_roundg (D - (0 + 1))
        case measure => omega
        case rel => exact ⟨1, hlt, rfl, rfl, by rw [show lenV 5 ((1 : Nat) : Int) = 90720 by decide], HB⟩
      · rw [show lenV 5 ((1 : Nat) : Int) = 90720 by decide]
        go_wp2_with fail
        go_roundg (D - (1 + 1))
        case measure => omega
        case rel => exact ⟨2, hlt, rfl, rfl, by rw [show lenV 5 ((2 : Nat) : Int) = 105840 by decide], HB⟩
      · rw [show lenV 5 ((2 : Nat) : Int) = 105840 by decide]
        go_wp2_with fail
        go_roundg (D - (2 + 1))
        case measure => omega
        case rel => exact ⟨3, hlt, rfl, rfl, by rw [show lenV 5 ((3 : Nat) : Int) = 113400 by decide], HB⟩
    · obtain rfl : j = D := by omega
      go_wp2_with fail
      go_ret
      exact ⟨rfl, HB.out.out⟩
set_option maxRecDepth 100000 in
set_option maxHeartbeats 4000000 in
theorem length_6 (D : Nat) (hD : D ≤ 3) (w : World) :
    Calls Tryd.prog 25 #[.agg #[.int .i64 6, .int .i64 (D : Int)]] w fun e w' => e = .returned (.int .i64 (lenV 6 (D : Int))) ∧ Below w.heap.size w w' := by
  have B0 := Lib.hid ((Bel.refl w).alloc (.cells #[.int .i64 6, .int .i64 (D : Int)] 23))
  go_enter Tryd.func25, Tryd.ntmps25
  go_wp2_with fail
  go_loopg [4, 5, 13] D (fun gm t q i wr => ∃ j : Nat, j ≤ D ∧ gm = D - j ∧ i = .int .i64 (j : Int) ∧ t = .int .i64 (lenV 6 (j : Int)) ∧ Hid (Bel w wr))
  case atStart => exact ⟨0, by omega, by omega, rfl, by rw [show lenV 6 ((0 : Nat) : Int) = undL 6 by decide]; rfl, B0⟩
  case round =>
    obtain ⟨j, hj, rfl, rfl, rfl, HB⟩ := hrel
    clear B0
    by_cases hlt : j < D
    · rcases (show j = 0 ∨ j = 1 ∨ j = 2 by omega) with rfl | rfl | rfl
      · rw [show lenV 6 ((0 : Nat) : Int) = 30240 by decide]
        go_wp2_with fail
        go_roundg (D - (0 + 1))
        case measure => omega
        case rel => exact ⟨1, hlt, rfl, rfl, by rw [show lenV 6 ((1 : Nat) : Int) = 45360 by decide], HB⟩
      · rw [show lenV 6 ((1 : Nat) : Int) = 45360 by decide]
        go_wp2_with fail
        go_roundg (D - (1 + 1))
        case measure => omega
        case rel => exact ⟨2, hlt, rfl, rfl, by rw [show lenV 6 ((2 : Nat) : Int) = 52920 by decide], HB⟩
      · rw [show lenV 6 ((2 : Nat) : Int) = 52920 by decide]
        go_wp2_with fail
        go_roundg (D - (2 + 1))
        case measure => omega
        case rel => exact ⟨3, hlt, rfl, rfl, by rw [show lenV 6 ((3 : Nat) : Int) = 56700 by decide], HB⟩
    · obtain rfl : j = D := by omega
      go_wp2_with fail
      go_ret
      exact ⟨rfl, HB.out.out⟩
set_option maxRecDepth 100000 in
set_option maxHeartbeats 4000000 in
theorem length_7 (D : Nat) (hD : D ≤ 3) (w : World) :
    Calls Tryd.prog 25 #[.agg #[.int .i64 7, .int .i64 (D : Int)]] w fun e w' => e = .returned (.int .i64 (lenV 7 (D : Int))) ∧ Below w.heap.size w w' := by
  have B0 := Lib.hid ((Bel.refl w).alloc (.cells #[.int .i64 7, .int .i64 (D : Int)] 23))
  go_enter Tryd.func25, Tryd.ntmps25
  go_wp2_with fail
  go_loopg [4, 5, 13] D (fun gm t q i wr => ∃ j : Nat, j ≤ D ∧ gm = D - j ∧ i = .int .i64 (j : Int) ∧ t = .int .i64 (lenV 7 (j : Int)) ∧ Hid (Bel w wr))
  case atStart => exact ⟨0, by omega, by omega, rfl, by rw [show lenV 7 ((0 : Nat) : Int) = undL 7 by decide]; rfl, B0⟩
  case round =>
    obtain ⟨j, hj, rfl, rfl, rfl, HB⟩ := hrel
    clear B0
    by_cases hlt : j < D
    · rcases (show j = 0 ∨ j = 1 ∨ j = 2 by omega) with rfl | rfl | rfl
      · rw [show lenV 7 ((0 : Nat) : Int) = 15120 by decide]
        go_wp2_with fail
        go_roundg (D - (0 + 1))
        case measure => omega
        case rel => exact ⟨1, hlt, rfl, rfl, by rw [show lenV 7 ((1 : Nat) : Int) = 22680 by decide], HB⟩
      · rw [show lenV 7 ((1 : Nat) : Int) = 22680 by decide]
        go_wp2_with fail
        go_roundg (D - (1 + 1))
        case measure => omega
        case rel => exact ⟨2, hlt, rfl, rfl, by rw [show lenV 7 ((2 : Nat) : Int) = 26460 by decide], HB⟩
      · rw [show lenV 7 ((2 : Nat) : Int) = 26460 by decide]
        go_wp2_with fail
        go_roundg (D - (2 + 1))
        case measure => omega
        case rel => exact ⟨3, hlt, rfl, rfl, by rw [show lenV 7 ((3 : Nat) : Int) = 28350 by decide], HB⟩
    · obtain rfl : j = D := by omega
      go_wp2_with fail
      go_ret
      exact ⟨rfl, HB.out.out⟩
set_option maxRecDepth 100000 in
set_option maxHeartbeats 4000000 in
theorem length_8 (D : Nat) (hD : D ≤ 3) (w : World) :
    Calls Tryd.prog 25 #[.agg #[.int .i64 8, .int .i64 (D : Int)]] w fun e w' => e = .returned (.int .i64 (lenV 8 (D : Int))) ∧ Below w.heap.size w w' := by
  have B0 := Lib.hid ((Bel.refl w).alloc (.cells #[.int .i64 8, .int .i64 (D : Int)] 23))
  go_enter Tryd.func25, Tryd.ntmps25
  go_wp2_with fail
  go_loopg [4, 5, 13] D (fun gm t q i wr => ∃ j : Nat, j ≤ D ∧ gm = D - j ∧ i = .int .i64 (j : Int) ∧ t = .int .i64 (lenV 8 (j : Int)) ∧ Hid (Bel w wr))
  case atStart => exact ⟨0, by omega, by omega, rfl, by rw [show lenV 8 ((0 : Nat) : Int) = undL 8 by decide]; rfl, B0⟩
  case round =>
    obtain ⟨j, hj, rfl, rfl, rfl, HB⟩ := hrel
    clear B0
    by_cases hlt : j < D
    · rcases (show j = 0 ∨ j = 1 ∨ j = 2 by omega) with rfl | rfl | rfl
      · rw [show lenV 8 ((0 : Nat) : Int) = 7560 by decide]
        go_wp2_with fail
        go_roundg (D - (0 + 1))
        case measure => omega
        case rel => exact ⟨1, hlt, rfl, rfl, by rw [show lenV 8 ((1 : Nat) : Int) = 11340 by decide], HB⟩
      · rw [show lenV 8 ((1 : Nat) : Int) = 11340 by decide]
        go_wp2_with fail
        go_roundg (D - (1 + 1))
        case measure => omega
        case rel => exact ⟨2, hlt, rfl, rfl, by rw [show lenV 8 ((2 : Nat) : Int) = 13230 by decide], HB⟩
      · rw [show lenV 8 ((2 : Nat) : Int) = 13230 by decide]
        go_wp2_with fail
        go_roundg (D - (2 + 1))
        case measure => omega
        case rel => exact ⟨3, hlt, rfl, rfl, by rw [show lenV 8 ((3 : Nat) : Int) = 14175 by decide], HB⟩
    · obtain rfl : j = D := by omega
      go_wp2_with fail
      go_ret
      exact ⟨rfl, HB.out.out⟩
theorem length_ok (l d : Int) (w : World) (h : Va l d) :
    Calls Tryd.prog 25 #[.agg #[.int .i64 l, .int .i64 d]] w fun e w' => e = .returned (.int .i64 (lenV l d)) ∧ Below w.heap.size w w' := by
  obtain ⟨l0, l1, d0, d1⟩ := h
  obtain ⟨D, hD, rfl⟩ : ∃ D : Nat, D ≤ 3 ∧ d = (D : Int) := ⟨d.toNat, by omega, by omega⟩
  rcases log_cases l0 l1 with rfl | rfl | rfl | rfl | rfl | rfl | rfl | rfl | rfl | rfl
  · exact length_m D hD w
  · exact length_0 D hD w
  · exact length_1 D hD w
  · exact length_2 D hD w
  · exact length_3 D hD w
  · exact length_4 D hD w
  · exact length_5 D hD w
  · exact length_6 D hD w
  · exact length_7 D hD w
  · exact length_8 D hD w
end Go.Proofs.YtoobfcekgfgipaaDoor
