/- Tuplets: undotted. -/
import Derived.Test.YtidggmfgbcmklaaTll
namespace Go.Proofs.Ytidggmfgbcmklaa
open Go.RowKit
set_option linter.unusedVariables false
set_option linter.unusedSimpArgs false

/-- note values without dots -/
def uu (j : Nat) : Int := 3870720 / 2 ^ j
/-- the sum over the events of a tuplet, of the first k -/
def sumH (v : Nat → Int) (t : Tp) : Nat → Int
  | 0 => 0
  | k + 1 => if t.has k then sumH v t k + v k else sumH v t k
theorem sumH_has {v : Nat → Int} {t : Tp} {k : Nat} (h : t.has k) : sumH v t (k + 1) = sumH v t k + v k := if_pos h
theorem sumH_not {v : Nat → Int} {t : Tp} {k : Nat} (h : ¬ t.has k) : sumH v t (k + 1) = sumH v t k := if_neg h
theorem sumH_low {v : Nat → Int} {t : Tp} : ∀ k : Nat, (k : Int) ≤ t.F → sumH v t k = 0 := by
  intro k
  induction k with
  | zero => intro _; rfl
  | succ k ih => intro h; rw [sumH_not (by unfold Tp.has; omega), ih (by omega)]
theorem sumH_high {v : Nat → Int} {t : Tp} (m : Nat) (hm : t.F + t.C ≤ (m : Int)) : ∀ k : Nat, m ≤ k → sumH v t k = sumH v t m := by
  intro k
  induction k with
  | zero => intro h; obtain rfl : m = 0 := by omega
            rfl
  | succ k ih =>
    intro h
    by_cases e : m = k + 1
    · rw [e]
    · rw [sumH_not (by unfold Tp.has; omega), ih (by omega)]
theorem sumH_bd {v : Nat → Int} {t : Tp} {c : Int} (hc : 0 ≤ c) (m : Nat) (hv : ∀ k, k < m → t.has k → 0 ≤ v k ∧ v k ≤ c) : ∀ k : Nat, k ≤ m → 0 ≤ sumH v t k ∧ sumH v t k ≤ c * (k : Int) := by
  intro k
  induction k with
  | zero => intro _; simp [sumH]
  | succ k ih =>
    intro hk
    have h2 := ih (by omega)
    rw [show c * ((k + 1 : Nat) : Int) = c * (k : Int) + c by rw [Int.natCast_add, Int.mul_add]; simp]
    by_cases h : t.has k
    · rw [sumH_has h]; have := hv k (by omega) h; omega
    · rw [sumH_not h]; omega
set_option maxRecDepth 100000 in
set_option maxHeartbeats 4000000 in
theorem undotted_y (q : Int) (w : World) (j : Nat) (hj : j < 10) (hq : uu j = q) (hl : ∀ i, i < j → uu i ≠ q) : Calls Try.prog 49 #[.int .i64 q] w fun e w' => e = .returned (.tuple #[.int .i64 ((j : Int) - 1), .bool true]) ∧ Below w.heap.size w w' := by
  have B0 := Lib.hid (Bel.refl w)
  replace hl := Lib.hid hl
  replace hq := Lib.hid hq
  go_enter Try.func49, Try.ntmps49
  go_wp2_with fail
  go_loopg [4] 10 (fun gm i wr => ∃ k : Nat, k ≤ j ∧ gm = 10 - k ∧ i = .int .i64 ((k : Int) - 1) ∧ Hid (Bel w wr))
  case atStart => exact ⟨0, by omega, by omega, by rfl, B0⟩
  case round =>
    clear B0
    obtain ⟨k, hk, rfl, rfl, B0⟩ := hrel
    by_cases hlt : k < j
    · have hne := hl.out k hlt
      have hk10 : k < 10 := by omega
      rcases (show k = 0 ∨ k = 1 ∨ k = 2 ∨ k = 3 ∨ k = 4 ∨ k = 5 ∨ k = 6 ∨ k = 7 ∨ k = 8 ∨ k = 9 by omega) with rfl | rfl | rfl | rfl | rfl | rfl | rfl | rfl | rfl | rfl
      · have hu : uu 0 = 3870720 := by decide
        rw [hu] at hne
        have hne2 : (3870720 == q) = false := by simpa using hne
        clear hu
        clear hne
        go_wp2_with fail
        go_roundg (10 - 1)
        case measure => omega
        case rel => exact ⟨1, by omega, rfl, by go_num, B0⟩
      · have hu : uu 1 = 1935360 := by decide
        rw [hu] at hne
        have hne2 : (1935360 == q) = false := by simpa using hne
        clear hu
        clear hne
        go_wp2_with fail
        go_roundg (10 - 2)
        case measure => omega
        case rel => exact ⟨2, by omega, rfl, by go_num, B0⟩
      · have hu : uu 2 = 967680 := by decide
        rw [hu] at hne
        have hne2 : (967680 == q) = false := by simpa using hne
        clear hu
        clear hne
        go_wp2_with fail
        go_roundg (10 - 3)
        case measure => omega
        case rel => exact ⟨3, by omega, rfl, by go_num, B0⟩
      · have hu : uu 3 = 483840 := by decide
        rw [hu] at hne
        have hne2 : (483840 == q) = false := by simpa using hne
        clear hu
        clear hne
        go_wp2_with fail
        go_roundg (10 - 4)
        case measure => omega
        case rel => exact ⟨4, by omega, rfl, by go_num, B0⟩
      · have hu : uu 4 = 241920 := by decide
        rw [hu] at hne
        have hne2 : (241920 == q) = false := by simpa using hne
        clear hu
        clear hne
        go_wp2_with fail
        go_roundg (10 - 5)
        case measure => omega
        case rel => exact ⟨5, by omega, rfl, by go_num, B0⟩
      · have hu : uu 5 = 120960 := by decide
        rw [hu] at hne
        have hne2 : (120960 == q) = false := by simpa using hne
        clear hu
        clear hne
        go_wp2_with fail
        go_roundg (10 - 6)
        case measure => omega
        case rel => exact ⟨6, by omega, rfl, by go_num, B0⟩
      · have hu : uu 6 = 60480 := by decide
        rw [hu] at hne
        have hne2 : (60480 == q) = false := by simpa using hne
        clear hu
        clear hne
        go_wp2_with fail
        go_roundg (10 - 7)
        case measure => omega
        case rel => exact ⟨7, by omega, rfl, by go_num, B0⟩
      · have hu : uu 7 = 30240 := by decide
        rw [hu] at hne
        have hne2 : (30240 == q) = false := by simpa using hne
        clear hu
        clear hne
        go_wp2_with fail
        go_roundg (10 - 8)
        case measure => omega
        case rel => exact ⟨8, by omega, rfl, by go_num, B0⟩
      · have hu : uu 8 = 15120 := by decide
        rw [hu] at hne
        have hne2 : (15120 == q) = false := by simpa using hne
        clear hu
        clear hne
        go_wp2_with fail
        go_roundg (10 - 9)
        case measure => omega
        case rel => exact ⟨9, by omega, rfl, by go_num, B0⟩
      · have hu : uu 9 = 7560 := by decide
        rw [hu] at hne
        have hne2 : (7560 == q) = false := by simpa using hne
        clear hu
        clear hne
        go_wp2_with fail
        go_roundg (10 - 10)
        case measure => omega
        case rel => exact ⟨10, by omega, rfl, by go_num, B0⟩
    · obtain rfl : k = j := by omega
      have hqq := hq.out
      rcases (show k = 0 ∨ k = 1 ∨ k = 2 ∨ k = 3 ∨ k = 4 ∨ k = 5 ∨ k = 6 ∨ k = 7 ∨ k = 8 ∨ k = 9 by omega) with rfl | rfl | rfl | rfl | rfl | rfl | rfl | rfl | rfl | rfl
      · obtain rfl : 3870720 = q := hqq
        go_wp2_with fail
        go_ret2
        exact ⟨rfl, B0.out.out⟩
      · obtain rfl : 1935360 = q := hqq
        go_wp2_with fail
        go_ret2
        exact ⟨rfl, B0.out.out⟩
      · obtain rfl : 967680 = q := hqq
        go_wp2_with fail
        go_ret2
        exact ⟨rfl, B0.out.out⟩
      · obtain rfl : 483840 = q := hqq
        go_wp2_with fail
        go_ret2
        exact ⟨rfl, B0.out.out⟩
      · obtain rfl : 241920 = q := hqq
        go_wp2_with fail
        go_ret2
        exact ⟨rfl, B0.out.out⟩
      · obtain rfl : 120960 = q := hqq
        go_wp2_with fail
        go_ret2
        exact ⟨rfl, B0.out.out⟩
      · obtain rfl : 60480 = q := hqq
        go_wp2_with fail
        go_ret2
        exact ⟨rfl, B0.out.out⟩
      · obtain rfl : 30240 = q := hqq
        go_wp2_with fail
        go_ret2
        exact ⟨rfl, B0.out.out⟩
      · obtain rfl : 15120 = q := hqq
        go_wp2_with fail
        go_ret2
        exact ⟨rfl, B0.out.out⟩
      · obtain rfl : 7560 = q := hqq
        go_wp2_with fail
        go_ret2
        exact ⟨rfl, B0.out.out⟩
set_option maxRecDepth 100000 in
set_option maxHeartbeats 4000000 in
theorem undotted_n (q : Int) (w : World) (hl : ∀ i, i < 10 → uu i ≠ q) : Calls Try.prog 49 #[.int .i64 q] w fun e w' => e = .returned (.tuple #[.int .i64 0, .bool false]) ∧ Below w.heap.size w w' := by
  have B0 := Lib.hid (Bel.refl w)
  replace hl := Lib.hid hl
  go_enter Try.func49, Try.ntmps49
  go_wp2_with fail
  go_loopg [4] 10 (fun gm i wr => ∃ k : Nat, k ≤ 10 ∧ gm = 10 - k ∧ i = .int .i64 ((k : Int) - 1) ∧ Hid (Bel w wr))
  case atStart => exact ⟨0, by omega, by omega, by rfl, B0⟩
  case round =>
    clear B0
    obtain ⟨k, hk, rfl, rfl, B0⟩ := hrel
    by_cases hlt : k < 10
    · have hne := hl.out k hlt
      have hk10 : k < 10 := by omega
      rcases (show k = 0 ∨ k = 1 ∨ k = 2 ∨ k = 3 ∨ k = 4 ∨ k = 5 ∨ k = 6 ∨ k = 7 ∨ k = 8 ∨ k = 9 by omega) with rfl | rfl | rfl | rfl | rfl | rfl | rfl | rfl | rfl | rfl
      · have hu : uu 0 = 3870720 := by decide
        rw [hu] at hne
        have hne2 : (3870720 == q) = false := by simpa using hne
        clear hu
        clear hne
        go_wp2_with fail
        go_roundg (10 - 1)
        case measure => omega
        case rel => exact ⟨1, by omega, rfl, by go_num, B0⟩
      · have hu : uu 1 = 1935360 := by decide
        rw [hu] at hne
        have hne2 : (1935360 == q) = false := by simpa using hne
        clear hu
        clear hne
        go_wp2_with fail
        go_roundg (10 - 2)
        case measure => omega
        case rel => exact ⟨2, by omega, rfl, by go_num, B0⟩
      · have hu : uu 2 = 967680 := by decide
        rw [hu] at hne
        have hne2 : (967680 == q) = false := by simpa using hne
        clear hu
        clear hne
        go_wp2_with fail
        go_roundg (10 - 3)
        case measure => omega
        case rel => exact ⟨3, by omega, rfl, by go_num, B0⟩
      · have hu : uu 3 = 483840 := by decide
        rw [hu] at hne
        have hne2 : (483840 == q) = false := by simpa using hne
        clear hu
        clear hne
        go_wp2_with fail
        go_roundg (10 - 4)
        case measure => omega
        case rel => exact ⟨4, by omega, rfl, by go_num, B0⟩
      · have hu : uu 4 = 241920 := by decide
        rw [hu] at hne
        have hne2 : (241920 == q) = false := by simpa using hne
        clear hu
        clear hne
        go_wp2_with fail
        go_roundg (10 - 5)
        case measure => omega
        case rel => exact ⟨5, by omega, rfl, by go_num, B0⟩
      · have hu : uu 5 = 120960 := by decide
        rw [hu] at hne
        have hne2 : (120960 == q) = false := by simpa using hne
        clear hu
        clear hne
        go_wp2_with fail
        go_roundg (10 - 6)
        case measure => omega
        case rel => exact ⟨6, by omega, rfl, by go_num, B0⟩
      · have hu : uu 6 = 60480 := by decide
        rw [hu] at hne
        have hne2 : (60480 == q) = false := by simpa using hne
        clear hu
        clear hne
        go_wp2_with fail
        go_roundg (10 - 7)
        case measure => omega
        case rel => exact ⟨7, by omega, rfl, by go_num, B0⟩
      · have hu : uu 7 = 30240 := by decide
        rw [hu] at hne
        have hne2 : (30240 == q) = false := by simpa using hne
        clear hu
        clear hne
        go_wp2_with fail
        go_roundg (10 - 8)
        case measure => omega
        case rel => exact ⟨8, by omega, rfl, by go_num, B0⟩
      · have hu : uu 8 = 15120 := by decide
        rw [hu] at hne
        have hne2 : (15120 == q) = false := by simpa using hne
        clear hu
        clear hne
        go_wp2_with fail
        go_roundg (10 - 9)
        case measure => omega
        case rel => exact ⟨9, by omega, rfl, by go_num, B0⟩
      · have hu : uu 9 = 7560 := by decide
        rw [hu] at hne
        have hne2 : (7560 == q) = false := by simpa using hne
        clear hu
        clear hne
        go_wp2_with fail
        go_roundg (10 - 10)
        case measure => omega
        case rel => exact ⟨10, by omega, rfl, by go_num, B0⟩
    · obtain rfl : k = 10 := by omega
      go_wp2_with fail
      go_ret2
      exact ⟨rfl, B0.out.out⟩
end Go.Proofs.Ytidggmfgbcmklaa
