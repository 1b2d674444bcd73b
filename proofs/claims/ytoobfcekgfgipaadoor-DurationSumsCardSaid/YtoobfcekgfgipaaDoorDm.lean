/- Durations: the reference's Valid and Ticks. -/
import Derived.Test.YtoobfcekgfgipaaDoorDl
namespace Go.Proofs.YtoobfcekgfgipaaDoor
open Go.RowKit
set_option linter.unusedVariables false
set_option linter.unusedSimpArgs false

set_option maxRecDepth 100000 in
set_option maxHeartbeats 2000000 in
theorem valid_a (l d : Int) (w : World) (h : l < -1) :
    Calls Tryd.prog 12 #[.agg #[.int .i64 l, .int .i64 d]] w fun e w' => e = .returned (.bool false) ∧ Below w.heap.size w w' := by
  have a0 : decide (-1 ≤ l) = false := by simp; omega
  have B0 := Lib.hid ((Bel.refl w).alloc (.cells #[.int .i64 l, .int .i64 d] 23))
  have X0 := Duo.new w (.int .i64 l) (.int .i64 d) 23 (w.heap.size) (by simp)
  go_enter Tryd.func12, Tryd.ntmps12
  obtain ⟨xf0, xf1, xf2, xf3, xf4⟩ := id X0
  go_wp2_with fail
  go_ret
  exact ⟨rfl, B0.out.out⟩
set_option maxRecDepth 100000 in
set_option maxHeartbeats 2000000 in
theorem valid_b (l d : Int) (w : World) (h0 : -1 ≤ l) (h : 8 < l) :
    Calls Tryd.prog 12 #[.agg #[.int .i64 l, .int .i64 d]] w fun e w' => e = .returned (.bool false) ∧ Below w.heap.size w w' := by
  have a0 : decide (-1 ≤ l) = true := by simp; omega
  have a1 : decide (l ≤ 8) = false := by simp; omega
  have B0 := Lib.hid ((Bel.refl w).alloc (.cells #[.int .i64 l, .int .i64 d] 23))
  have X0 := Duo.new w (.int .i64 l) (.int .i64 d) 23 (w.heap.size) (by simp)
  go_enter Tryd.func12, Tryd.ntmps12
  obtain ⟨xf0, xf1, xf2, xf3, xf4⟩ := id X0
  go_wp2_with fail
  go_ret
  exact ⟨rfl, B0.out.out⟩
set_option maxRecDepth 100000 in
set_option maxHeartbeats 2000000 in
theorem valid_c (l d : Int) (w : World) (h0 : -1 ≤ l) (h1 : l ≤ 8) (h : d < 0) :
    Calls Tryd.prog 12 #[.agg #[.int .i64 l, .int .i64 d]] w fun e w' => e = .returned (.bool false) ∧ Below w.heap.size w w' := by
  have a0 : decide (-1 ≤ l) = true := by simp; omega
  have a1 : decide (l ≤ 8) = true := by simp; omega
  have a2 : decide (0 ≤ d) = false := by simp; omega
  have B0 := Lib.hid ((Bel.refl w).alloc (.cells #[.int .i64 l, .int .i64 d] 23))
  have X0 := Duo.new w (.int .i64 l) (.int .i64 d) 23 (w.heap.size) (by simp)
  go_enter Tryd.func12, Tryd.ntmps12
  obtain ⟨xf0, xf1, xf2, xf3, xf4⟩ := id X0
  go_wp2_with fail
  go_ret
  exact ⟨rfl, B0.out.out⟩
set_option maxRecDepth 100000 in
set_option maxHeartbeats 2000000 in
theorem valid_d (l d : Int) (w : World) (h0 : -1 ≤ l) (h1 : l ≤ 8) (h2 : 0 ≤ d) (h : 3 < d) :
    Calls Tryd.prog 12 #[.agg #[.int .i64 l, .int .i64 d]] w fun e w' => e = .returned (.bool false) ∧ Below w.heap.size w w' := by
  have a0 : decide (-1 ≤ l) = true := by simp; omega
  have a1 : decide (l ≤ 8) = true := by simp; omega
  have a2 : decide (0 ≤ d) = true := by simp; omega
  have a3 : decide (d ≤ 3) = false := by simp; omega
  have B0 := Lib.hid ((Bel.refl w).alloc (.cells #[.int .i64 l, .int .i64 d] 23))
  have X0 := Duo.new w (.int .i64 l) (.int .i64 d) 23 (w.heap.size) (by simp)
  go_enter Tryd.func12, Tryd.ntmps12
  obtain ⟨xf0, xf1, xf2, xf3, xf4⟩ := id X0
  go_wp2_with fail
  go_ret
  exact ⟨rfl, B0.out.out⟩
set_option maxRecDepth 100000 in
set_option maxHeartbeats 2000000 in
theorem valid_y (l d : Int) (w : World) (h : Va l d) :
    Calls Tryd.prog 12 #[.agg #[.int .i64 l, .int .i64 d]] w fun e w' => e = .returned (.bool true) ∧ Below w.heap.size w w' := by
  obtain ⟨l0, l1, d0, d1⟩ := h
  have a0 : decide (-1 ≤ l) = true := by simp; omega
  have a1 : decide (l ≤ 8) = true := by simp; omega
  have a2 : decide (0 ≤ d) = true := by simp; omega
  have a3 : decide (d ≤ 3) = true := by simp; omega
  have B0 := Lib.hid ((Bel.refl w).alloc (.cells #[.int .i64 l, .int .i64 d] 23))
  have X0 := Duo.new w (.int .i64 l) (.int .i64 d) 23 (w.heap.size) (by simp)
  go_enter Tryd.func12, Tryd.ntmps12
  obtain ⟨xf0, xf1, xf2, xf3, xf4⟩ := id X0
  go_wp2_with fail
  go_ret
  exact ⟨rfl, B0.out.out⟩
theorem valid_n (l d : Int) (w : World) (h : ¬ Va l d) : Calls Tryd.prog 12 #[.agg #[.int .i64 l, .int .i64 d]] w fun e w' => e = .returned (.bool false) ∧ Below w.heap.size w w' := by
  rcases not_va h with h1 | ⟨h1, h2 | ⟨h2, h3 | ⟨h3, h4⟩⟩⟩
  · exact valid_a l d w h1
  · exact valid_b l d w h1 h2
  · exact valid_c l d w h1 h2 h3
  · exact valid_d l d w h1 h2 h3 h4
theorem und_half (k : Nat) (hk : k ≤ 8) : (undL ((k : Int) - 1)).tdiv 2 = undL (((k + 1 : Nat) : Int) - 1) ∧ 0 ≤ undL ((k : Int) - 1) ∧ undL ((k : Int) - 1) ≤ 3870720 := by
  rcases (show k = 0 ∨ k = 1 ∨ k = 2 ∨ k = 3 ∨ k = 4 ∨ k = 5 ∨ k = 6 ∨ k = 7 ∨ k = 8 by omega) with rfl | rfl | rfl | rfl | rfl | rfl | rfl | rfl | rfl <;> decide
def undJ (l : Int) (j : Nat) : Int := undL l / 2 ^ j
theorem und_step (l : Int) (h0 : -1 ≤ l) (h1 : l ≤ 8) (j : Nat) (hj : j ≤ 2) : (undJ l j).tdiv 2 = undJ l (j + 1) ∧ lenV l (j : Int) + undJ l (j + 1) = lenV l ((j + 1 : Nat) : Int) ∧ 0 ≤ undJ l j ∧ undJ l j ≤ 3870720 ∧ 0 ≤ lenV l (j : Int) ∧ lenV l (j : Int) ≤ 7257600 := by
  rcases log_cases h0 h1 with rfl | rfl | rfl | rfl | rfl | rfl | rfl | rfl | rfl | rfl <;> (rcases (show j = 0 ∨ j = 1 ∨ j = 2 by omega) with rfl | rfl | rfl <;> decide)
theorem undJ_0 (l : Int) : undJ l 0 = undL l := by simp [undJ]
theorem lenV_0 (l : Int) : lenV l 0 = undL l := by simp [lenV]
set_option maxRecDepth 100000 in
set_option maxHeartbeats 2000000 in
theorem rticks_ok (l d : Int) (w : World) (h : Va l d) :
    Calls Tryd.prog 14 #[.agg #[.int .i64 l, .int .i64 d]] w fun e w' => e = .returned (.int .i64 (lenV l d)) ∧ Below w.heap.size w w' := by
  have H := Lib.hid h
  obtain ⟨l0, l1, d0, d1⟩ := h
  obtain ⟨n, rfl⟩ : ∃ n : Nat, l = (n : Int) - 1 := ⟨(l + 1).toNat, by omega⟩
  obtain ⟨m, rfl⟩ : ∃ m : Nat, d = (m : Int) := ⟨d.toNat, by omega⟩
  have D0 := Lib.hid (Duo.new w (.int .i64 ((n : Int) - 1)) (.int .i64 (m : Int)) 23 w.heap.size rfl)
  have B0 := Lib.hid ((Bel.refl w).alloc (.cells #[.int .i64 ((n : Int) - 1), .int .i64 (m : Int)] 23))
  have X0 := Duo.new w (.int .i64 ((n : Int) - 1)) (.int .i64 (m : Int)) 23 (w.heap.size) (by simp)
  go_enter Tryd.func14, Tryd.ntmps14
  obtain ⟨xf0, xf1, xf2, xf3, xf4⟩ := id X0
  go_wp2_with fail
  clear xf0 xf1 xf2 xf3 xf4 X0
  go_loopg [3, 4] n (fun gm t i wr => ∃ k : Nat, k ≤ n ∧ gm = n - k ∧ i = .int .i64 ((k : Int) - 1) ∧ t = .int .i64 (undL ((k : Int) - 1)) ∧ Hid (Bel w wr) ∧ Hid (Duo wr w.heap.size (.int .i64 ((n : Int) - 1)) (.int .i64 (m : Int))))
  case atStart => exact ⟨0, by omega, by omega, rfl, by rfl, B0, D0⟩
  case round =>
    obtain ⟨k, hk, rfl, rfl, rfl, HB, HD⟩ := hrel
    clear B0 D0
    obtain ⟨xf0, xf1, xf2, xf3, xf4⟩ := id HD.out
    by_cases hlt : k < n
    · obtain ⟨u1, u2, u3⟩ := und_half k (by omega)
      obtain ⟨U, hU⟩ : ∃ U, undL ((k : Int) - 1) = U := ⟨_, rfl⟩
      rw [hU] at u1 u2 u3 ⊢
      have HU := Lib.hid u1
      clear u1 hU
      have q0 : 0 ≤ U.tdiv 2 := by rw [Int.tdiv_eq_ediv_of_nonneg (by assumption)]; omega
      have q1 : U.tdiv 2 ≤ 3870720 := by rw [Int.tdiv_eq_ediv_of_nonneg (by assumption)]; omega
      have hd : decide ((k : Int) - 1 < (n : Int) - 1) = true := decide_eq_true (by omega)
      go_wp2_with fail
      go_roundg (n - (k + 1))
      case measure => omega
      case rel => exact ⟨k + 1, by omega, rfl, by go_num, by rw [← HU.out], HB, HD⟩
    · obtain rfl : k = n := by omega
      go_wp2_with fail
      go_loopg [3, 5, 6] m (fun gm t q i wr => ∃ j : Nat, j ≤ m ∧ gm = m - j ∧ i = .int .i64 (j : Int) ∧ t = .int .i64 (undJ ((k : Int) - 1) j) ∧ q = .int .i64 (lenV ((k : Int) - 1) (j : Int)) ∧ Hid (Bel w wr) ∧ Hid (Duo wr w.heap.size (.int .i64 ((k : Int) - 1)) (.int .i64 (m : Int))))
      case atStart => exact ⟨0, by omega, by omega, rfl, by rw [undJ_0], by rw [show ((0 : Nat) : Int) = 0 from rfl, lenV_0], HB, HD⟩
      case round =>
        clear HB HD xf0 xf1 xf2 xf3 xf4
        obtain ⟨j, hj, rfl, rfl, rfl, rfl, HB, HD⟩ := hrel
        obtain ⟨xf0, xf1, xf2, xf3, xf4⟩ := id HD.out
        by_cases hlt2 : j < m
        · obtain ⟨u1, u2, u3, u4, u5, u6⟩ := und_step ((k : Int) - 1) (by omega) (by omega) j (by omega)
          obtain ⟨U, hU⟩ : ∃ U, undJ ((k : Int) - 1) j = U := ⟨_, rfl⟩
          obtain ⟨S, hS⟩ : ∃ S, lenV ((k : Int) - 1) (j : Int) = S := ⟨_, rfl⟩
          rw [hU] at u1 u3 u4 ⊢
          rw [hS] at u2 u5 u6 ⊢
          rw [← u1] at u2
          have HU := Lib.hid u1
          have HV := Lib.hid u2
          clear u1 u2 hU hS
          have q0 : 0 ≤ U.tdiv 2 := by rw [Int.tdiv_eq_ediv_of_nonneg (by assumption)]; omega
          have q1 : U.tdiv 2 ≤ 3870720 := by rw [Int.tdiv_eq_ediv_of_nonneg (by assumption)]; omega
          have hd2 : decide ((j : Int) < (m : Int)) = true := decide_eq_true (by omega)
          go_wp2_with fail
          go_roundg (m - (j + 1))
          case measure => omega
          case rel => exact ⟨j + 1, by omega, rfl, by go_num, by rw [← HU.out], by rw [← HV.out], HB, HD⟩
        · obtain rfl : j = m := by omega
          go_wp2_with fail
          go_ret
          exact ⟨rfl, HB.out.out⟩
end Go.Proofs.YtoobfcekgfgipaaDoor
