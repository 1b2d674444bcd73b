/- Clefs: law ClefMirrors. -/
import Derived.Test.YtmdnlnjapkcanaaDoorCj
namespace Go.Proofs.YtmdnlnjapkcanaaDoor
open Go.RowKit
set_option linter.unusedVariables false
set_option linter.unusedSimpArgs false

theorem ledL_pos {n : Int} (h0 : 0 ≤ n) (h1 : n ≤ 200) : ledL n = ledK 1 (ledN n) := by
  unfold ledL
  rw [if_neg (by omega), ledN_neg (p := -n) (by omega)]
  simp [ledK]
theorem ledL_neg {n : Int} (h0 : 0 ≤ n) (h1 : n ≤ 200) : ledL (-n) = ledK (-1) (ledN n) := by
  unfold ledL
  rw [if_neg (by omega), ledN_neg (p := -n) (by omega), Int.neg_neg]
  simp [ledK]
theorem ledK_at {s : Int} {k j : Nat} (h : j < k) : (ledK s k)[j]? = some (s * (6 + 2 * (j : Int))) := by
  simp [ledK, h]
set_option maxRecDepth 100000 in
set_option maxHeartbeats 4000000 in
theorem mir_ok (x : Int) (w : World) (x0 : 0 ≤ x) (x1 : x ≤ 255) (hc : CW w) :
    Calls Tryd.prog 7 #[.int .u8 x] w fun e w' => e = .returned (.bool true) ∧ Below w.heap.size w w' := by
  have B0 := Lib.hid (Bel.refl w)
  have C0 := Lib.hid hc
  have hx : x.tmod 197 = x % 197 := Int.tmod_eq_emod_of_nonneg x0
  obtain ⟨n, hn⟩ : ∃ n, x.tmod 197 = n := ⟨_, rfl⟩
  have n0 : 0 ≤ n := by omega
  have n1 : n ≤ 196 := by omega
  clear hx
  have HN := Lib.hid hn
  go_enter Tryd.func7, Tryd.ntmps7
  go_wp2_with fail

  refine (led_any n _).mono ?_
  rintro e w1 ⟨v1, rfl, hown, hb⟩
  rw [ledL_pos n0 (by omega)] at hown
  obtain ⟨ad1, cap1, rfl, hr⟩ := row1_own hown
  have P1 := Lib.hid (show OptRow _ ad1 (ledK 1 (ledN n)) from hr)
  have B1 := Lib.hid (B0.out.up hb)
  have C1 := Lib.hid (C0.out.below hb)
  clear hb hown hr B0 C0
  go_wp2_with fail
  refine (led_any (-n) _).mono ?_
  rintro e w2 ⟨v2, rfl, hown, hb⟩
  rw [ledL_neg n0 (by omega)] at hown
  obtain ⟨ad2, cap2, rfl, hr⟩ := row1_own hown
  have P2 := Lib.hid (P1.out.up hb)
  have Q2 := Lib.hid (show OptRow _ ad2 (ledK (-1) (ledN n)) from hr)
  have B2 := Lib.hid (B1.out.up hb)
  have C2 := Lib.hid (C1.out.below hb)
  clear hb hown hr B1 C1 P1
  go_wp2_with fail
  refine (led_any (n + 2) _).mono ?_
  rintro e w3 ⟨v3, rfl, hown, hb⟩
  rw [ledL_pos (n := n + 2) (by omega) (by omega)] at hown
  obtain ⟨ad3, cap3, rfl, hr⟩ := row1_own hown
  have P3 := Lib.hid (P2.out.up hb)
  have Q3 := Lib.hid (Q2.out.up hb)
  have R3 := Lib.hid (show OptRow _ ad3 (ledK 1 (ledN (n + 2))) from hr)
  have B3 := Lib.hid (B2.out.up hb)
  have C3 := Lib.hid (C2.out.below hb)
  clear hb hown hr B2 C2 P2 Q2
  simp only [ledK_len]
  go_wp2_with fail
  refine (known_ok _ C3.out).mono ?_
  rintro e w4 ⟨rfl, hb⟩
  have P4 := Lib.hid (P3.out.up hb)
  have Q4 := Lib.hid (Q3.out.up hb)
  have R4 := Lib.hid (R3.out.up hb)
  have B4 := Lib.hid (B3.out.up hb)
  clear hb B3 C3 P3 Q3 R3
  obtain ⟨M, hM⟩ : ∃ M, ledN n = M := ⟨_, rfl⟩
  obtain ⟨K, hK⟩ : ∃ K, ledN (n + 2) = K := ⟨_, rfl⟩
  rw [hM] at P4 Q4 ⊢
  rw [hK] at R4 ⊢
  unfold ledN at hM hK
  have hK2 : (4 ≤ n ∧ K = M + 1) ∨ (n < 4 ∧ M = 0 ∧ K = 0) := by omega
  have hMK : M ≤ K := by omega
  have hM3 : M ≤ 100 := by omega
  clear hM hK
  go_wp2_with fail
  go_loopg [7] M (fun gm i wr => ∃ k : Nat, k ≤ M ∧ gm = M - k ∧ i = .int .i64 (k : Int) ∧ Hid (OptRow wr ad1 (ledK 1 M)) ∧ Hid (OptRow wr ad2 (ledK (-1) M)) ∧ Hid (OptRow wr ad3 (ledK 1 K)) ∧ Hid (Bel w wr))
  case atStart => exact ⟨0, by omega, by omega, rfl, P4, Q4, R4, B4⟩
  case round =>
    obtain ⟨k, hk, rfl, rfl, HX, HY, HZ, HB⟩ := hrel
    clear P4 Q4 R4 B4
    by_cases hlt : k < M
    · obtain ⟨g1, rfl, r1⟩ := HX.out (by rintro e; have := congrArg List.length e; rw [ledK_len] at this; simp at this; omega)
      obtain ⟨g2, rfl, r2⟩ := HY.out (by rintro e; have := congrArg List.length e; rw [ledK_len] at this; simp at this; omega)
      obtain ⟨g3, rfl, r3⟩ := HZ.out (by rintro e; have := congrArg List.length e; rw [ledK_len] at this; simp at this; omega)
      have q1 := r1 k _ (ledK_at hlt)
      have q2 := r2 k _ (ledK_at hlt)
      have q3 := r3 k _ (ledK_at (k := K) (by omega))
      rw [show (1 : Int) * (6 + 2 * (k : Int)) = 6 + 2 * (k : Int) by omega] at q1 q3
      rw [show (-1 : Int) * (6 + 2 * (k : Int)) = -(6 + 2 * (k : Int)) by omega] at q2
      have hkK : ¬ (K : Int) ≤ (k : Int) := by omega
      have hkK2 : k < K := by omega
      have i2 : IntKind.i64.wrap (2 * (k : Int)) = 2 * (k : Int) := (IntWalk.i64_left _).trans (IntWalk.wrap64_in _ ⟨by omega, by omega⟩)
      have d1 : decide ((K : Int) ≤ (k : Int)) = false := by simpa using hkK2
      have d2 : decide (K ≤ k) = false := by simpa using hkK2
      have i1 : IntKind.i64.wrap (6 + 2 * (k : Int)) = 6 + 2 * (k : Int) := (IntWalk.i64_left _).trans (IntWalk.wrap64_in _ ⟨by omega, by omega⟩)
      clear r1 r2 r3
      go_wp2_with fail
      go_quiet (fail)
      go_wp2_with fail
      go_roundg (M - (k + 1))
      case measure => omega
      case rel => exact ⟨k + 1, by omega, rfl, by go_num, Lib.hid (HX.out.up (below_drewN (Below.refl _ _) _)), Lib.hid (HY.out.up (below_drewN (Below.refl _ _) _)), Lib.hid (HZ.out.up (below_drewN (Below.refl _ _) _)), Lib.hid (HB.out.up (below_drewN (Below.refl _ _) _))⟩
    · obtain rfl : k = M := by omega
      rcases hK2 with ⟨h4, rfl⟩ | ⟨h4, rfl, rfl⟩
      · have h4' : ¬ n < 4 := by omega
        go_wp2_with fail
        try (go_quiet (fail); go_wp2_with fail)
        go_ret
        exact ⟨by first | rfl | (simp; done) | (simp; omega), HB.out.out⟩
      · go_wp2_with fail
        try (go_quiet (fail); go_wp2_with fail)
        go_ret
        exact ⟨by first | rfl | (simp; done) | (simp; omega), HB.out.out⟩
theorem law_ClefMirrors (x : Int) (w : World) (x0 : 0 ≤ x) (x1 : x ≤ 255) (hc : CW w) :
    Calls Tryd.prog 7 #[.int .u8 x] w fun e w' => e = .returned (.bool true) ∧ Below w.heap.size w w' := mir_ok x w x0 x1 hc
end Go.Proofs.YtmdnlnjapkcanaaDoor
