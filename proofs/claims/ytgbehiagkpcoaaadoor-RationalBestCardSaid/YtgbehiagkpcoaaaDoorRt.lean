/- The best approximation, and the reference's. -/
import Derived.Test.YtgbehiagkpcoaaaDoorRs
namespace Go.Proofs.YtgbehiagkpcoaaaDoor
open Go.RowKit
set_option linter.unusedVariables false
set_option linter.unusedSimpArgs false

theorem bestUp_self {N D M : Int} (hl : Rat1.Low N D) (h : D ≤ M) : Rat1.bestUp N D M.toNat = (N, D) := by
  have h1 := hl.pos
  have g0 : Rat1.gap N D (N, D) = 0 := by simp [Rat1.gap]
  refine Rat1.bestUp_of (by omega) h1 (by omega) (by omega) fun k e he hm => ?_
  rw [g0, Int.zero_mul]
  have hg := Rat1.gap_nonneg N D (k, e)
  refine ⟨Int.mul_nonneg hg (by omega), fun hE => Int.mul_pos ?_ (by omega)⟩
  rcases Int.lt_or_eq_of_le hg with h0 | h0
  · exact h0
  · exfalso
    have e0 : N * e = k * D := by
      have : Rat1.gap N D (k, e) = if N * e - k * D < 0 then -(N * e - k * D) else N * e - k * D := rfl
      rw [this] at h0
      split at h0 <;> omega
    have hdvd : D.natAbs ∣ N.natAbs * e.natAbs := ⟨k.natAbs, by rw [← Int.natAbs_mul, e0, Int.natAbs_mul, Nat.mul_comm]⟩
    have hc : Nat.Coprime D.natAbs N.natAbs := by
      have := hl.cop
      rw [Nat.gcd_comm] at this
      exact this
    have hd := hc.dvd_of_dvd_mul_left hdvd
    have hle := Nat.le_of_dvd (by omega) hd
    rcases hE with hE | ⟨hE, hk⟩
    · have : e < D := hE
      omega
    · have e1 : e = D := hE
      have k1 : k < N := hk
      rw [e1] at e0
      have := Int.eq_of_mul_eq_mul_right (show D ≠ 0 by omega) e0
      omega

theorem best_B (N D M : Int) (w : World) (hl : Rat1.Low N D) (m0 : 1 ≤ M) (m1 : M ≤ 60) :
    Calls Tryd.prog 37 #[.agg #[.int .i64 N, .int .i64 (D - 1)], .int .i64 M] w fun e w' => ∃ p q, Hid (Rat1.bestUp N D M.toNat = (p, q) ∧ Rat1.Low p q) ∧ e = .returned (.tuple #[.agg #[.int .i64 p, .int .i64 (q - 1)], .int .i64 0]) ∧ Below w.heap.size w w' := by
  have p1 := hl.pos; have l1 := hl.le; have n1 := hl.num
  unfold Rat1.mx at l1 n1
  by_cases hD : D ≤ M
  · exact (best_self N (D - 1) M w (by omega) (by omega) (by omega) (by omega) (by omega) (by omega) (by omega)).mono fun e w' ⟨h1, h2⟩ => ⟨N, D, ⟨bestUp_self hl hD, hl⟩, h1, h2⟩
  · have F : Rat1.Fix N (D - 1 + 1) M := ⟨by omega, by omega, by omega, by omega, by omega, by rw [Int.sub_add_cancel]; exact hl.cop⟩
    refine (best_near N (D - 1) M w F).mono ?_
    rintro e w' ⟨p, q, hb, rfl, hw⟩
    rw [Int.sub_add_cancel] at hb
    obtain ⟨b1, b2, b3, b4, b5, b6, b7⟩ := hb
    exact ⟨p, q, ⟨Rat1.bestUp_of (by omega) b1 (by omega) b5 (fun k e h1 h2 => b7 k e h1 (by omega)), ⟨b1, by unfold Rat1.mx; omega, by unfold Rat1.mx; omega, b6⟩⟩, rfl, hw⟩
end Go.Proofs.YtgbehiagkpcoaaaDoor
