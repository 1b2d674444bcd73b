/- Plain mathematics of the neighbours of a fraction, by its continued fraction. -/
import Derived.Test.YtknojlccfjdpeaaDoorBm
namespace Go.Proofs.YtknojlccfjdpeaaDoor.Rat1
set_option linter.unusedVariables false

/-- what is fixed: N / D in lowest terms, and a bound of denominators below D -/
structure Fix (N D most : Int) : Prop where
  n0 : -1073741824 ≤ N
  n1 : N ≤ 1073741824
  d1 : D ≤ 1073741824
  m1 : 1 ≤ most
  md : most < D
  cop : Nat.gcd N.natAbs D.natAbs = 1

/-- behind the first round of the continued fraction -/
structure Cf (N D most ln lD nu de n d : Int) : Prop where
  de1 : 1 ≤ de
  dem : de ≤ most
  lD0 : 0 ≤ lD
  lDe : lD ≤ de
  d1 : 1 ≤ d
  dn : d < n
  nD : n ≤ D
  e1 : n * nu + d * ln = N
  e2 : n * de + d * lD = D
  det : ln * de - nu * lD = 1 ∨ ln * de - nu * lD = -1
  nu0 : -1073741824 ≤ nu
  nu1 : nu ≤ 1073741824
  ln0 : -1073741824 ≤ ln
  ln1 : ln ≤ 1073741824

def CfAny (N D most ln lD nu de n d : Int) : Prop :=
  (ln = 0 ∧ lD = 1 ∧ nu = 1 ∧ de = 0 ∧ n = N ∧ d = D) ∨ Cf N D most ln lD nu de n d

theorem num_bd {N D p q r : Int} (n0 : -1073741824 ≤ N) (n1 : N ≤ 1073741824) (q0 : 0 ≤ q) (qD : q < D) (r0 : -D ≤ r) (r1 : r ≤ D) (h : p * D = N * q + r) : -1073741824 ≤ p ∧ p ≤ 1073741824 := by
  have a1 : N * q ≤ 1073741824 * q := Int.mul_le_mul_of_nonneg_right n1 q0
  have a2 : -1073741824 * q ≤ N * q := Int.mul_le_mul_of_nonneg_right n0 q0
  constructor
  · rcases Int.lt_or_le p (-1073741824) with h1 | h1
    · exfalso
      have : p * D ≤ (-1073741825) * D := Int.mul_le_mul_of_nonneg_right (by omega) (by omega)
      omega
    · exact h1
  · rcases Int.lt_or_le 1073741824 p with h1 | h1
    · exfalso
      have : 1073741825 * D ≤ p * D := Int.mul_le_mul_of_nonneg_right (by omega) (by omega)
      omega
    · exact h1

theorem cop_factor {N D a b g : Int} (h : Nat.gcd N.natAbs D.natAbs = 1) (h1 : g * a = N) (h2 : g * b = D) (hg : 1 ≤ g) : g = 1 := by
  have : g.natAbs ∣ Nat.gcd N.natAbs D.natAbs := Nat.dvd_gcd (by rw [← h1, Int.natAbs_mul]; exact Nat.dvd_mul_right _ _) (by rw [← h2, Int.natAbs_mul]; exact Nat.dvd_mul_right _ _)
  rw [h] at this
  have := Nat.le_of_dvd (by omega) this
  omega

theorem cf_first {N D most : Int} (F : Fix N D most) : Cf N D most 1 0 (N / D) 1 D (N - N / D * D) := by
  have hD : 0 < D := by have := F.m1; have := F.md; omega
  have hm : N - N / D * D = N % D := by rw [Int.emod_def]; grind
  have h1 := Int.emod_nonneg N (show D ≠ 0 by omega)
  have h2 := Int.emod_lt_of_pos N hD
  rw [hm]
  have h3 : 1 ≤ N % D := by
    rcases Int.lt_or_le 0 (N % D) with h | h
    · omega
    · exfalso
      have e : D * (N / D) = N := by have := Int.mul_ediv_add_emod N D; omega
      have := cop_factor (g := D) (a := N / D) (b := 1) F.cop e (by omega) (by omega)
      have := F.m1; have := F.md; omega
  have hb := num_bd (N := N) (D := D) (p := N / D) (q := 1) (r := -(N % D)) F.n0 F.n1 (by omega) (by have := F.m1; have := F.md; omega) (by omega) (by omega) (by have := Int.mul_ediv_add_emod N D; grind)
  exact ⟨by omega, F.m1, by omega, by omega, h3, h2, by omega, by have := Int.mul_ediv_add_emod N D; omega, by omega, .inl (by omega), hb.1, hb.2, by omega, by omega⟩

theorem cf_step {N D most ln lD nu de n d : Int} (F : Fix N D most) (h : CfAny N D most ln lD nu de n d) (hs : lD + n / d * de ≤ most) :
    Cf N D most nu de (ln + n / d * nu) (lD + n / d * de) d (n - n / d * d) := by
  rcases h with ⟨rfl, rfl, rfl, rfl, rfl, rfl⟩ | h
  · have := cf_first F
    simpa using this
  · obtain ⟨de1, dem, lD0, lDe, d1, dn, nD, e1, e2, det, nu0, nu1, ln0, ln1⟩ := h
    have hm : n - n / d * d = n % d := by rw [Int.emod_def]; grind
    have h1 := Int.emod_nonneg n (show d ≠ 0 by omega)
    have h2 := Int.emod_lt_of_pos n (show 0 < d by omega)
    have ht : 1 ≤ n / d := by rw [Int.le_ediv_iff_mul_le (by omega)]; omega
    generalize n / d = t at *
    have hde : de ≤ t * de := by
      have := Int.mul_le_mul_of_nonneg_right ht (show 0 ≤ de by omega)
      omega
    have e1' : d * (ln + t * nu) + (n - t * d) * nu = N := by rw [← e1]; grind
    have e2' : d * (lD + t * de) + (n - t * d) * de = D := by rw [← e2]; grind
    have det' : nu * (lD + t * de) - (ln + t * nu) * de = -(ln * de - nu * lD) := by grind
    have h3 : 1 ≤ n - t * d := by
      rcases Int.lt_or_le 0 (n - t * d) with h | h
      · omega
      · exfalso
        have z : n - t * d = 0 := by omega
        rw [z] at e1' e2'
        have g := cop_factor (g := d) (a := ln + t * nu) (b := lD + t * de) F.cop (by omega) (by omega) d1
        subst g
        have := F.md
        omega
    have key : (ln + t * nu) * D = N * (lD + t * de) + -((n - t * d) * -(ln * de - nu * lD)) := by
      rw [← e1', ← e2']; grind
    have hb : -1073741824 ≤ ln + t * nu ∧ ln + t * nu ≤ 1073741824 := by
      refine num_bd F.n0 F.n1 (by omega) (by have := F.md; omega) ?_ ?_ key
      · rcases det with e | e <;> rw [e] <;> omega
      · rcases det with e | e <;> rw [e] <;> omega
    exact ⟨by omega, hs, by omega, by omega, h3, by omega, by omega, e1', e2', by rcases det with e | e <;> rw [det', e] <;> simp, hb.1, hb.2, nu0, nu1⟩

/-- what is known of the two neighbours -/
structure Nb (N D most p q p' q' : Int) : Prop where
  q1 : 1 ≤ q
  qm : q ≤ most
  q1' : 1 ≤ q'
  qm' : q' ≤ most
  p0 : -1073741824 ≤ p
  p1 : p ≤ 1073741824
  p0' : -1073741824 ≤ p'
  p1' : p' ≤ 1073741824
  ex : ∃ s al be, (s = 1 ∨ s = -1) ∧ 1 ≤ al ∧ 1 ≤ be ∧ N * q - p * D = s * al ∧ N * q' - p' * D = -(s * be) ∧ p * q' - p' * q = -s
  sum : most < q + q'

theorem cf_end {N D most ln lD nu de n d : Int} (F : Fix N D most) (h : CfAny N D most ln lD nu de n d) (hs : most < lD + n / d * de) :
    1 ≤ de ∧ lD ≤ most ∧ Nb N D most nu de (ln + (most - lD) / de * nu) (lD + (most - lD) / de * de) := by
  rcases h with ⟨rfl, rfl, rfl, rfl, rfl, rfl⟩ | h
  · have := F.m1; omega
  · obtain ⟨de1, dem, lD0, lDe, d1, dn, nD, e1, e2, det, nu0, nu1, ln0, ln1⟩ := h
    have a1 := Int.ediv_mul_le (most - lD) (show de ≠ 0 by omega)
    have a2 := Int.lt_ediv_add_one_mul_self (most - lD) (show 0 < de by omega)
    have a3 : 0 ≤ (most - lD) / de := Int.ediv_nonneg (by omega) (by omega)
    have b1 := Int.ediv_mul_le n (show d ≠ 0 by omega)
    generalize (most - lD) / de = t at *
    generalize n / d = u at *
    have htu : t < u := by
      have : t * de < u * de := by omega
      exact Int.lt_of_mul_lt_mul_right this (by omega)
    have hbe : d ≤ n - t * d := by
      have : (t + 1) * d ≤ u * d := Int.mul_le_mul_of_nonneg_right (by omega) (by omega)
      have e : (t + 1) * d = t * d + d := by grind
      omega
    have htd : 0 ≤ t * d := Int.mul_nonneg a3 (by omega)
    have e3 : (t + 1) * de = t * de + de := by grind
    have hq' : 1 ≤ lD + t * de := by
      rcases Int.lt_or_le 0 lD with h | h
      · have : 0 ≤ t * de := Int.mul_nonneg a3 (by omega)
        omega
      · have z : lD = 0 := by omega
        subst z
        have ht : 1 ≤ t := by
          rcases Int.lt_or_le 0 t with h | h
          · omega
          · have z : t = 0 := by omega
            subst z
            omega
        have := Int.mul_le_mul_of_nonneg_right ht (show 0 ≤ de by omega)
        omega
    have k1 : N * de - nu * D = (ln * de - nu * lD) * d := by rw [← e1, ← e2]; grind
    have k2 : N * (lD + t * de) - (ln + t * nu) * D = -((ln * de - nu * lD) * (n - t * d)) := by rw [← e1, ← e2]; grind
    have k3 : nu * (lD + t * de) - (ln + t * nu) * de = -(ln * de - nu * lD) := by grind
    have hb : -1073741824 ≤ ln + t * nu ∧ ln + t * nu ≤ 1073741824 := by
      refine num_bd (D := D) (q := lD + t * de) (r := (ln * de - nu * lD) * (n - t * d)) F.n0 F.n1 (by omega) (by have := F.md; omega) ?_ ?_ (by omega)
      · rcases det with e | e <;> rw [e] <;> omega
      · rcases det with e | e <;> rw [e] <;> omega
    exact ⟨de1, by omega, ⟨de1, dem, hq', by omega, nu0, nu1, hb.1, hb.2, ⟨_, d, n - t * d, det, d1, by omega, k1, k2, k3⟩, by omega⟩⟩

/-- which of the two is chosen, and why it is best -/
def BestOf (N D most p q : Int) : Prop :=
  1 ≤ q ∧ q ≤ most ∧ -1073741824 ≤ p ∧ p ≤ 1073741824 ∧ gap N D (p, q) ≤ D ∧ Nat.gcd p.natAbs q.natAbs = 1 ∧
    ∀ k e, 1 ≤ e → e ≤ most → gap N D (p, q) * e ≤ gap N D (k, e) * q ∧ (Earl (k, e) (p, q) → gap N D (p, q) * e < gap N D (k, e) * q)

theorem cop_of_det {p q p' q' : Int} (h : p * q' - p' * q = 1 ∨ p * q' - p' * q = -1) : Nat.gcd p.natAbs q.natAbs = 1 := by
  have hd : ((Nat.gcd p.natAbs q.natAbs : Nat) : Int) ∣ 1 := by
    have h1 : ((Nat.gcd p.natAbs q.natAbs : Nat) : Int) ∣ p := Int.ofNat_dvd_left.2 (Nat.gcd_dvd_left _ _)
    have h2 : ((Nat.gcd p.natAbs q.natAbs : Nat) : Int) ∣ q := Int.ofNat_dvd_left.2 (Nat.gcd_dvd_right _ _)
    have h3 := Int.dvd_sub (Int.dvd_trans h1 (Int.dvd_mul_right p q')) (Int.dvd_trans h2 (Int.dvd_mul_left p' q))
    rcases h with e | e
    · rw [e] at h3; exact h3
    · rw [e] at h3; exact Int.dvd_neg.1 h3
  have := Int.natCast_dvd_natCast.1 (show ((Nat.gcd p.natAbs q.natAbs : Nat) : Int) ∣ ((1 : Nat) : Int) by simpa using hd)
  exact Nat.dvd_one.1 this

theorem Nb.swap {N D most p q p' q' : Int} (h : Nb N D most p q p' q') : Nb N D most p' q' p q := by
  obtain ⟨q1, qm, q1', qm', p0, p1, p0', p1', ⟨s, al, be, hs, ha, hb, e1, e2, e3⟩, sum⟩ := h
  exact ⟨q1', qm', q1, qm, p0', p1', p0, p1, ⟨-s, be, al, by omega, hb, ha, by grind, by grind, by grind⟩, by omega⟩

theorem Nb.best {N D most p q p' q' : Int} (h : Nb N D most p q p' q') (F : Fix N D most)
    (hc : gap N D (p, q) * q' < gap N D (p', q') * q ∨ gap N D (p, q) * q' = gap N D (p', q') * q ∧ (q < q' ∨ q = q' ∧ p ≤ p')) : BestOf N D most p q := by
  obtain ⟨q1, qm, q1', qm', p0, p1, p0', p1', ⟨s, al, be, hs, ha, hb, e1, e2, e3⟩, sum⟩ := h
  have hD : 0 < D := by have := F.m1; have := F.md; omega
  have g1 : gap N D (p, q) = al := by
    unfold gap; simp only; rw [e1]
    rcases hs with rfl | rfl <;> split <;> omega
  have g2 : gap N D (p', q') = be := by
    unfold gap; simp only; rw [e2]
    rcases hs with rfl | rfl <;> split <;> omega
  have hDe : D = al * q' + be * q := by
    rcases hs with rfl | rfl <;> grind
  rw [g1, g2] at hc
  have hal : al ≤ D := by
    have := Int.mul_le_mul_of_nonneg_left q1' (show 0 ≤ al by omega)
    have := Int.mul_nonneg (show 0 ≤ be by omega) (show 0 ≤ q by omega)
    omega
  exact ⟨q1, qm, p0, p1, by omega, cop_of_det (q' := q') (p' := p') (by omega), fun k e he hem => chosen hs q1 q1' ha hb e1 e2 e3 sum he hem hD hc⟩
end Go.Proofs.YtknojlccfjdpeaaDoor.Rat1
