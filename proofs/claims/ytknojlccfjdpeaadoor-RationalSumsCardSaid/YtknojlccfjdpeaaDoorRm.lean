
/- Plain mathematics of fractions in lowest terms. -/
namespace Go.Proofs.YtknojlccfjdpeaaDoor.Rat1

/-- the bound of numerators and denominators -/
def mx : Nat := 1073741824

/-- n / d in lowest terms: numerator, denominator, error number -/
def ofQ (n d : Int) : Int × Int × Int :=
  if d = 0 then (0, 1, 15) else
  if n.natAbs / Nat.gcd n.natAbs d.natAbs > mx ∨ d.natAbs / Nat.gcd n.natAbs d.natAbs > mx then (0, 1, 14) else
  (if (n < 0) ≠ (d < 0) then -((n.natAbs / Nat.gcd n.natAbs d.natAbs : Nat) : Int) else ((n.natAbs / Nat.gcd n.natAbs d.natAbs : Nat) : Int), ((d.natAbs / Nat.gcd n.natAbs d.natAbs : Nat) : Int), 0)

/-- a fraction in lowest terms within the bound -/
structure Low (a b : Int) : Prop where
  pos : 1 ≤ b
  le : b ≤ mx
  num : a.natAbs ≤ mx
  cop : Nat.gcd a.natAbs b.natAbs = 1

theorem cop_div {n d : Nat} (h : 0 < d) : Nat.gcd (n / Nat.gcd n d) (d / Nat.gcd n d) = 1 :=
  Nat.coprime_div_gcd_div_gcd (Nat.gcd_pos_of_pos_right _ h)

def ofN (n d : Int) : Int := (ofQ n d).1
def ofD (n d : Int) : Int := (ofQ n d).2.1
def ofE (n d : Int) : Int := (ofQ n d).2.2
theorem ofQ_zero (n : Int) : ofQ n 0 = (0, 1, 15) := by simp [ofQ]

theorem ofQ_low {n d a b : Int} (h : ofQ n d = (a, b, 0)) : Low a b ∧ d ≠ 0 ∧ a * d = n * b := by
  unfold ofQ at h
  by_cases hd : d = 0
  · simp [hd] at h
  · rw [if_neg hd] at h
    have hdp : 0 < d.natAbs := by omega
    have hg : 0 < Nat.gcd n.natAbs d.natAbs := Nat.gcd_pos_of_pos_right _ hdp
    have h1 : n.natAbs / Nat.gcd n.natAbs d.natAbs * Nat.gcd n.natAbs d.natAbs = n.natAbs := Nat.div_mul_cancel (Nat.gcd_dvd_left _ _)
    have h2 : d.natAbs / Nat.gcd n.natAbs d.natAbs * Nat.gcd n.natAbs d.natAbs = d.natAbs := Nat.div_mul_cancel (Nat.gcd_dvd_right _ _)
    have h3 := cop_div (n := n.natAbs) hdp
    generalize n.natAbs / Nat.gcd n.natAbs d.natAbs = p at *
    generalize d.natAbs / Nat.gcd n.natAbs d.natAbs = q at *
    generalize Nat.gcd n.natAbs d.natAbs = g at *
    by_cases hb : p > mx ∨ q > mx
    · simp [hb] at h
    · rw [if_neg hb] at h
      have hq : 0 < q := by
        rcases Nat.eq_zero_or_pos q with h0 | h0
        · subst h0; omega
        · exact h0
      simp only [Prod.mk.injEq] at h
      obtain ⟨rfl, rfl, _⟩ := h
      refine ⟨⟨by omega, by omega, by split <;> omega, by split <;> simpa using h3⟩, hd, ?_⟩
      have h1' : (p : Int) * g = n.natAbs := by exact_mod_cast h1
      have h2' : (q : Int) * g = d.natAbs := by exact_mod_cast h2
      rcases Int.lt_or_le n 0 with hn | hn <;> rcases Int.lt_or_le d 0 with hd0 | hd0
      · rw [if_neg (by simp [hn, hd0])]
        have e1 : n = -((p:Int) * g) := by omega
        have e2 : d = -((q:Int) * g) := by omega
        rw [e1, e2]; grind
      · rw [if_pos (by simp [hn]; omega)]
        have e1 : n = -((p:Int) * g) := by omega
        have e2 : d = ((q:Int) * g) := by omega
        rw [e1, e2]; grind
      · rw [if_pos (by simp [hd0]; omega)]
        have e1 : n = ((p:Int) * g) := by omega
        have e2 : d = -((q:Int) * g) := by omega
        rw [e1, e2]; grind
      · rw [if_neg (by simp; omega)]
        have e1 : n = ((p:Int) * g) := by omega
        have e2 : d = ((q:Int) * g) := by omega
        rw [e1, e2]; grind

/-- two fractions in lowest terms with the same value are the same -/
theorem low_eq {a b c d : Int} (h1 : Nat.gcd a.natAbs b.natAbs = 1) (h2 : Nat.gcd c.natAbs d.natAbs = 1) (hb : 1 ≤ b) (hd : 1 ≤ d) (h : a * d = c * b) : a = c ∧ b = d := by
  have e : a.natAbs * d.natAbs = c.natAbs * b.natAbs := by rw [← Int.natAbs_mul, ← Int.natAbs_mul, h]
  have db : d.natAbs ∣ b.natAbs := by
    have : d.natAbs ∣ c.natAbs * b.natAbs := by rw [← e]; exact Nat.dvd_mul_left _ _
    exact (Nat.Coprime.symm h2).dvd_of_dvd_mul_left this
  have bd : b.natAbs ∣ d.natAbs := by
    have : b.natAbs ∣ a.natAbs * d.natAbs := by rw [e]; exact Nat.dvd_mul_left _ _
    exact (Nat.Coprime.symm h1).dvd_of_dvd_mul_left this
  have hbd : b.natAbs = d.natAbs := Nat.dvd_antisymm bd db
  have hbd' : b = d := by omega
  subst hbd'
  exact ⟨Int.eq_of_mul_eq_mul_right (by omega) h, rfl⟩

/-- the sign of the numerator -/
theorem sign_of {n d a b : Int} (hb : 1 ≤ b) (hd : d ≠ 0) (h : a * d = n * b) :
    ((n ≤ 0 ∧ d ≤ 0 ∨ 0 ≤ n ∧ 0 ≤ d) → 0 ≤ a) ∧ ((n ≤ 0 ∧ 0 ≤ d ∨ 0 ≤ n ∧ d ≤ 0) → a ≤ 0) := by
  have hdd : 0 < d * d := by
    rcases Int.lt_or_le d 0 with h0 | h0
    · exact Int.mul_pos_of_neg_of_neg h0 h0
    · exact Int.mul_pos (by omega) (by omega)
  have e : a * (d * d) = n * d * b := by grind
  constructor
  · intro hs
    have : 0 ≤ n * d := by
      rcases hs with ⟨x, y⟩ | ⟨x, y⟩
      · exact Int.mul_nonneg_of_nonpos_of_nonpos x y
      · exact Int.mul_nonneg x y
    have : 0 ≤ n * d * b := Int.mul_nonneg this (by omega)
    rw [← e] at this
    exact Int.nonneg_of_mul_nonneg_left this hdd
  · intro hs
    have : n * d ≤ 0 := by
      rcases hs with ⟨x, y⟩ | ⟨x, y⟩
      · exact Int.mul_nonpos_of_nonpos_of_nonneg x y
      · exact Int.mul_nonpos_of_nonneg_of_nonpos x y
    have : n * d * b ≤ 0 := Int.mul_nonpos_of_nonpos_of_nonneg this (by omega)
    rw [← e] at this
    rcases Int.lt_or_le 0 a with h1 | h1
    · have := Int.mul_pos h1 hdd; omega
    · exact h1

/-- what is in lowest terms and of the same value is what ofQ returns -/
theorem ofQ_eq {n d a b : Int} (hl : Low a b) (hd : d ≠ 0) (h : a * d = n * b) : ofQ n d = (a, b, 0) := by
  have hdp : 0 < d.natAbs := by omega
  have h1 : n.natAbs / Nat.gcd n.natAbs d.natAbs * Nat.gcd n.natAbs d.natAbs = n.natAbs := Nat.div_mul_cancel (Nat.gcd_dvd_left _ _)
  have h2 : d.natAbs / Nat.gcd n.natAbs d.natAbs * Nat.gcd n.natAbs d.natAbs = d.natAbs := Nat.div_mul_cancel (Nat.gcd_dvd_right _ _)
  have h3 := cop_div (n := n.natAbs) hdp
  have e : a.natAbs * d.natAbs = n.natAbs * b.natAbs := by rw [← Int.natAbs_mul, ← Int.natAbs_mul, h]
  unfold ofQ
  rw [if_neg hd]
  have hg : 0 < Nat.gcd n.natAbs d.natAbs := Nat.gcd_pos_of_pos_right _ hdp
  generalize n.natAbs / Nat.gcd n.natAbs d.natAbs = p at *
  generalize d.natAbs / Nat.gcd n.natAbs d.natAbs = q at *
  generalize Nat.gcd n.natAbs d.natAbs = g at *
  have hq : 1 ≤ q := by
    rcases Nat.eq_zero_or_pos q with h0 | h0
    · subst h0; omega
    · exact h0
  have hb := hl.pos
  have key : (p : Int) = (a.natAbs : Int) ∧ (q : Int) = (b.natAbs : Int) := by
    refine low_eq (a := (p : Int)) (b := (q : Int)) (c := (a.natAbs : Int)) (d := (b.natAbs : Int)) (by simpa using h3) (by simpa using hl.cop) (by omega) (by omega) ?_
    have : p * b.natAbs * g = a.natAbs * q * g := by grind
    have := Nat.eq_of_mul_eq_mul_right hg this
    exact_mod_cast this
  have k1 : p = a.natAbs := by omega
  have k2 : q = b.natAbs := by omega
  subst k1 k2
  rw [if_neg (by have := hl.num; have := hl.le; omega)]
  have hb2 : ((b.natAbs : Nat) : Int) = b := by omega
  rw [hb2]
  have sg := sign_of hb hd h
  rcases Int.lt_or_le n 0 with hn | hn <;> rcases Int.lt_or_le d 0 with hd0 | hd0
  · rw [if_neg (by simp [hn, hd0])]
    have := sg.1 (by omega)
    congr 1; omega
  · rw [if_pos (by simp [hn]; omega)]
    have := sg.2 (by omega)
    congr 1; omega
  · rw [if_pos (by simp [hd0]; omega)]
    have := sg.2 (by omega)
    congr 1; omega
  · rw [if_neg (by simp; omega)]
    have := sg.1 (by omega)
    congr 1; omega
theorem prod_bd {a b : Int} (h1 : -1073741824 ≤ a) (h2 : a ≤ 1073741824) (h3 : -1073741824 ≤ b) (h4 : b ≤ 1073741824) :
    -1152921504606846976 ≤ a * b ∧ a * b ≤ 1152921504606846976 := by
  have e : (a * b).natAbs ≤ 1073741824 * 1073741824 := by
    rw [Int.natAbs_mul]
    exact Nat.mul_le_mul (by omega) (by omega)
  omega
end Go.Proofs.YtknojlccfjdpeaaDoor.Rat1
