import Derived.Test.YtknojlccfjdpeaaDoorRm
namespace Go.Proofs.YtknojlccfjdpeaaDoor.Rat1

/-- the distance of a fraction from N / D, times both denominators -/
def gap (N D : Int) (c : Int × Int) : Int := if N * c.2 - c.1 * D < 0 then -(N * c.2 - c.1 * D) else N * c.2 - c.1 * D

theorem gap_nonneg (N D : Int) (c : Int × Int) : 0 ≤ gap N D c := by unfold gap; split <;> omega

def nearB (N D : Int) (a b : Int × Int) : Bool := decide (gap N D a * b.2 < gap N D b * a.2)

def stepB (N D : Int) (best c : Int × Int) : Int × Int := if nearB N D c best then c else best

/-- earlier in the order of the search -/
def Earl (c d : Int × Int) : Prop := c.2 < d.2 ∨ c.2 = d.2 ∧ c.1 < d.1

theorem le_trans_gap {x a y b z c : Int} (ha : 0 < a) (hb : 0 < b) (hc : 0 < c) (h1 : x * b ≤ y * a) (h2 : y * c ≤ z * b) : x * c ≤ z * a := by
  have e1 : x * b * c ≤ y * a * c := Int.mul_le_mul_of_nonneg_right h1 (by omega)
  have e2 : y * c * a ≤ z * b * a := Int.mul_le_mul_of_nonneg_right h2 (by omega)
  have e3 : b * (x * c) ≤ b * (z * a) := by grind
  exact Int.le_of_mul_le_mul_left e3 hb

theorem lt_le_trans_gap {x a y b z c : Int} (ha : 0 < a) (hb : 0 < b) (hc : 0 < c) (h1 : x * b < y * a) (h2 : y * c ≤ z * b) : x * c < z * a := by
  have e1 : x * b * c < y * a * c := Int.mul_lt_mul_of_pos_right h1 hc
  have e2 : y * c * a ≤ z * b * a := Int.mul_le_mul_of_nonneg_right h2 (by omega)
  have e3 : b * (x * c) < b * (z * a) := by grind
  exact Int.lt_of_mul_lt_mul_left e3 (by omega)

theorem le_lt_trans_gap {x a y b z c : Int} (ha : 0 < a) (hb : 0 < b) (hc : 0 < c) (h1 : x * b ≤ y * a) (h2 : y * c < z * b) : x * c < z * a := by
  have e1 : x * b * c ≤ y * a * c := Int.mul_le_mul_of_nonneg_right h1 (by omega)
  have e2 : y * c * a < z * b * a := Int.mul_lt_mul_of_pos_right h2 ha
  have e3 : b * (x * c) < b * (z * a) := by grind
  exact Int.lt_of_mul_lt_mul_left e3 (by omega)

theorem fold_best (N D : Int) : ∀ (cs : List (Int × Int)) (i : Int × Int), (∀ c ∈ i :: cs, 0 < c.2) → List.Pairwise Earl (i :: cs) →
    (cs.foldl (stepB N D) i) ∈ i :: cs ∧ ∀ c ∈ i :: cs, gap N D (cs.foldl (stepB N D) i) * c.2 ≤ gap N D c * (cs.foldl (stepB N D) i).2 ∧
      (Earl c (cs.foldl (stepB N D) i) → gap N D (cs.foldl (stepB N D) i) * c.2 < gap N D c * (cs.foldl (stepB N D) i).2) := by
  intro cs
  induction cs with
  | nil =>
    intro i _ _
    refine ⟨by simp, ?_⟩
    intro c hc
    simp at hc
    subst hc
    refine ⟨by simp, ?_⟩
    intro he
    simp only [List.foldl_nil, Earl] at he
    omega
  | cons c cs ih =>
    intro i hp hs
    have hpi : 0 < i.2 := hp i (by simp)
    have hpc : 0 < c.2 := hp c (by simp)
    simp only [List.pairwise_cons] at hs
    obtain ⟨hi, hc, hcs⟩ := hs
    have hic : Earl i c := hi c (by simp)
    rw [List.foldl_cons]
    by_cases hn : nearB N D c i = true
    · have hst : stepB N D i c = c := by simp [stepB, hn]
      rw [hst]
      have hlt : gap N D c * i.2 < gap N D i * c.2 := by simpa [nearB] using hn
      obtain ⟨hm, hall⟩ := ih c (fun x hx => hp x (by simp at hx ⊢; rcases hx with h | h <;> simp [h])) (List.pairwise_cons.2 ⟨hc, hcs⟩)
      refine ⟨List.mem_cons_of_mem _ hm, ?_⟩
      intro x hx
      rcases List.mem_cons.1 hx with rfl | hx
      · have hmp : 0 < (List.foldl (stepB N D) c cs).2 := hp _ (List.mem_cons_of_mem _ hm)
        have h1 := (hall c (by simp)).1
        have := le_lt_trans_gap hmp hpc hpi h1 hlt
        exact ⟨by omega, fun _ => this⟩
      · exact hall x hx
    · have hst : stepB N D i c = i := by simp [stepB, hn]
      rw [hst]
      have hle : gap N D i * c.2 ≤ gap N D c * i.2 := by
        have : ¬ gap N D c * i.2 < gap N D i * c.2 := by simpa [nearB] using hn
        omega
      obtain ⟨hm, hall⟩ := ih i (fun x hx => hp x (by simp at hx ⊢; rcases hx with h | h <;> simp [h])) (List.pairwise_cons.2 ⟨fun x hx => hi x (by simp [hx]), hcs⟩)
      have hmm : List.foldl (stepB N D) i cs ∈ i :: c :: cs := by
        rcases List.mem_cons.1 hm with h | h
        · rw [h]; simp
        · exact List.mem_cons_of_mem _ (List.mem_cons_of_mem _ h)
      have hmp : 0 < (List.foldl (stepB N D) i cs).2 := hp _ hmm
      refine ⟨hmm, ?_⟩
      intro x hx
      rcases List.mem_cons.1 hx with rfl | hx
      · exact hall x (by simp)
      · rcases List.mem_cons.1 hx with rfl | hx
        · have h1 := hall i (by simp)
          refine ⟨le_trans_gap hmp hpi hpc h1.1 hle, ?_⟩
          intro he
          rcases List.mem_cons.1 hm with h | h
          · exfalso
            rw [h] at he
            unfold Earl at he hic
            omega
          · have : Earl i (List.foldl (stepB N D) i cs) := hi _ (by simp [h])
            exact lt_le_trans_gap hmp hpi hpc (h1.2 this) hle
        · exact hall x (by simp [hx])

/-- what is nearest and, of the nearest, the earliest, is what the search finds -/
theorem fold_eq (N D : Int) (cs : List (Int × Int)) (i m : Int × Int) (hp : ∀ c ∈ i :: cs, 0 < c.2) (hs : List.Pairwise Earl (i :: cs)) (hm : m ∈ i :: cs)
    (h : ∀ c ∈ i :: cs, gap N D m * c.2 ≤ gap N D c * m.2 ∧ (Earl c m → gap N D m * c.2 < gap N D c * m.2)) : cs.foldl (stepB N D) i = m := by
  obtain ⟨h1, h2⟩ := fold_best N D cs i hp hs
  generalize List.foldl (stepB N D) i cs = f at *
  have a := h2 m hm
  have b := h f h1
  by_cases e1 : Earl f m
  · have := b.2 e1; omega
  · by_cases e2 : Earl m f
    · have := a.2 e2; omega
    · unfold Earl at e1 e2
      obtain ⟨f1, f2⟩ := f
      obtain ⟨m1, m2⟩ := m
      simp at *
      constructor <;> omega

/-- one of two neighbours is nearer than every fraction with a small denominator -/
theorem chosen {N D p q p' q' al be s k e most : Int} (hs : s = 1 ∨ s = -1) (hq : 1 ≤ q) (hq' : 1 ≤ q') (ha : 1 ≤ al) (hb : 1 ≤ be) (h1 : N * q - p * D = s * al) (h2 : N * q' - p' * D = -(s * be))
    (h3 : p * q' - p' * q = -s) (hm : most < q + q') (he : 1 ≤ e) (hem : e ≤ most) (hD : 0 < D)
    (hbest : al * q' < be * q ∨ al * q' = be * q ∧ (q < q' ∨ q = q' ∧ p ≤ p')) :
    gap N D (p, q) * e ≤ gap N D (k, e) * q ∧ (Earl (k, e) (p, q) → gap N D (p, q) * e < gap N D (k, e) * q) := by
  have hDe : D = al * q' + be * q := by
    rcases hs with rfl | rfl <;> grind
  have hga : gap N D (p, q) = al := by
    unfold gap; simp only; rw [h1]
    rcases hs with rfl | rfl <;> split <;> omega
  rw [hga]
  -- u and v
  have hv : ∃ u v, q * u + q' * v = e ∧ (N * e - k * D = s * (al * u - be * v)) ∧ (v = 0 → k * q = p * e) ∧ (u = 0 → k * q' = p' * e) := by
    refine ⟨s * (p' * e - k * q'), s * (k * q - p * e), ?_, ?_, ?_, ?_⟩
    · rcases hs with rfl | rfl <;> grind
    · rcases hs with rfl | rfl <;> grind
    · intro h; rcases hs with rfl | rfl <;> omega
    · intro h; rcases hs with rfl | rfl <;> omega
  obtain ⟨u, v, huv, hgap, hv0, hu0⟩ := hv
  by_cases hvp : v ≤ 0
  · have hu : 1 ≤ u := by
      have : q' * v ≤ 0 := Int.mul_nonpos_of_nonneg_of_nonpos (by omega) hvp
      have : 0 < q * u := by omega
      have := Int.pos_of_mul_pos_right this (by omega)
      omega
    have hg : gap N D (k, e) = al * u - be * v := by
      have h5 : 0 ≤ al * u := Int.mul_nonneg (by omega) (by omega)
      have h6 : be * v ≤ 0 := Int.mul_nonpos_of_nonneg_of_nonpos (by omega) hvp
      unfold gap; simp only; rw [hgap]
      rcases hs with rfl | rfl <;> split <;> omega
    rw [hg]
    have key : (al * u - be * v) * q = al * e + (-v) * D := by rw [hDe]; grind
    rw [key]
    have hvD : 0 ≤ (-v) * D := Int.mul_nonneg (by omega) (by omega)
    refine ⟨by omega, ?_⟩
    intro hearl
    by_cases hv1 : v = 0
    · exfalso
      have hkq := hv0 hv1
      subst hv1
      -- e = q * u
      have heq : e = q * u := by omega
      unfold Earl at hearl
      simp only at hearl
      have hqe : q ≤ e := by
        have := Int.mul_le_mul_of_nonneg_left hu (show 0 ≤ q by omega)
        omega
      rcases hearl with h | ⟨h, h'⟩
      · omega
      · subst h
        have : k = p := Int.eq_of_mul_eq_mul_right (by omega) hkq
        omega
    · have : 0 < (-v) * D := Int.mul_pos (by omega) hD
      omega
  · have hu : u ≤ 0 := by
      rcases Int.lt_or_le 0 u with h | h
      · exfalso
        have a1 := Int.mul_le_mul_of_nonneg_left (show 1 ≤ u by omega) (show 0 ≤ q by omega)
        have a2 := Int.mul_le_mul_of_nonneg_left (show 1 ≤ v by omega) (show 0 ≤ q' by omega)
        omega
      · exact h
    have hg : gap N D (k, e) = be * v - al * u := by
      have h5 : 0 ≤ be * v := Int.mul_nonneg (by omega) (by omega)
      have h6 : al * u ≤ 0 := Int.mul_nonpos_of_nonneg_of_nonpos (by omega) hu
      unfold gap; simp only; rw [hgap]
      rcases hs with rfl | rfl <;> split <;> omega
    rw [hg]
    have key : (be * v - al * u) * q' = be * e + (-u) * D := by rw [hDe]; grind
    have huD : 0 ≤ (-u) * D := Int.mul_nonneg (by omega) (by omega)
    have hle : al * q' ≤ be * q := by omega
    have e1 : al * q' * e ≤ be * q * e := Int.mul_le_mul_of_nonneg_right hle (by omega)
    have e2 : 0 ≤ (-u) * D * q := Int.mul_nonneg huD (by omega)
    have e3 : (be * v - al * u) * q * q' = be * q * e + (-u) * D * q := by rw [show (be * v - al * u) * q * q' = (be * v - al * u) * q' * q by grind, key]; grind
    constructor
    · have : q' * (al * e) ≤ q' * ((be * v - al * u) * q) := by grind
      exact Int.le_of_mul_le_mul_left this (by omega)
    · intro hearl
      have : q' * (al * e) < q' * ((be * v - al * u) * q) := by
        by_cases hst : al * q' < be * q
        · have : al * q' * e < be * q * e := Int.mul_lt_mul_of_pos_right hst (by omega)
          grind
        · by_cases hu1 : u = 0
          · exfalso
            have hkq := hu0 hu1
            subst hu1
            have heq : e = q' * v := by omega
            have hqe : q' ≤ e := by
              have := Int.mul_le_mul_of_nonneg_left (show 1 ≤ v by omega) (show 0 ≤ q' by omega)
              omega
            unfold Earl at hearl
            simp only at hearl
            rcases hbest with hb | ⟨_, hb⟩
            · omega
            · rcases hb with hb | ⟨hb, hb'⟩
              · omega
              · rcases hearl with h | ⟨h, h'⟩
                · omega
                · have : e = q' := by omega
                  subst this
                  have : k = p' := Int.eq_of_mul_eq_mul_right (by omega) hkq
                  omega
          · have : 0 < (-u) * D * q := Int.mul_pos (Int.mul_pos (by omega) hD) (by omega)
            grind
      exact Int.lt_of_mul_lt_mul_left this (by omega)
end Go.Proofs.YtknojlccfjdpeaaDoor.Rat1
