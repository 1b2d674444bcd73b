/- The reference's search, as a fold over its candidates. -/
import Derived.Test.YtgbehiagkpcoaaaDoorBn
namespace Go.Proofs.YtgbehiagkpcoaaaDoor.Rat1

def bestUp (N D : Int) : Nat → Int × Int
  | 0 => (N / D, 1)
  | n + 1 => stepB N D (stepB N D (bestUp N D n) (N * ((n : Int) + 1) / D, (n : Int) + 1)) (N * ((n : Int) + 1) / D + 1, (n : Int) + 1)

def cands (N D : Int) : Nat → List (Int × Int)
  | 0 => []
  | n + 1 => cands N D n ++ [(N * ((n : Int) + 1) / D, (n : Int) + 1), (N * ((n : Int) + 1) / D + 1, (n : Int) + 1)]

theorem bestUp_fold (N D : Int) (n : Nat) : bestUp N D n = (cands N D n).foldl (stepB N D) (N / D, 1) := by
  induction n with
  | zero => rfl
  | succ n ih => simp [bestUp, cands, List.foldl_append, ih]

theorem cands_mem {N D : Int} {n : Nat} {c : Int × Int} (h : c ∈ cands N D n) : 1 ≤ c.2 ∧ c.2 ≤ n ∧ (c.1 = N * c.2 / D ∨ c.1 = N * c.2 / D + 1) := by
  induction n with
  | zero => simp [cands] at h
  | succ n ih =>
    simp only [cands, List.mem_append, List.mem_cons, List.not_mem_nil, or_false] at h
    rcases h with h | h | h
    · obtain ⟨a, b, c⟩ := ih h
      exact ⟨a, by omega, c⟩
    · subst h; exact ⟨by show (1 : Int) ≤ (n : Int) + 1; omega, by simp, .inl rfl⟩
    · subst h; exact ⟨by show (1 : Int) ≤ (n : Int) + 1; omega, by simp, .inr rfl⟩

theorem mem_cands {N D : Int} {n : Nat} {p q : Int} (h1 : 1 ≤ q) (h2 : q ≤ n) (h : p = N * q / D ∨ p = N * q / D + 1) : (p, q) ∈ cands N D n := by
  induction n with
  | zero => omega
  | succ n ih =>
    simp only [cands, List.mem_append, List.mem_cons, List.not_mem_nil, or_false]
    by_cases hq : q ≤ n
    · exact .inl (ih hq)
    · obtain rfl : q = (n : Int) + 1 := by omega
      rcases h with h | h
      · exact .inr (.inl (by rw [h]))
      · exact .inr (.inr (by rw [h]))

theorem cands_sorted (N D : Int) (n : Nat) : List.Pairwise Earl (cands N D n) := by
  induction n with
  | zero => exact List.Pairwise.nil
  | succ n ih =>
    refine List.pairwise_append.2 ⟨ih, ?_, ?_⟩
    · refine List.pairwise_cons.2 ⟨fun b hb => ?_, List.pairwise_singleton _ _⟩
      simp only [List.mem_cons, List.not_mem_nil, or_false] at hb
      subst hb
      exact .inr ⟨rfl, by simp; omega⟩
    · intro a ha b hb
      have h := (cands_mem ha).2.1
      simp only [List.mem_cons, List.not_mem_nil, or_false] at hb
      rcases hb with rfl | rfl
      · exact .inl (by simp; omega)
      · exact .inl (by simp; omega)

theorem cands_head (N D : Int) (n : Nat) (h : 1 ≤ n) : ∃ rest, cands N D n = (N / D, 1) :: rest := by
  induction n with
  | zero => omega
  | succ n ih =>
    by_cases hn : 1 ≤ n
    · obtain ⟨r, hr⟩ := ih hn
      exact ⟨r ++ [(N * ((n : Int) + 1) / D, (n : Int) + 1), (N * ((n : Int) + 1) / D + 1, (n : Int) + 1)], by rw [cands, hr]; rfl⟩
    · obtain rfl : n = 0 := by omega
      exact ⟨[(N / D + 1, 1)], by simp [cands]⟩

theorem stepB_self (N D : Int) (i : Int × Int) : stepB N D i i = i := by unfold stepB; split <;> rfl

theorem gap_floor {N D d : Int} (hD : 0 < D) : gap N D (N * d / D, d) ≤ D ∧ gap N D (N * d / D + 1, d) ≤ D := by
  have h1 := Int.emod_nonneg (N * d) (show D ≠ 0 by omega)
  have h2 := Int.emod_lt_of_pos (N * d) hD
  have h3 := Int.mul_ediv_add_emod (N * d) D
  have h4 : D * (N * d / D) = N * d / D * D := Int.mul_comm _ _
  have h5 : (N * d / D + 1) * D = N * d / D * D + D := by rw [Int.add_mul, Int.one_mul]
  unfold gap
  simp only
  generalize N * d / D * D = x at *
  constructor <;> split <;> omega

theorem bestUp_ok {N D : Int} (hD : 0 < D) (n : Nat) : 1 ≤ (bestUp N D n).2 ∧ ((bestUp N D n).2 ≤ n ∨ (bestUp N D n).2 = 1) ∧ gap N D (bestUp N D n) ≤ D := by
  induction n with
  | zero =>
    have h := (gap_floor (N := N) (d := 1) hD).1
    rw [Int.mul_one] at h
    exact ⟨by simp [bestUp], .inr rfl, h⟩
  | succ n ih =>
    have ⟨a, b⟩ := gap_floor (N := N) (d := (n : Int) + 1) hD
    rw [bestUp]
    obtain ⟨i1, i2, i3⟩ := ih
    have step1 : ∀ x c : Int × Int, stepB N D x c = c ∨ stepB N D x c = x := fun x c => by unfold stepB; split <;> simp
    rcases step1 (stepB N D (bestUp N D n) (N * ((n : Int) + 1) / D, (n : Int) + 1)) (N * ((n : Int) + 1) / D + 1, (n : Int) + 1) with h | h
    · rw [h]; exact ⟨by show (1 : Int) ≤ (n : Int) + 1; omega, by simp, b⟩
    · rw [h]
      rcases step1 (bestUp N D n) (N * ((n : Int) + 1) / D, (n : Int) + 1) with h | h
      · rw [h]; exact ⟨by show (1 : Int) ≤ (n : Int) + 1; omega, by simp, a⟩
      · rw [h]; exact ⟨i1, by omega, i3⟩

theorem bestUp_eq {N D : Int} {n : Nat} {m : Int × Int} (hn : 1 ≤ n) (hm : m ∈ cands N D n)
    (h : ∀ c ∈ cands N D n, gap N D m * c.2 ≤ gap N D c * m.2 ∧ (Earl c m → gap N D m * c.2 < gap N D c * m.2)) : bestUp N D n = m := by
  rw [bestUp_fold]
  obtain ⟨r, hr⟩ := cands_head N D n hn
  have hs := cands_sorted N D n
  have hp : ∀ c ∈ cands N D n, 0 < c.2 := fun c hc => by have := (cands_mem hc).1; omega
  rw [hr] at hm h hs hp ⊢
  rw [List.foldl_cons, stepB_self]
  exact fold_eq N D r _ m hp hs hm h

/-- what is nearest is among the candidates -/
theorem bestUp_of {N D p q : Int} {n : Nat} (hD : 0 < D) (h1 : 1 ≤ q) (h2 : q ≤ n) (hg : gap N D (p, q) ≤ D)
    (h : ∀ k e : Int, 1 ≤ e → e ≤ n → gap N D (p, q) * e ≤ gap N D (k, e) * q ∧ (Earl (k, e) (p, q) → gap N D (p, q) * e < gap N D (k, e) * q)) : bestUp N D n = (p, q) := by
  refine bestUp_eq (by omega) (mem_cands h1 h2 ?_) (fun c hc => h c.1 c.2 (cands_mem hc).1 (cands_mem hc).2.1)
  have a1 := Int.emod_nonneg (N * q) (show D ≠ 0 by omega)
  have a2 := Int.emod_lt_of_pos (N * q) hD
  have a3 := Int.mul_ediv_add_emod (N * q) D
  have a4 : D * (N * q / D) = N * q / D * D := Int.mul_comm _ _
  have hk := Int.le_of_mul_le_mul_right (h (N * q / D) q h1 h2).1 (show 0 < q by omega)
  have g1 : gap N D (N * q / D, q) = N * q - N * q / D * D := by
    unfold gap
    simp only
    rw [if_neg (by omega)]
  rw [g1] at hk
  have g2 : gap N D (p, q) = if N * q - p * D < 0 then -(N * q - p * D) else N * q - p * D := rfl
  have e1 : N * q % D = N * q - N * q / D * D := by omega
  -- |N q - p D| ≤ the rest
  by_cases hp : p ≤ N * q / D
  · by_cases he : p = N * q / D
    · exact .inl he
    · exfalso
      have : p * D ≤ (N * q / D - 1) * D := Int.mul_le_mul_of_nonneg_right (by omega) (by omega)
      rw [Int.sub_mul, Int.one_mul] at this
      rw [g2] at hk
      split at hk <;> omega
  · by_cases he : p = N * q / D + 1
    · exact .inr he
    · exfalso
      have : (N * q / D + 2) * D ≤ p * D := Int.mul_le_mul_of_nonneg_right (by omega) (by omega)
      rw [Int.add_mul] at this
      rw [g2] at hg
      split at hg <;> omega
end Go.Proofs.YtgbehiagkpcoaaaDoor.Rat1
