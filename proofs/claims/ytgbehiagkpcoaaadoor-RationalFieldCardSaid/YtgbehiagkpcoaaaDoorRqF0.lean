/- The walk of the law on sums and products. -/
import Derived.Test.YtgbehiagkpcoaaaDoorRqB
namespace Go.Proofs.YtgbehiagkpcoaaaDoor
open Go.RowKit
set_option linter.unusedVariables false
set_option linter.unusedSimpArgs false

/-- commutativity: the same expressions -/
theorem of_comm {n d n' d' : Int} (h1 : n = n') (h2 : d = d') : Rat1.ofN n' d' = Rat1.ofN n d ∧ Rat1.ofD n' d' = Rat1.ofD n d ∧ Rat1.ofE n' d' = Rat1.ofE n d := by
  subst h1 h2; exact ⟨rfl, rfl, rfl⟩
theorem assoc_add {a D c E u V : Int} (h1 : Rat1.Low a D) (h2 : Rat1.Low c E) (h3 : Rat1.Low u V)
    (e1 : Rat1.ofE (a * E + c * D) (D * E) = 0) (e2 : Rat1.ofE (c * V + u * E) (E * V) = 0)
    (e3 : Rat1.ofE (Rat1.ofN (a * E + c * D) (D * E) * V + u * Rat1.ofD (a * E + c * D) (D * E)) (Rat1.ofD (a * E + c * D) (D * E) * V) = 0) :
    Rat1.ofN (a * Rat1.ofD (c * V + u * E) (E * V) + Rat1.ofN (c * V + u * E) (E * V) * D) (D * Rat1.ofD (c * V + u * E) (E * V)) = Rat1.ofN (Rat1.ofN (a * E + c * D) (D * E) * V + u * Rat1.ofD (a * E + c * D) (D * E)) (Rat1.ofD (a * E + c * D) (D * E) * V) ∧
    Rat1.ofD (a * Rat1.ofD (c * V + u * E) (E * V) + Rat1.ofN (c * V + u * E) (E * V) * D) (D * Rat1.ofD (c * V + u * E) (E * V)) = Rat1.ofD (Rat1.ofN (a * E + c * D) (D * E) * V + u * Rat1.ofD (a * E + c * D) (D * E)) (Rat1.ofD (a * E + c * D) (D * E) * V) ∧
    Rat1.ofE (a * Rat1.ofD (c * V + u * E) (E * V) + Rat1.ofN (c * V + u * E) (E * V) * D) (D * Rat1.ofD (c * V + u * E) (E * V)) = 0 := by
  obtain ⟨hl, _, hq⟩ := Rat1.ofQ_low (ofQ_of e1)
  obtain ⟨hl2, _, hq2⟩ := Rat1.ofQ_low (ofQ_of e2)
  generalize Rat1.ofN (a * E + c * D) (D * E) = S at *
  generalize Rat1.ofD (a * E + c * D) (D * E) = T at *
  generalize Rat1.ofN (c * V + u * E) (E * V) = S' at *
  generalize Rat1.ofD (c * V + u * E) (E * V) = T' at *
  obtain ⟨hl3, _, hq3⟩ := Rat1.ofQ_low (ofQ_of e3)
  generalize Rat1.ofN (S * V + u * T) (T * V) = X at *
  generalize Rat1.ofD (S * V + u * T) (T * V) = Y at *
  have p1 := h1.pos; have p2 := h2.pos; have p3 := h3.pos; have p4 := hl.pos; have p5 := hl2.pos; have p6 := hl3.pos
  refine of_eq hl3 (Int.ne_of_gt (Int.mul_pos (by omega) (by omega))) ?_
  have k : (T * V * E) * (X * (D * T')) = (T * V * E) * ((a * T' + S' * D) * Y) := by
    have k1 : X * (T * V) = (S * V + u * T) * Y := hq3
    have k2 : (T * V * E) * (X * (D * T')) = (S * V + u * T) * Y * (E * D * T') := by rw [← k1]; grind
    rw [k2]
    have k3 : S * (D * E) = (a * E + c * D) * T := hq
    have k4 : S' * (E * V) = (c * V + u * E) * T' := hq2
    have k5 : (S * V + u * T) * Y * (E * D * T') = (S * (D * E)) * (V * Y * T') + u * T * Y * E * D * T' := by grind
    have k6 : (T * V * E) * ((a * T' + S' * D) * Y) = T * V * E * a * T' * Y + (S' * (E * V)) * (T * D * Y) := by grind
    rw [k5, k6, k3, k4]
    grind
  exact Int.eq_of_mul_eq_mul_left (Int.ne_of_gt (Int.mul_pos (Int.mul_pos (by omega) (by omega)) (by omega))) k
theorem distrib {a D c E u V : Int} (h1 : Rat1.Low a D) (h2 : Rat1.Low c E) (h3 : Rat1.Low u V)
    (e1 : Rat1.ofE (c * V + u * E) (E * V) = 0) (e2 : Rat1.ofE (a * c) (D * E) = 0) (e3 : Rat1.ofE (a * u) (D * V) = 0)
    (he : Rat1.ofE (a * Rat1.ofN (c * V + u * E) (E * V)) (D * Rat1.ofD (c * V + u * E) (E * V)) =
      Rat1.ofE (Rat1.ofN (a * c) (D * E) * Rat1.ofD (a * u) (D * V) + Rat1.ofN (a * u) (D * V) * Rat1.ofD (a * c) (D * E)) (Rat1.ofD (a * c) (D * E) * Rat1.ofD (a * u) (D * V))) :
    Rat1.ofN (Rat1.ofN (a * c) (D * E) * Rat1.ofD (a * u) (D * V) + Rat1.ofN (a * u) (D * V) * Rat1.ofD (a * c) (D * E)) (Rat1.ofD (a * c) (D * E) * Rat1.ofD (a * u) (D * V)) = Rat1.ofN (a * Rat1.ofN (c * V + u * E) (E * V)) (D * Rat1.ofD (c * V + u * E) (E * V)) ∧
    Rat1.ofD (Rat1.ofN (a * c) (D * E) * Rat1.ofD (a * u) (D * V) + Rat1.ofN (a * u) (D * V) * Rat1.ofD (a * c) (D * E)) (Rat1.ofD (a * c) (D * E) * Rat1.ofD (a * u) (D * V)) = Rat1.ofD (a * Rat1.ofN (c * V + u * E) (E * V)) (D * Rat1.ofD (c * V + u * E) (E * V)) := by
  obtain ⟨hl, _, hq⟩ := Rat1.ofQ_low (ofQ_of e1)
  obtain ⟨hl2, _, hq2⟩ := Rat1.ofQ_low (ofQ_of e2)
  obtain ⟨hl3, _, hq3⟩ := Rat1.ofQ_low (ofQ_of e3)
  generalize Rat1.ofN (c * V + u * E) (E * V) = S at *
  generalize Rat1.ofD (c * V + u * E) (E * V) = T at *
  generalize Rat1.ofN (a * c) (D * E) = M at *
  generalize Rat1.ofD (a * c) (D * E) = K at *
  generalize Rat1.ofN (a * u) (D * V) = M' at *
  generalize Rat1.ofD (a * u) (D * V) = K' at *
  have p1 := h1.pos; have p2 := h2.pos; have p3 := h3.pos; have p4 := hl.pos; have p5 := hl2.pos; have p6 := hl3.pos
  by_cases hz : Rat1.ofE (a * S) (D * T) = 0
  · obtain ⟨hl4, _, hq4⟩ := Rat1.ofQ_low (ofQ_of hz)
    generalize Rat1.ofN (a * S) (D * T) = X at *
    generalize Rat1.ofD (a * S) (D * T) = Y at *
    have p7 := hl4.pos
    have r := of_eq (n := M * K' + M' * K) (d := K * K') hl4 (Int.ne_of_gt (Int.mul_pos (by omega) (by omega))) ?_
    · exact ⟨r.1, r.2.1⟩
    · have k : (D * T * (E * V) * D) * (X * (K * K')) = (D * T * (E * V) * D) * ((M * K' + M' * K) * Y) := by
        have k1 : (D * T * (E * V) * D) * (X * (K * K')) = (X * (D * T)) * (E * V * D * K * K') := by grind
        have k2 : (D * T * (E * V) * D) * ((M * K' + M' * K) * Y) = (M * (D * E)) * (V * D * T * K' * Y) + (M' * (D * V)) * (E * D * T * K * Y) := by grind
        rw [k1, k2, hq4, hq2, hq3]
        have k3 : a * S * Y * (E * V * D * K * K') = (S * (E * V)) * (a * Y * D * K * K') := by grind
        rw [k3, hq]
        grind
      exact Int.eq_of_mul_eq_mul_left (Int.ne_of_gt (Int.mul_pos (Int.mul_pos (Int.mul_pos (by omega) (by omega)) (Int.mul_pos (by omega) (by omega))) (by omega))) k
  · rcases Rat1.of_cases (a * S) (D * T) with ⟨h, _⟩ | ⟨_, g1, g2⟩
    · exact absurd h hz
    · rcases Rat1.of_cases (M * K' + M' * K) (K * K') with ⟨h, _⟩ | ⟨_, g3, g4⟩
      · rw [h] at he; exact absurd he hz
      · rw [g1, g2, g3, g4]; exact ⟨rfl, rfl⟩

end Go.Proofs.YtgbehiagkpcoaaaDoor
