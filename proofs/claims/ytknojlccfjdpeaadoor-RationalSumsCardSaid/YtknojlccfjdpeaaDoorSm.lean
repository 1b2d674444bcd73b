/- Plain mathematics of sums of fractions. -/
import Derived.Test.YtknojlccfjdpeaaDoorRm1
namespace Go.Proofs.YtknojlccfjdpeaaDoor.Rat1
set_option linter.unusedSimpArgs false

/-- one more fraction is added, unless there was an error -/
def stepQ (s : Int × Int × Int) (p : Int × Int) : Int × Int × Int :=
  if s.2.2 = 0 then (ofN (s.1 * p.2 + p.1 * s.2.1) (s.2.1 * p.2), ofD (s.1 * p.2 + p.1 * s.2.1) (s.2.1 * p.2), ofE (s.1 * p.2 + p.1 * s.2.1) (s.2.1 * p.2)) else s
def accQ (l : List (Int × Int)) : Int × Int × Int := l.foldl stepQ (0, 1, 0)
def accN (l : List (Int × Int)) : Int := (accQ l).1
def accD (l : List (Int × Int)) : Int := (accQ l).2.1
def accE (l : List (Int × Int)) : Int := (accQ l).2.2
theorem accQ_snoc (l : List (Int × Int)) (p : Int × Int) : accQ (l ++ [p]) = stepQ (accQ l) p := by
  unfold accQ; rw [List.foldl_append]; rfl
theorem low01 : Low 0 1 := ⟨by omega, by simp [mx], by simp, by simp⟩
theorem stepQ_cases {s : Int × Int × Int} {p : Int × Int} (h : (s.2.2 = 0 ∧ Low s.1 s.2.1) ∨ (s.2.2 ≠ 0 ∧ s.1 = 0 ∧ s.2.1 = 1)) :
    ((stepQ s p).2.2 = 0 ∧ Low (stepQ s p).1 (stepQ s p).2.1) ∨ ((stepQ s p).2.2 ≠ 0 ∧ (stepQ s p).1 = 0 ∧ (stepQ s p).2.1 = 1) := by
  unfold stepQ
  split
  · exact of_cases _ _
  · exact h
theorem acc_cases (l : List (Int × Int)) : (accE l = 0 ∧ Low (accN l) (accD l)) ∨ (accE l ≠ 0 ∧ accN l = 0 ∧ accD l = 1) := by
  unfold accE accN accD
  have : ∀ (l : List (Int × Int)) (s : Int × Int × Int), ((s.2.2 = 0 ∧ Low s.1 s.2.1) ∨ (s.2.2 ≠ 0 ∧ s.1 = 0 ∧ s.2.1 = 1)) → (((l.foldl stepQ s).2.2 = 0 ∧ Low (l.foldl stepQ s).1 (l.foldl stepQ s).2.1) ∨ ((l.foldl stepQ s).2.2 ≠ 0 ∧ (l.foldl stepQ s).1 = 0 ∧ (l.foldl stepQ s).2.1 = 1)) := by
    intro l
    induction l with
    | nil => intro s h; exact h
    | cons p l ih => intro s h; exact ih _ (stepQ_cases h)
  exact this l (0, 1, 0) (.inl ⟨rfl, low01⟩)
theorem fold_stuck (l : List (Int × Int)) {s : Int × Int × Int} (h : s.2.2 ≠ 0) : l.foldl stepQ s = s := by
  induction l with
  | nil => rfl
  | cons p l ih => rw [List.foldl_cons, show stepQ s p = s from by unfold stepQ; rw [if_neg h]]; exact ih
/-- an error stays -/
theorem acc_stuck (l : List (Int × Int)) (k : Nat) (h : accE (l.take k) ≠ 0) : accQ l = accQ (l.take k) := by
  unfold accE at h
  have e : accQ l = (l.drop k).foldl stepQ (accQ (l.take k)) := by
    unfold accQ
    rw [← List.foldl_append, List.take_append_drop]
  rw [e, fold_stuck _ h]
theorem acc_ok {l : List (Int × Int)} {p : Int × Int} (h : accE l = 0) :
    accN (l ++ [p]) = ofN (accN l * p.2 + p.1 * accD l) (accD l * p.2) ∧ accD (l ++ [p]) = ofD (accN l * p.2 + p.1 * accD l) (accD l * p.2) ∧ accE (l ++ [p]) = ofE (accN l * p.2 + p.1 * accD l) (accD l * p.2) := by
  unfold accE accN accD at *
  rw [accQ_snoc]
  unfold stepQ
  rw [if_pos h]
  exact ⟨rfl, rfl, rfl⟩
theorem acc_err {l : List (Int × Int)} {p : Int × Int} (h : accE l ≠ 0) : accN (l ++ [p]) = accN l ∧ accD (l ++ [p]) = accD l ∧ accE (l ++ [p]) = accE l := by
  unfold accE accN accD at *
  rw [accQ_snoc]
  unfold stepQ
  rw [if_neg h]
  exact ⟨rfl, rfl, rfl⟩
/-- the cells of a list of fractions -/
def cellsQ (l : List (Int × Int)) : List Value := l.flatMap fun p => [.int .i64 p.1, .int .i64 (p.2 - 1)]
theorem cellsQ_len (l : List (Int × Int)) : (cellsQ l).length = 2 * l.length := by
  unfold cellsQ
  induction l with
  | nil => rfl
  | cons p l ih => rw [List.flatMap_cons, List.length_append, ih]; simp; omega
theorem cellsQ_snoc (l : List (Int × Int)) (p : Int × Int) : cellsQ (l ++ [p]) = cellsQ l ++ [.int .i64 p.1, .int .i64 (p.2 - 1)] := by
  unfold cellsQ; rw [List.flatMap_append]; simp
theorem cellsQ_at (l : List (Int × Int)) (k : Nat) (p : Int × Int) (h : l[k]? = some p) : (cellsQ l)[2 * k]? = some (.int .i64 p.1) ∧ (cellsQ l)[2 * k + 1]? = some (.int .i64 (p.2 - 1)) := by
  induction l generalizing k with
  | nil => simp at h
  | cons q l ih =>
    cases k with
    | zero => simp at h; subst h; simp [cellsQ]
    | succ k =>
      have := ih k (by simpa using h)
      have e : cellsQ (q :: l) = .int .i64 q.1 :: .int .i64 (q.2 - 1) :: cellsQ l := by simp [cellsQ]
      rw [e, show 2 * (k + 1) = 2 * k + 2 by omega]
      exact ⟨by simpa using this.1, by simpa using this.2⟩
end Go.Proofs.YtknojlccfjdpeaaDoor.Rat1
