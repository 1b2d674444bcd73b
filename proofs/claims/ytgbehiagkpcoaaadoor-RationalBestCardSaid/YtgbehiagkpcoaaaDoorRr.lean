/- The reference's way to tell which fraction is nearer. -/
import Derived.Test.YtgbehiagkpcoaaaDoorRqR
namespace Go.Proofs.YtgbehiagkpcoaaaDoor
open Go.RowKit
set_option linter.unusedVariables false
set_option linter.unusedSimpArgs false

set_option maxHeartbeats 1000000 in
theorem nearR_any (N D k d u v : Int) (w : World) (n0 : -1073741824 ≤ N) (n1 : N ≤ 1073741824) (D0 : 1 ≤ D) (D1 : D ≤ 1073741824) (d0 : 1 ≤ d) (d1 : d ≤ 60) (v0 : 1 ≤ v) (v1 : v ≤ 60)
    (g1 : Rat1.gap N D (k, d) ≤ D) (g2 : Rat1.gap N D (u, v) ≤ D) :
    Calls Tryd.prog 60 #[.agg #[.int .i64 N, .int .i64 D], .agg #[.int .i64 k, .int .i64 d], .agg #[.int .i64 u, .int .i64 v]] w fun e w' => e = .returned (.bool (decide (Rat1.gap N D (k, d) * v < Rat1.gap N D (u, v) * d))) ∧ Below w.heap.size w w' := by
  have z1 := Rat1.gap_nonneg N D (k, d)
  have z2 := Rat1.gap_nonneg N D (u, v)
  have ⟨p1, q1⟩ := Rat1.prod_bd (a := Rat1.gap N D (k, d)) (b := v) (by omega) (by omega) (by omega) (by omega)
  have ⟨p2, q2⟩ := Rat1.prod_bd (a := Rat1.gap N D (u, v)) (b := d) (by omega) (by omega) (by omega) (by omega)
  have ⟨p3, q3⟩ := Rat1.prod_bd (a := N) (b := d) (by omega) (by omega) (by omega) (by omega)
  have ⟨p4, q4⟩ := Rat1.prod_bd (a := N) (b := v) (by omega) (by omega) (by omega) (by omega)
  have e1 : Rat1.gap N D (k, d) = if N * d - k * D < 0 then -(N * d - k * D) else N * d - k * D := rfl
  have e2 : Rat1.gap N D (u, v) = if N * v - u * D < 0 then -(N * v - u * D) else N * v - u * D := rfl
  generalize Rat1.gap N D (k, d) = G at *
  generalize Rat1.gap N D (u, v) = H at *
  have b1 : -1 * D ≤ N * d - k * D ∧ N * d - k * D ≤ D := by split at e1 <;> omega
  have b2 : -1 * D ≤ N * v - u * D ∧ N * v - u * D ≤ D := by split at e2 <;> omega
  have HE := Lib.hid (And.intro e1 e2)
  clear e1 e2
  go_enter Tryd.func60, Tryd.ntmps60
  go_wp2_with fail
  refine Qt.regionAll (by kernel_rfl) (by kernel_rfl) ?_
  intro T f F hne
  have hc := F.cell
  have hf := F.frozen
  repeat (go_big_quiet_step (fail))
  refine wpQuiet_nil ?_
  rintro _ ⟨t, rfl⟩
  have HB := Lib.hid (F.below t)
  have hc' := fun b o h => (hc t b o h)
  have hf' := fun b o h => (hf t b o h)
  clear hc hf F hne
  generalize f t = w1 at *
  obtain ⟨e1, e2⟩ := HE.out
  by_cases s1 : N * d - k * D < 0 <;> by_cases s2 : N * v - u * D < 0
  all_goals (first | rw [if_pos s1] at e1 | rw [if_neg s1] at e1)
  all_goals (first | rw [if_pos s2] at e2 | rw [if_neg s2] at e2)
  all_goals replace e1 := e1.symm
  all_goals replace e2 := e2.symm
  all_goals go_wp2
  all_goals go_ret
  all_goals exact ⟨rfl, ((((Bel.refl w).alloc _).alloc _).alloc _).up HB.out⟩
end Go.Proofs.YtgbehiagkpcoaaaDoor
