/- The walk of the law's own 'of'. -/
import Derived.Test.YtknojlccfjdpeaaDoorRm1
import Derived.RegionTactic
import Derived.ChangeAlike
namespace Go.Proofs.YtknojlccfjdpeaaDoor
open Go.RowKit
set_option linter.unusedVariables false
set_option linter.unusedSimpArgs false

/-- a fraction of both sides -/
def FrPost (w : World) (e : Ending) (w' : World) : Prop :=
  ∃ N D, Rat1.Low N D ∧ e = .returned (.tuple #[.agg #[.int .i64 N, .int .i64 (D - 1)], .agg #[.int .i64 N, .int .i64 D]]) ∧ Below w.heap.size w w'

theorem low_small {n d : Int} (h0 : -1073741824 ≤ n) (h1 : n ≤ 1073741824) (h2 : 1 ≤ d) (h3 : d ≤ 1073741824) : Rat1.Low (Rat1.ofN n d) (Rat1.ofD n d) := by
  rcases Rat1.of_cases n d with ⟨_, h⟩ | ⟨h, _, _⟩
  · exact h
  · exfalso
    unfold Rat1.ofE Rat1.ofQ at h
    have p1 := Nat.div_le_self n.natAbs (Nat.gcd n.natAbs d.natAbs)
    have p2 := Nat.div_le_self d.natAbs (Nat.gcd n.natAbs d.natAbs)
    rw [if_neg (by omega), if_neg (by unfold Rat1.mx; omega)] at h
    simp at h

set_option maxHeartbeats 1000000 in
theorem of_fr_in (m k n d : Int) (w : World) (hn : max (min m 1073741824) (-1073741824) = n) (hd : max (min k 1073741824) 1 = d) (n0 : -1073741824 ≤ n) (n1 : n ≤ 1073741824) (d0 : 1 ≤ d) (d1 : d ≤ 1073741824)  :
    Calls Tryd.prog 6 #[.int .i64 m, .int .i64 k] w (FrPost w) := by
  have HL := Lib.hid (low_small n0 n1 d0 d1)
  go_enter Tryd.func6, Tryd.ntmps6
  go_wp2_with fail
  refine (of_call n d _ (by omega) (by omega) (by omega) (by omega)).mono ?_
  rintro e w1 ⟨rfl, hb⟩
  have B1 := Lib.hid ((((Bel.refl w).alloc _).alloc _).up hb)
  have Tr1 := ((Two.new _ _ _ _ (w.heap.size) (by simp)).alloc _).up hb
  have Tq1 := (Two.new _ _ _ _ (w.heap.size + 1) (by simp)).up hb
  clear hb
  obtain ⟨r01, r11, r21, r31, r41⟩ := id Tr1
  obtain ⟨q01, q11, q21, q31, q41⟩ := id Tq1
  go_wp2_with fail
  refine (ofRef_call n d _ (by omega) (by omega) (by omega) (by omega)).mono ?_
  rintro e w2 ⟨rfl, hb⟩
  have B2 := Lib.hid (((B1.out).alloc _).up hb)
  have Tr2 := ((Tr1).alloc _).up hb
  have Tq2 := ((Tq1).alloc _).up hb
  have Tx2 := (Two.new _ _ _ _ (w1.heap.size) (by simp)).up hb
  clear hb Tr1 Tq1 r01 r11 r21 r31 r41 q01 q11 q21 q31 q41
  obtain ⟨r02, r12, r22, r32, r42⟩ := id Tr2
  obtain ⟨q02, q12, q22, q32, q42⟩ := id Tq2
  obtain ⟨x02, x12, x22, x32, x42⟩ := id Tx2
  go_wp2
  go_region
  all_goals
    go_wp2
    exact bodyPost_ret (v := .tuple #[.agg #[.int .i64 _, .int .i64 _], .agg #[.int .i64 _, .int .i64 _]]) (by simp [results, Tryd.results6, go_sem, r02, q02, r12, r22, q12, q22]) rfl ⟨_, _, HL.out, rfl, (show Bel w _ by repeat (first | exact B2.out | refine Bel.alloc ?_ _ | refine Bel.set ?_ (by first | (simp; done) | omega) _ _ | refine Bel.drewN ?_ _))⟩

theorem of_fr (m k : Int) (w : World) : Calls Tryd.prog 6 #[.int .i64 m, .int .i64 k] w (FrPost w) :=
  of_fr_in m k _ _ w rfl rfl (by omega) (by omega) (by omega) (by omega)
end Go.Proofs.YtknojlccfjdpeaaDoor
