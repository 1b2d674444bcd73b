/- The walks of the reference's 'Of'. -/
import Derived.Test.YtknojlccfjdpeaaDoorRb
namespace Go.Proofs.YtknojlccfjdpeaaDoor
open Go.RowKit
set_option linter.unusedVariables false

set_option maxHeartbeats 400000 in
theorem ofRef_zero (n : Int) (w : World) :
    Calls Tryd.prog 16 #[.int .i64 n, .int .i64 0] w fun e w' => e = .returned (.tuple #[.agg #[.int .i64 0, .int .i64 1], .int .i64 15]) ∧ Below w.heap.size w w' := by
  go_enter Tryd.func16, Tryd.ntmps16
  go_wp2
  exact bodyPost_ret (v := .tuple #[.agg #[.int .i64 0, .int .i64 1], .int .i64 15]) (by simp [results, Tryd.results16, go_sem]) rfl ⟨rfl, (by repeat (first | exact Below.refl _ _ | refine Below.alloc ?_ (by simp) _ | refine Below.setCell ?_ (by simp) _ | refine below_drewN ?_ _ | refine Below.drew ?_))⟩

set_option maxHeartbeats 400000 in
theorem ofRef_big (n d : Int) (p q g : Nat) (w : World) (h0 : -9223372036854775808 ≤ n) (h1 : n ≤ 9223372036854775807) (d0 : -9223372036854775808 ≤ d) (d1 : d ≤ 9223372036854775807)
    (hd : (d == 0) = false) (hg : 1 ≤ g) (hG : Hid (Nat.gcd n.natAbs d.natAbs = g)) (hp : (n.natAbs : Int) / (g : Int) = p) (hq : (d.natAbs : Int) / (g : Int) = q) (hb : 1073741824 < p ∨ 1073741824 < q) (hpm : p ≤ 9223372036854775808) (hqm : q ≤ 9223372036854775808) :
    Calls Tryd.prog 16 #[.int .i64 n, .int .i64 d] w fun e w' => e = .returned (.tuple #[.agg #[.int .i64 0, .int .i64 1], .int .i64 14]) ∧ Below w.heap.size w w' := by
  have hg0 : ((g : Int) == 0) = false := by simp; omega
  have b1 : n.natAbs ≤ 9223372036854775808 := by omega
  have b2 : d.natAbs ≤ 9223372036854775808 := by omega
  by_cases hc : 1073741824 < p
  · go_enter Tryd.func16, Tryd.ntmps16
    go_wp2_with fail
    refine (magnitude_any n _ h0 h1).mono ?_
    rintro e w1 ⟨rfl, rfl⟩
    go_wp2_with fail
    refine (magnitude_any d _ d0 d1).mono ?_
    rintro e w1 ⟨rfl, rfl⟩
    go_wp2_with fail
    refine (gcdRef_nat _ _ _ b1 b2).mono ?_
    rintro e w1 ⟨rfl, nq, rfl⟩
    rw [hG.out]
    go_wp2_with fail
    go_quiet (fail)
    go_wp2_with fail
    exact bodyPost_ret (v := .tuple #[.agg #[.int .i64 0, .int .i64 1], .int .i64 14]) (by simp [results, Tryd.results16, go_sem]) rfl ⟨rfl, (by repeat (first | exact Below.refl _ _ | refine Below.alloc ?_ (by simp) _ | refine Below.setCell ?_ (by simp) _ | refine below_drewN ?_ _ | refine Below.drew ?_))⟩
  · have hc2 : 1073741824 < q := by omega
    go_enter Tryd.func16, Tryd.ntmps16
    go_wp2_with fail
    refine (magnitude_any n _ h0 h1).mono ?_
    rintro e w1 ⟨rfl, rfl⟩
    go_wp2_with fail
    refine (magnitude_any d _ d0 d1).mono ?_
    rintro e w1 ⟨rfl, rfl⟩
    go_wp2_with fail
    refine (gcdRef_nat _ _ _ b1 b2).mono ?_
    rintro e w1 ⟨rfl, nq, rfl⟩
    rw [hG.out]
    go_wp2_with fail
    go_quiet (fail)
    go_wp2_with fail
    exact bodyPost_ret (v := .tuple #[.agg #[.int .i64 0, .int .i64 1], .int .i64 14]) (by simp [results, Tryd.results16, go_sem]) rfl ⟨rfl, (by repeat (first | exact Below.refl _ _ | refine Below.alloc ?_ (by simp) _ | refine Below.setCell ?_ (by simp) _ | refine below_drewN ?_ _ | refine Below.drew ?_))⟩

set_option maxHeartbeats 400000 in
theorem ofRef_neg (n d : Int) (p q g : Nat) (w : World) (h0 : -9223372036854775808 ≤ n) (h1 : n ≤ 9223372036854775807) (d0 : -9223372036854775808 ≤ d) (d1 : d ≤ 9223372036854775807)
    (hd : (d == 0) = false) (hg : 1 ≤ g) (hG : Hid (Nat.gcd n.natAbs d.natAbs = g)) (hp : (n.natAbs : Int) / (g : Int) = p) (hq : (d.natAbs : Int) / (g : Int) = q) (hb : p ≤ 1073741824) (hb2 : q ≤ 1073741824) (hq1 : 1 ≤ q)
    (hs : n < 0 ∧ 0 ≤ d ∨ 0 ≤ n ∧ d < 0) :
    Calls Tryd.prog 16 #[.int .i64 n, .int .i64 d] w fun e w' => e = .returned (.tuple #[.agg #[.int .i64 (-(p : Int)), .int .i64 (q : Int)], .int .i64 0]) ∧ Below w.heap.size w w' := by
  have hg0 : ((g : Int) == 0) = false := by simp; omega
  have b1 : n.natAbs ≤ 9223372036854775808 := by omega
  have b2 : d.natAbs ≤ 9223372036854775808 := by omega
  rcases hs with ⟨s1, s2⟩ | ⟨s1, s2⟩
  · have t1 : decide (n < 0) = true := by simp; omega
    have t2 : decide (d < 0) = false := by simp; omega
    go_enter Tryd.func16, Tryd.ntmps16
    go_wp2_with fail
    refine (magnitude_any n _ h0 h1).mono ?_
    rintro e w1 ⟨rfl, rfl⟩
    go_wp2_with fail
    refine (magnitude_any d _ d0 d1).mono ?_
    rintro e w1 ⟨rfl, rfl⟩
    go_wp2_with fail
    refine (gcdRef_nat _ _ _ b1 b2).mono ?_
    rintro e w1 ⟨rfl, nq, rfl⟩
    rw [hG.out]
    go_wp2_with fail
    go_quiet (fail)
    go_wp2_with fail
    exact bodyPost_ret (v := .tuple #[.agg #[.int .i64 (-(p : Int)), .int .i64 (q : Int)], .int .i64 0]) (by simp [results, Tryd.results16, go_sem]) rfl ⟨rfl, (by repeat (first | exact Below.refl _ _ | refine Below.alloc ?_ (by simp) _ | refine Below.setCell ?_ (by simp) _ | refine below_drewN ?_ _ | refine Below.drew ?_))⟩
  · have t1 : decide (n < 0) = false := by simp; omega
    have t2 : decide (d < 0) = true := by simp; omega
    go_enter Tryd.func16, Tryd.ntmps16
    go_wp2_with fail
    refine (magnitude_any n _ h0 h1).mono ?_
    rintro e w1 ⟨rfl, rfl⟩
    go_wp2_with fail
    refine (magnitude_any d _ d0 d1).mono ?_
    rintro e w1 ⟨rfl, rfl⟩
    go_wp2_with fail
    refine (gcdRef_nat _ _ _ b1 b2).mono ?_
    rintro e w1 ⟨rfl, nq, rfl⟩
    rw [hG.out]
    go_wp2_with fail
    go_quiet (fail)
    go_wp2_with fail
    exact bodyPost_ret (v := .tuple #[.agg #[.int .i64 (-(p : Int)), .int .i64 (q : Int)], .int .i64 0]) (by simp [results, Tryd.results16, go_sem]) rfl ⟨rfl, (by repeat (first | exact Below.refl _ _ | refine Below.alloc ?_ (by simp) _ | refine Below.setCell ?_ (by simp) _ | refine below_drewN ?_ _ | refine Below.drew ?_))⟩

set_option maxHeartbeats 400000 in
theorem ofRef_pos (n d : Int) (p q g : Nat) (w : World) (h0 : -9223372036854775808 ≤ n) (h1 : n ≤ 9223372036854775807) (d0 : -9223372036854775808 ≤ d) (d1 : d ≤ 9223372036854775807)
    (hd : (d == 0) = false) (hg : 1 ≤ g) (hG : Hid (Nat.gcd n.natAbs d.natAbs = g)) (hp : (n.natAbs : Int) / (g : Int) = p) (hq : (d.natAbs : Int) / (g : Int) = q) (hb : p ≤ 1073741824) (hb2 : q ≤ 1073741824) (hq1 : 1 ≤ q)
    (hs : n < 0 ∧ d < 0 ∨ 0 ≤ n ∧ 0 ≤ d) :
    Calls Tryd.prog 16 #[.int .i64 n, .int .i64 d] w fun e w' => e = .returned (.tuple #[.agg #[.int .i64 (p : Int), .int .i64 (q : Int)], .int .i64 0]) ∧ Below w.heap.size w w' := by
  have hg0 : ((g : Int) == 0) = false := by simp; omega
  have b1 : n.natAbs ≤ 9223372036854775808 := by omega
  have b2 : d.natAbs ≤ 9223372036854775808 := by omega
  rcases hs with ⟨s1, s2⟩ | ⟨s1, s2⟩
  · have t1 : decide (n < 0) = true := by simp; omega
    have t2 : decide (d < 0) = true := by simp; omega
    go_enter Tryd.func16, Tryd.ntmps16
    go_wp2_with fail
    refine (magnitude_any n _ h0 h1).mono ?_
    rintro e w1 ⟨rfl, rfl⟩
    go_wp2_with fail
    refine (magnitude_any d _ d0 d1).mono ?_
    rintro e w1 ⟨rfl, rfl⟩
    go_wp2_with fail
    refine (gcdRef_nat _ _ _ b1 b2).mono ?_
    rintro e w1 ⟨rfl, nq, rfl⟩
    rw [hG.out]
    go_wp2_with fail
    go_quiet (fail)
    go_wp2_with fail
    exact bodyPost_ret (v := .tuple #[.agg #[.int .i64 (p : Int), .int .i64 (q : Int)], .int .i64 0]) (by simp [results, Tryd.results16, go_sem]) rfl ⟨rfl, (by repeat (first | exact Below.refl _ _ | refine Below.alloc ?_ (by simp) _ | refine Below.setCell ?_ (by simp) _ | refine below_drewN ?_ _ | refine Below.drew ?_))⟩
  · have t1 : decide (n < 0) = false := by simp; omega
    have t2 : decide (d < 0) = false := by simp; omega
    go_enter Tryd.func16, Tryd.ntmps16
    go_wp2_with fail
    refine (magnitude_any n _ h0 h1).mono ?_
    rintro e w1 ⟨rfl, rfl⟩
    go_wp2_with fail
    refine (magnitude_any d _ d0 d1).mono ?_
    rintro e w1 ⟨rfl, rfl⟩
    go_wp2_with fail
    refine (gcdRef_nat _ _ _ b1 b2).mono ?_
    rintro e w1 ⟨rfl, nq, rfl⟩
    rw [hG.out]
    go_wp2_with fail
    go_quiet (fail)
    go_wp2_with fail
    exact bodyPost_ret (v := .tuple #[.agg #[.int .i64 (p : Int), .int .i64 (q : Int)], .int .i64 0]) (by simp [results, Tryd.results16, go_sem]) rfl ⟨rfl, (by repeat (first | exact Below.refl _ _ | refine Below.alloc ?_ (by simp) _ | refine Below.setCell ?_ (by simp) _ | refine below_drewN ?_ _ | refine Below.drew ?_))⟩


theorem ofRef_any (n d : Int) (w : World) (h0 : -9223372036854775808 ≤ n) (h1 : n ≤ 9223372036854775807) (d0 : -9223372036854775808 ≤ d) (d1 : d ≤ 9223372036854775807) :
    Calls Tryd.prog 16 #[.int .i64 n, .int .i64 d] w fun e w' => e = .returned (ofRefV n d) ∧ Below w.heap.size w w' := by
  by_cases hd : d = 0
  · subst hd
    exact (ofRef_zero n w).mono fun e w' ⟨he, hb⟩ => ⟨by rw [he]; simp [ofRefV, Rat1.ofQ], hb⟩
  · have hd' : (d == 0) = false := by simpa using hd
    have hg : 1 ≤ Nat.gcd n.natAbs d.natAbs := Nat.gcd_pos_of_pos_right _ (by omega)
    have hq1 : 1 ≤ d.natAbs / Nat.gcd n.natAbs d.natAbs := Nat.div_pos (Nat.le_of_dvd (by omega) (Nat.gcd_dvd_right _ _)) hg
    have p1 := Nat.div_le_self n.natAbs (Nat.gcd n.natAbs d.natAbs)
    have p2 := Nat.div_le_self d.natAbs (Nat.gcd n.natAbs d.natAbs)
    by_cases hb : n.natAbs / Nat.gcd n.natAbs d.natAbs > Rat1.mx ∨ d.natAbs / Nat.gcd n.natAbs d.natAbs > Rat1.mx
    · have hb' := hb
      unfold Rat1.mx at hb'
      exact (ofRef_big n d (n.natAbs / Nat.gcd n.natAbs d.natAbs) (d.natAbs / Nat.gcd n.natAbs d.natAbs) (Nat.gcd n.natAbs d.natAbs) w h0 h1 d0 d1 hd' hg rfl (by simp) (by simp) hb' (by omega) (by omega)).mono fun e' w' ⟨he, hw⟩ => ⟨by rw [he]; unfold ofRefV Rat1.ofQ; rw [if_neg hd, if_pos hb], hw⟩
    · have hb' := hb
      unfold Rat1.mx at hb'
      by_cases hs : n < 0 ∧ 0 ≤ d ∨ 0 ≤ n ∧ d < 0
      · have hs' : (n < 0) ≠ (d < 0) := by simp; omega
        exact (ofRef_neg n d (n.natAbs / Nat.gcd n.natAbs d.natAbs) (d.natAbs / Nat.gcd n.natAbs d.natAbs) (Nat.gcd n.natAbs d.natAbs) w h0 h1 d0 d1 hd' hg rfl (by simp) (by simp) (by omega) (by omega) hq1 hs).mono fun e' w' ⟨he, hw⟩ => ⟨by rw [he]; unfold ofRefV Rat1.ofQ; rw [if_neg hd, if_neg hb, if_pos hs'], hw⟩
      · have hs' : ¬ ((n < 0) ≠ (d < 0)) := by simp; omega
        exact (ofRef_pos n d (n.natAbs / Nat.gcd n.natAbs d.natAbs) (d.natAbs / Nat.gcd n.natAbs d.natAbs) (Nat.gcd n.natAbs d.natAbs) w h0 h1 d0 d1 hd' hg rfl (by simp) (by simp) (by omega) (by omega) hq1 (by omega)).mono fun e' w' ⟨he, hw⟩ => ⟨by rw [he]; unfold ofRefV Rat1.ofQ; rw [if_neg hd, if_neg hb, if_neg hs'], hw⟩

theorem ofRef_call (n d : Int) (w : World) (h0 : -9223372036854775808 ≤ n) (h1 : n ≤ 9223372036854775807) (d0 : -9223372036854775808 ≤ d) (d1 : d ≤ 9223372036854775807) :
    Calls Tryd.prog 16 #[.int .i64 n, .int .i64 d] w fun e w' => e = .returned (.tuple #[.agg #[.int .i64 (Rat1.ofN n d), .int .i64 (Rat1.ofD n d)], .int .i64 (Rat1.ofE n d)]) ∧ Below w.heap.size w w' :=
  ofRef_any n d w h0 h1 d0 d1

end Go.Proofs.YtknojlccfjdpeaaDoor
