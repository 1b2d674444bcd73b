/- The walks of the methods of fractions, and of their reference. -/
import Derived.Test.YtknojlccfjdpeaaDoorRc
import Derived.Test.YtknojlccfjdpeaaDoorQt
import Derived.BigQuiet
import Derived.Lib.Hide
namespace Go.Proofs.YtknojlccfjdpeaaDoor
open Go.RowKit
set_option linter.unusedVariables false

theorem bcell {W w1 : World} (hb : Below W.heap.size W w1) : (∀ b o, b < W.heap.size → w1.cell? ⟨b, o, none⟩ = W.cell? ⟨b, o, none⟩) ∧ (∀ b o, b < W.heap.size → w1.frozen? ⟨b, o, none⟩ = W.frozen? ⟨b, o, none⟩) :=
  ⟨fun b o h => hb.cell (p := ⟨b, o, none⟩) h, fun b o h => hb.frozen (p := ⟨b, o, none⟩) h⟩

set_option maxHeartbeats 400000 in
theorem num_any (a m : Int) (w : World)  :
    Calls Tryd.prog 21 #[.agg #[.int .i64 a, .int .i64 m]] w fun e w' => e = .returned (.int .i64 a) ∧ Below w.heap.size w w' := by
  go_enter Tryd.func21, Tryd.ntmps21
  go_wp2
  go_ret
  exact ⟨rfl, (by repeat (first | exact Below.refl _ _ | refine Below.setCell ?_ (by simp <;> omega) _ | refine Below.alloc ?_ (by simp <;> omega) _))⟩

set_option maxHeartbeats 400000 in
theorem den_any (a m : Int) (w : World) (h0 : 0 ≤ m) (h1 : m ≤ 1073741823) :
    Calls Tryd.prog 19 #[.agg #[.int .i64 a, .int .i64 m]] w fun e w' => e = .returned (.int .i64 (m + 1)) ∧ Below w.heap.size w w' := by
  go_enter Tryd.func19, Tryd.ntmps19
  go_wp2
  go_ret
  exact ⟨rfl, (by repeat (first | exact Below.refl _ _ | refine Below.setCell ?_ (by simp <;> omega) _ | refine Below.alloc ?_ (by simp <;> omega) _))⟩

set_option maxHeartbeats 400000 in
theorem add_any (a m c k : Int) (w : World) (a0 : -1073741824 ≤ a) (a1 : a ≤ 1073741824) (m0 : 0 ≤ m) (m1 : m ≤ 1073741823) (c0 : -1073741824 ≤ c) (c1 : c ≤ 1073741824) (k0 : 0 ≤ k) (k1 : k ≤ 1073741823) :
    Calls Tryd.prog 28 #[.agg #[.int .i64 a, .int .i64 m], .agg #[.int .i64 c, .int .i64 k]] w fun e w' => e = .returned (.tuple #[.agg #[.int .i64 (Rat1.ofN (a * (k + 1) + c * (m + 1)) ((m + 1) * (k + 1))), .int .i64 (Rat1.ofD (a * (k + 1) + c * (m + 1)) ((m + 1) * (k + 1)) - 1)], .int .i64 (Rat1.ofE (a * (k + 1) + c * (m + 1)) ((m + 1) * (k + 1)))]) ∧ Below w.heap.size w w' := by
  have ⟨p1, q1⟩ := Rat1.prod_bd (a := a) (b := k + 1) (by omega) (by omega) (by omega) (by omega)
  have ⟨p2, q2⟩ := Rat1.prod_bd (a := c) (b := m + 1) (by omega) (by omega) (by omega) (by omega)
  have ⟨p3, q3⟩ := Rat1.prod_bd (a := m + 1) (b := k + 1) (by omega) (by omega) (by omega) (by omega)
  go_enter Tryd.func28, Tryd.ntmps28
  go_wp2
  refine Qt.region 19 (by kernel_rfl) (by kernel_rfl) ?_
  intro T f F hne
  have hc := F.cell
  have hf := F.frozen
  simp only [List.take_succ_cons, List.take_zero, List.drop_succ_cons, List.drop_zero]
  repeat (go_big_quiet_step (first | (go_at_call 19; exact F.call (den_any _ _ _ (by omega) (by omega))) | (go_at_call 15; exact F.call (of_call _ _ _ (by omega) (by omega) (by omega) (by omega)))))
  refine wpQuiet_nil ?_
  rintro _ ⟨t, rfl⟩
  go_wp2
  exact bodyPost_ret (v := .tuple #[.agg #[.int .i64 _, .int .i64 _], .int .i64 _]) (by simp [results, Tryd.results28, go_sem, hc]) rfl ⟨rfl, (by repeat (first | exact Below.refl _ _ | refine Below.setCell ?_ (by simp <;> omega) _ | refine Below.alloc ?_ (by simp <;> omega) _ | exact Below.trans (by repeat (first | exact Below.refl _ _ | refine Below.alloc ?_ (by simp <;> omega) _)) (Below.mono (F.below t) (by simp <;> omega))))⟩

set_option maxHeartbeats 400000 in
theorem isnan_any (x : Int) (w : World)  :
    Calls Tryd.prog 57 #[.int .i64 x] w fun e w' => e = .returned (.bool false) ∧ Below w.heap.size w w' := by
  go_enter Tryd.func57, Tryd.ntmps57
  go_wp2
  go_ret
  exact ⟨rfl, (by repeat (first | exact Below.refl _ _ | refine Below.setCell ?_ (by simp <;> omega) _ | refine Below.alloc ?_ (by simp <;> omega) _))⟩

def cmpI (x y : Int) : Int := if x < y then -1 else if y < x then 1 else 0
set_option maxHeartbeats 400000 in
theorem compare_any (x y : Int) (w : World)  :
    Calls Tryd.prog 45 #[.int .i64 x, .int .i64 y] w fun e w' => e = .returned (.int .i64 (cmpI x y)) ∧ Below w.heap.size w w' := by
  by_cases h1 : x < y
  · rw [show cmpI x y = -1 from by simp [cmpI, h1]]
    go_enter Tryd.func45, Tryd.ntmps45
    go_wp2
    go_ret
    exact ⟨rfl, Below.refl _ _⟩
  · by_cases h2 : y < x
    · rw [show cmpI x y = 1 from by simp [cmpI, h1, h2]]
      go_enter Tryd.func45, Tryd.ntmps45
      go_wp2
      go_ret
      exact ⟨rfl, Below.refl _ _⟩
    · rw [show cmpI x y = 0 from by simp [cmpI, h1, h2]]
      go_enter Tryd.func45, Tryd.ntmps45
      go_wp2
      go_ret
      exact ⟨rfl, Below.refl _ _⟩

set_option maxHeartbeats 400000 in
theorem cmp_any (a m c k : Int) (w : World) (a0 : -1073741824 ≤ a) (a1 : a ≤ 1073741824) (m0 : 0 ≤ m) (m1 : m ≤ 1073741823) (c0 : -1073741824 ≤ c) (c1 : c ≤ 1073741824) (k0 : 0 ≤ k) (k1 : k ≤ 1073741823) :
    Calls Tryd.prog 47 #[.agg #[.int .i64 a, .int .i64 m], .agg #[.int .i64 c, .int .i64 k]] w fun e w' => e = .returned (.int .i64 (cmpI (a * (k + 1)) (c * (m + 1)))) ∧ Below w.heap.size w w' := by
  have ⟨p1, q1⟩ := Rat1.prod_bd (a := a) (b := k + 1) (by omega) (by omega) (by omega) (by omega)
  have ⟨p2, q2⟩ := Rat1.prod_bd (a := c) (b := m + 1) (by omega) (by omega) (by omega) (by omega)
  go_enter Tryd.func47, Tryd.ntmps47
  go_wp2
  refine Qt.regionAll (by kernel_rfl) (by kernel_rfl) ?_
  intro T f F hne
  have hc := F.cell
  have hf := F.frozen
  repeat (go_big_quiet_step (first | (go_at_call 19; exact F.call (den_any _ _ _ (by omega) (by omega))) | (go_at_call 45; exact F.call (compare_any _ _ _))))
  refine wpQuiet_nil ?_
  rintro _ ⟨t, rfl⟩
  go_wp2
  go_ret
  exact ⟨rfl, (by repeat (first | exact Below.refl _ _ | refine Below.setCell ?_ (by simp <;> omega) _ | refine Below.alloc ?_ (by simp <;> omega) _ | exact Below.trans (by repeat (first | exact Below.refl _ _ | refine Below.alloc ?_ (by simp <;> omega) _)) (Below.mono (F.below t) (by simp <;> omega))))⟩

theorem floor_neg {x y : Int} (hy : 1 ≤ y) (h : x.tmod y < 0) : x.tdiv y - 1 = x / y := by
  have := Int.tdiv_eq_ediv (a := x) (b := y)
  have h2 := Int.tmod_eq_emod (a := x) (b := y)
  split at this
  · rw [if_pos (by assumption)] at h2
    have := Int.emod_nonneg x (show y ≠ 0 by omega)
    omega
  · rw [Int.sign_eq_one_of_pos (by omega)] at this
    omega
theorem floor_pos {x y : Int} (hy : 1 ≤ y) (h : ¬ x.tmod y < 0) : x.tdiv y = x / y := by
  have := Int.tdiv_eq_ediv (a := x) (b := y)
  have h2 := Int.tmod_eq_emod (a := x) (b := y)
  have h3 := Int.emod_lt_of_pos x (show 0 < y by omega)
  split at this
  · omega
  · rename_i hs
    rw [if_neg hs] at h2
    exfalso
    omega
set_option maxHeartbeats 400000 in
theorem floor_same (x y : Int) (w : World) (x0 : -4503599627370496 ≤ x) (x1 : x ≤ 4503599627370496) (y0 : 1 ≤ y) (y1 : y ≤ 4503599627370496) :
    Calls Tryd.prog 38 #[.int .i64 x, .int .i64 y] w fun e w' => e = .returned (.int .i64 (x / y)) ∧ w = w' := by
  have hy : ((y : Int) == 0) = false := by simp; omega
  have b1 : -4503599627370496 ≤ x.tdiv y ∧ x.tdiv y ≤ 4503599627370496 := by
    have := Int.natAbs_tdiv_le_natAbs x y
    omega
  obtain ⟨b1, b2⟩ := b1
  by_cases h : x.tmod y < 0
  · have e := Lib.hid (floor_neg y0 h)
    go_enter Tryd.func38, Tryd.ntmps38
    go_wp2
    go_ret
    exact ⟨ret_int e.out, rfl⟩
  · have e := Lib.hid (floor_pos y0 h)
    go_enter Tryd.func38, Tryd.ntmps38
    go_wp2
    go_ret
    exact ⟨ret_int e.out, rfl⟩

set_option maxHeartbeats 400000 in
theorem floor_any (x y : Int) (w : World) (x0 : -4503599627370496 ≤ x) (x1 : x ≤ 4503599627370496) (y0 : 1 ≤ y) (y1 : y ≤ 4503599627370496) :
    Calls Tryd.prog 38 #[.int .i64 x, .int .i64 y] w fun e w' => e = .returned (.int .i64 (x / y)) ∧ Below w.heap.size w w' := by
  exact (floor_same x y w x0 x1 y0 y1).mono fun _ _ ⟨he, hw⟩ => ⟨he, hw ▸ Below.refl _ _⟩

set_option maxHeartbeats 400000 in
theorem Floor_any (a m : Int) (w : World) (a0 : -1073741824 ≤ a) (a1 : a ≤ 1073741824) (m0 : 0 ≤ m) (m1 : m ≤ 1073741823) :
    Calls Tryd.prog 22 #[.agg #[.int .i64 a, .int .i64 m]] w fun e w' => e = .returned (.int .i64 (a / (m + 1))) ∧ Below w.heap.size w w' := by
  go_enter Tryd.func22, Tryd.ntmps22
  go_wp2
  refine Qt.regionAll (by kernel_rfl) (by kernel_rfl) ?_
  intro T f F hne
  have hc := F.cell
  have hf := F.frozen
  repeat (go_big_quiet_step (first | (go_at_call 19; exact F.call (den_any _ _ _ (by omega) (by omega))) | (go_at_call 38; exact F.call (floor_any _ _ _ (by omega) (by omega) (by omega) (by omega)))))
  refine wpQuiet_nil ?_
  rintro _ ⟨t, rfl⟩
  go_wp2
  go_ret
  exact ⟨rfl, (by repeat (first | exact Below.refl _ _ | refine Below.setCell ?_ (by simp <;> omega) _ | refine Below.alloc ?_ (by simp <;> omega) _ | exact Below.trans (by repeat (first | exact Below.refl _ _ | refine Below.alloc ?_ (by simp <;> omega) _)) (Below.mono (F.below t) (by simp <;> omega))))⟩

set_option maxHeartbeats 400000 in
theorem Round_any (a m : Int) (w : World) (a0 : -1073741824 ≤ a) (a1 : a ≤ 1073741824) (m0 : 0 ≤ m) (m1 : m ≤ 1073741823) :
    Calls Tryd.prog 24 #[.agg #[.int .i64 a, .int .i64 m]] w fun e w' => e = .returned (.int .i64 ((2 * a + (m + 1)) / (2 * (m + 1)))) ∧ Below w.heap.size w w' := by
  go_enter Tryd.func24, Tryd.ntmps24
  go_wp2
  refine Qt.regionAll (by kernel_rfl) (by kernel_rfl) ?_
  intro T f F hne
  have hc := F.cell
  have hf := F.frozen
  repeat (go_big_quiet_step (first | (go_at_call 19; exact F.call (den_any _ _ _ (by omega) (by omega))) | (go_at_call 38; exact F.call (floor_any _ _ _ (by omega) (by omega) (by omega) (by omega)))))
  refine wpQuiet_nil ?_
  rintro _ ⟨t, rfl⟩
  go_wp2
  go_ret
  exact ⟨rfl, (by repeat (first | exact Below.refl _ _ | refine Below.setCell ?_ (by simp <;> omega) _ | refine Below.alloc ?_ (by simp <;> omega) _ | exact Below.trans (by repeat (first | exact Below.refl _ _ | refine Below.alloc ?_ (by simp <;> omega) _)) (Below.mono (F.below t) (by simp <;> omega))))⟩

theorem div_bd {x y : Int} (x0 : -1073741824 ≤ x) (x1 : x ≤ 1073741824) (hy : 1 ≤ y) : -1073741824 ≤ x / y ∧ x / y ≤ 1073741824 := by
  constructor
  · rw [Int.le_ediv_iff_mul_le (by omega)]
    have := Int.mul_le_mul_of_nonneg_left hy (show (0 : Int) ≤ 1073741824 by omega)
    omega
  · by_cases h : 0 ≤ x
    · exact Int.le_trans (Int.ediv_le_self _ h) x1
    · have := Int.ediv_neg_of_neg_of_pos (show x < 0 by omega) (show 0 < y by omega)
      omega
set_option maxHeartbeats 400000 in
theorem Ceil_any (a m : Int) (w : World) (a0 : -1073741824 ≤ a) (a1 : a ≤ 1073741824) (m0 : 0 ≤ m) (m1 : m ≤ 1073741823) :
    Calls Tryd.prog 23 #[.agg #[.int .i64 a, .int .i64 m]] w fun e w' => e = .returned (.int .i64 (-(-a / (m + 1)))) ∧ Below w.heap.size w w' := by
  obtain ⟨r0, r1⟩ := div_bd (x := -a) (y := m + 1) (by omega) (by omega) (by omega)
  go_enter Tryd.func23, Tryd.ntmps23
  go_wp2
  refine Qt.regionAll (by kernel_rfl) (by kernel_rfl) ?_
  intro T f F hne
  have hc := F.cell
  have hf := F.frozen
  repeat (go_big_quiet_step (first | (go_at_call 19; exact F.call (den_any _ _ _ (by omega) (by omega))) | (go_at_call 38; exact F.call (floor_any _ _ _ (by omega) (by omega) (by omega) (by omega)))))
  refine wpQuiet_nil ?_
  rintro _ ⟨t, rfl⟩
  go_wp2
  go_ret
  exact ⟨rfl, (by repeat (first | exact Below.refl _ _ | refine Below.setCell ?_ (by simp <;> omega) _ | refine Below.alloc ?_ (by simp <;> omega) _ | exact Below.trans (by repeat (first | exact Below.refl _ _ | refine Below.alloc ?_ (by simp <;> omega) _)) (Below.mono (F.below t) (by simp <;> omega))))⟩

set_option maxHeartbeats 400000 in
theorem addRef_any (a m c k : Int) (w : World) (a0 : -1073741824 ≤ a) (a1 : a ≤ 1073741824) (m0 : 1 ≤ m) (m1 : m ≤ 1073741824) (c0 : -1073741824 ≤ c) (c1 : c ≤ 1073741824) (k0 : 1 ≤ k) (k1 : k ≤ 1073741824) :
    Calls Tryd.prog 13 #[.agg #[.int .i64 a, .int .i64 m], .agg #[.int .i64 c, .int .i64 k]] w fun e w' => e = .returned (.tuple #[.agg #[.int .i64 (Rat1.ofN (a * k + c * m) (m * k)), .int .i64 (Rat1.ofD (a * k + c * m) (m * k))], .int .i64 (Rat1.ofE (a * k + c * m) (m * k))]) ∧ Below w.heap.size w w' := by
  have ⟨p1, q1⟩ := Rat1.prod_bd (a := a) (b := k) (by omega) (by omega) (by omega) (by omega)
  have ⟨p2, q2⟩ := Rat1.prod_bd (a := c) (b := m) (by omega) (by omega) (by omega) (by omega)
  have ⟨p3, q3⟩ := Rat1.prod_bd (a := m) (b := k) (by omega) (by omega) (by omega) (by omega)
  go_enter Tryd.func13, Tryd.ntmps13
  go_wp2_with fail
  refine (ofRef_call _ _ _ (by omega) (by omega) (by omega) (by omega)).mono ?_
  rintro e w1 ⟨rfl, hb⟩
  obtain ⟨hc, hf⟩ := bcell hb
  go_wp2
  exact bodyPost_ret (v := .tuple #[.agg #[.int .i64 _, .int .i64 _], .int .i64 _]) (by simp [results, Tryd.results13, go_sem, hc]) rfl ⟨rfl, (by repeat (first | exact Below.refl _ _ | refine Below.setCell ?_ (by simp <;> omega) _ | refine Below.alloc ?_ (by simp <;> omega) _ | exact Below.trans (by repeat (first | exact Below.refl _ _ | refine Below.alloc ?_ (by simp <;> omega) _)) (Below.mono hb (by simp <;> omega))))⟩

theorem tdiv_gt {x y : Int} (hy : 1 ≤ y) : x.tdiv y * y > x ↔ x.tmod y < 0 := by
  have := Int.mul_tdiv_add_tmod x y
  rw [Int.mul_comm] at this
  omega
theorem tdiv_mul_bd {x y : Int} (x0 : -4503599627370496 ≤ x) (x1 : x ≤ 4503599627370496) (y0 : 1 ≤ y) (y1 : y ≤ 4503599627370496) : -9007199254740992 ≤ x.tdiv y * y ∧ x.tdiv y * y ≤ 9007199254740992 := by
  have := Int.mul_tdiv_add_tmod x y
  rw [Int.mul_comm] at this
  have h2 := Int.natAbs_tmod x y
  have h3 : x.natAbs % y.natAbs < y.natAbs := Nat.mod_lt _ (by omega)
  omega
end Go.Proofs.YtknojlccfjdpeaaDoor
