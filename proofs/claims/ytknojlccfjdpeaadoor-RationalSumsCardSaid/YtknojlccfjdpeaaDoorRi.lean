/- The walks of the best approximation: distances. -/
import Derived.Test.YtknojlccfjdpeaaDoorRe
import Derived.Test.YtknojlccfjdpeaaDoorBn
namespace Go.Proofs.YtknojlccfjdpeaaDoor
open Go.RowKit
set_option linter.unusedVariables false
set_option linter.unusedSimpArgs false

set_option maxHeartbeats 400000 in
theorem gap_any (a m c k : Int) (w : World) (a0 : -1073741824 ≤ a) (a1 : a ≤ 1073741824) (m0 : 0 ≤ m) (m1 : m ≤ 1073741823) (c0 : -1073741824 ≤ c) (c1 : c ≤ 1073741824) (k0 : 0 ≤ k) (k1 : k ≤ 1073741823) :
    Calls Tryd.prog 46 #[.agg #[.int .i64 a, .int .i64 m], .agg #[.int .i64 c, .int .i64 k]] w fun e w' => e = .returned (.int .i64 (Rat1.gap a (m + 1) (c, k + 1))) ∧ Below w.heap.size w w' := by
  have ⟨p1, q1⟩ := Rat1.prod_bd (a := a) (b := k + 1) (by omega) (by omega) (by omega) (by omega)
  have ⟨p2, q2⟩ := Rat1.prod_bd (a := c) (b := m + 1) (by omega) (by omega) (by omega) (by omega)
  by_cases hn : a * (k + 1) - c * (m + 1) < 0
  · have e : Hid (Rat1.gap a (m + 1) (c, k + 1) = -(a * (k + 1) - c * (m + 1))) := by simp [Hid, Rat1.gap, hn]
    have hm : ¬ (a * (k + 1) - c * (m + 1)) ≥ -(a * (k + 1) - c * (m + 1)) := by omega
    go_enter Tryd.func46, Tryd.ntmps46
    go_wp2
    refine Qt.regionAll (by kernel_rfl) (by kernel_rfl) ?_
    intro T f F hne
    have hc := F.cell
    have hf := F.frozen
    repeat (go_big_quiet_step (first | (go_at_call 19; exact F.call (den_any _ _ _ (by omega) (by omega)))))
    refine wpQuiet_nil ?_
    rintro _ ⟨t, rfl⟩
    go_wp2
    go_ret
    exact ⟨ret_int e.out.symm, (by repeat (first | exact Below.refl _ _ | refine Below.setCell ?_ (by simp <;> omega) _ | refine Below.alloc ?_ (by simp <;> omega) _ | exact Below.trans (by repeat (first | exact Below.refl _ _ | refine Below.alloc ?_ (by simp <;> omega) _)) (Below.mono (F.below t) (by simp <;> omega))))⟩
  · have e : Hid (Rat1.gap a (m + 1) (c, k + 1) = a * (k + 1) - c * (m + 1)) := by simp [Hid, Rat1.gap, hn]
    have hm : (a * (k + 1) - c * (m + 1)) ≥ -(a * (k + 1) - c * (m + 1)) := by omega
    go_enter Tryd.func46, Tryd.ntmps46
    go_wp2
    refine Qt.regionAll (by kernel_rfl) (by kernel_rfl) ?_
    intro T f F hne
    have hc := F.cell
    have hf := F.frozen
    repeat (go_big_quiet_step (first | (go_at_call 19; exact F.call (den_any _ _ _ (by omega) (by omega)))))
    refine wpQuiet_nil ?_
    rintro _ ⟨t, rfl⟩
    go_wp2
    go_ret
    exact ⟨ret_int e.out.symm, (by repeat (first | exact Below.refl _ _ | refine Below.setCell ?_ (by simp <;> omega) _ | refine Below.alloc ?_ (by simp <;> omega) _ | exact Below.trans (by repeat (first | exact Below.refl _ _ | refine Below.alloc ?_ (by simp <;> omega) _)) (Below.mono (F.below t) (by simp <;> omega))))⟩

def orF (x y z : Int) : Int := if x ≠ 0 then x else if y ≠ 0 then y else z
theorem orF_at {v : Nat → Int} {k : Nat} (hk : k < 3) (h : ∀ i, i < k → v i = 0) (hv : v k ≠ 0) : orF (v 0) (v 1) (v 2) = v k := by
  unfold orF
  match k, hk with
  | 0, _ => rw [if_pos hv]
  | 1, _ => rw [if_neg (by simpa using h 0 (by omega)), if_pos hv]
  | 2, _ => rw [if_neg (by simpa using h 0 (by omega)), if_neg (by simpa using h 1 (by omega))]
theorem orF_none {v : Nat → Int} (h : ∀ i, i < 3 → v i = 0) : orF (v 0) (v 1) (v 2) = 0 := by
  unfold orF
  rw [if_neg (by simpa using h 0 (by omega)), if_neg (by simpa using h 1 (by omega)), h 2 (by omega)]

set_option maxHeartbeats 400000 in
theorem or3_any (v : Nat → Int) (b : Nat) (w : World) (hc : ∀ i, i < 3 → w.cell? ⟨b, i, none⟩ = some (.int .i64 (v i))) :
    Calls Tryd.prog 44 #[.slice (some ⟨b, 0, none⟩) 3 3] w fun e w' => e = .returned (.int .i64 (orF (v 0) (v 1) (v 2))) ∧ w = w' := by
  have HC := Lib.hid hc
  clear hc
  have h3 : 3 ≤ 9223372036854775807 := by omega
  go_enter Tryd.func44, Tryd.ntmps44
  go_wp2
  go_loop [8] (fun i => ∃ k : Nat, k ≤ 3 ∧ i = .int .i64 k ∧ Hid (∀ i, i < k → v i = 0)) (fun i => 3 - (intOf i).toNat)
  case atStart => exact ⟨0, by omega, rfl, fun i h => absurd h (by omega)⟩
  case round =>
    obtain ⟨k, hk, rfl, hz⟩ := hrel
    by_cases hlt : k < 3
    · have hcell := HC.out k hlt
      by_cases h0 : v k = 0
      · have hz' : Hid (∀ i, i < k + 1 → v i = 0) := by
          intro i hi
          by_cases e : i = k
          · rw [e]; exact h0
          · exact hz i (by omega)
        rw [h0] at hcell
        clear h0 hz
        go_wp2
        go_round
        case rel => exact ⟨k + 1, by omega, by go_num, hz'⟩
        case measure => simp [intOf]; omega
      · have hne : (v k == 0) = false := by simpa using h0
        have HF := Lib.hid (orF_at hlt hz h0)
        clear hz h0
        go_wp2
        go_ret
        exact ⟨ret_int HF.out.symm, rfl⟩
    · obtain rfl : k = 3 := by omega
      have HF := Lib.hid (orF_none hz)
      clear hz
      go_wp2
      go_ret
      exact ⟨ret_int HF.out.symm, rfl⟩

theorem or3_call (x y z : Int) (b : Nat) (w : World) (c0 : w.cell? ⟨b, 0, none⟩ = some (.int .i64 x)) (c1 : w.cell? ⟨b, 1, none⟩ = some (.int .i64 y)) (c2 : w.cell? ⟨b, 2, none⟩ = some (.int .i64 z)) :
    Calls Tryd.prog 44 #[.slice (some ⟨b, 0, none⟩) 3 3] w fun e w' => e = .returned (.int .i64 (orF x y z)) ∧ w = w' :=
  or3_any (fun i => if i = 0 then x else if i = 1 then y else z) b w fun i hi => by
    match i, hi with
    | 0, _ => simpa using c0
    | 1, _ => simpa using c1
    | 2, _ => simpa using c2

set_option maxHeartbeats 400000 in
theorem nearer_any (a m c k u v : Int) (w : World) (a0 : -1073741824 ≤ a) (a1 : a ≤ 1073741824) (m0 : 0 ≤ m) (m1 : m ≤ 1073741823) (c0 : -1073741824 ≤ c) (c1 : c ≤ 1073741824) (k0 : 0 ≤ k) (k1 : k ≤ 1073741823) (u0 : -1073741824 ≤ u) (u1 : u ≤ 1073741824) (v0 : 0 ≤ v) (v1 : v ≤ 1073741823) (g1 : Rat1.gap a (m + 1) (c, k + 1) ≤ m + 1) (g2 : Rat1.gap a (m + 1) (u, v + 1) ≤ m + 1) :
    Calls Tryd.prog 37 #[.agg #[.int .i64 a, .int .i64 m], .agg #[.int .i64 c, .int .i64 k], .agg #[.int .i64 u, .int .i64 v]] w fun e w' => e = .returned (.int .i64 (orF (cmpI (Rat1.gap a (m + 1) (c, k + 1) * (v + 1)) (Rat1.gap a (m + 1) (u, v + 1) * (k + 1))) (cmpI (k + 1) (v + 1)) (cmpI (c * (v + 1)) (u * (k + 1))))) ∧ Below w.heap.size w w' := by
  have z1 := Rat1.gap_nonneg a (m + 1) (c, k + 1)
  have z2 := Rat1.gap_nonneg a (m + 1) (u, v + 1)
  have ⟨p1, q1⟩ := Rat1.prod_bd (a := Rat1.gap a (m + 1) (c, k + 1)) (b := v + 1) (by omega) (by omega) (by omega) (by omega)
  have ⟨p2, q2⟩ := Rat1.prod_bd (a := Rat1.gap a (m + 1) (u, v + 1)) (b := k + 1) (by omega) (by omega) (by omega) (by omega)
  go_enter Tryd.func37, Tryd.ntmps37
  go_wp2
  refine Qt.region 21 (by kernel_rfl) (by kernel_rfl) ?_
  intro T f F hne
  have hc := F.cell
  have hf := F.frozen
  simp only [List.take_succ_cons, List.take_zero, List.drop_succ_cons, List.drop_zero]
  repeat (go_big_quiet_step (first | (go_at_call 46; exact F.call (gap_any _ _ _ _ _ (by omega) (by omega) (by omega) (by omega) (by omega) (by omega) (by omega) (by omega))) | (go_at_call 19; exact F.call (den_any _ _ _ (by omega) (by omega))) | (go_at_call 45; exact F.call (compare_any _ _ _)) | (go_at_call 47; exact F.call (cmp_any _ _ _ _ _ (by omega) (by omega) (by omega) (by omega) (by omega) (by omega) (by omega) (by omega)))))
  refine wpQuiet_nil ?_
  rintro _ ⟨t, rfl⟩
  go_wp2_with fail
  refine (or3_call (cmpI (Rat1.gap a (m + 1) (c, k + 1) * (v + 1)) (Rat1.gap a (m + 1) (u, v + 1) * (k + 1))) (cmpI (k + 1) (v + 1)) (cmpI (c * (v + 1)) (u * (k + 1))) _ _ (by simp [go_sem]) (by simp [go_sem]) (by simp [go_sem])).mono ?_
  rintro e w1 ⟨rfl, rfl⟩
  go_wp2
  go_ret
  exact ⟨rfl, (Below.trans (by repeat (first | exact Below.refl _ _ | refine Below.alloc ?_ (by simp <;> omega) _)) ((F.below t).mono (by simp; omega))).alloc (by have := F.size t; simp at this; omega) _⟩

end Go.Proofs.YtknojlccfjdpeaaDoor
