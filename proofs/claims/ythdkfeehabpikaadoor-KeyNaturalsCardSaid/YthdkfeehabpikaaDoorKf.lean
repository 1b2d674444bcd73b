/- Keys: slices.Reverse over seven numbers, the signature. -/
import Derived.Test.YthdkfeehabpikaaDoorKd
import Derived.Deep.RegionWith
namespace Go.Proofs.YthdkfeehabpikaaDoor
open Go.RowKit
set_option linter.unusedVariables false
set_option linter.unusedSimpArgs false

/-- seven cells of a block -/
def Sev (w : World) (b : Nat) (vs : Nat → Int) : Prop := ∀ j : Nat, j < 7 → w.cell? ⟨b, j, none⟩ = some (.int .i64 (vs j)) ∧ w.frozen? ⟨b, j, none⟩ = false
theorem Sev.lt {w : World} {b : Nat} {vs : Nat → Int} (h : Sev w b vs) : b < w.heap.size := lt_of_cell (h 0 (by omega)).1
theorem Sev.set {w : World} {b : Nat} {vs : Nat → Int} (h : Sev w b vs) (i : Nat) (hi : i < 7) (u : Int) : Sev (w.setCell ⟨b, i, none⟩ (.int .i64 u)) b (fun j => if j = i then u else vs j) := by
  intro j hj
  have hi' := h i hi
  have hj' := h j hj
  by_cases e : j = i
  · subst e
    simp [go_sem, hi'.1, hi'.2]
  · have e' : i ≠ j := fun h => e h.symm
    simp [go_sem, hj'.1, hj'.2, e, e']
theorem Sev.drew {w : World} {b : Nat} {vs : Nat → Int} (h : Sev w b vs) : Sev w.drew b vs := fun j hj => by have := h j hj; simpa [go_sem] using this
theorem Sev.eq {w : World} {b : Nat} {vs us : Nat → Int} (h : Sev w b vs) (e : ∀ j, j < 7 → vs j = us j) : Sev w b us := fun j hj => by rw [← e j hj]; exact h j hj
set_option maxRecDepth 100000 in
set_option maxHeartbeats 2000000 in
theorem rev_7 (g cap base : Nat) (vs : Nat → Int) (w : World) (hg : base ≤ g) (hr : Sev w g vs) :
    Calls Tryd.prog 41 #[.slice (some ⟨g, 0, none⟩) 7 cap] w fun e w' => e = .returned (.tuple #[]) ∧ Sev w' g (fun j => vs (6 - j)) ∧ Below base w w' := by
  have HR := Lib.hid hr
  clear hr
  go_enter Tryd.func41, Tryd.ntmps41
  go_wp2_with fail
  go_loopg [2, 3] 3 (fun gm i j wr => ∃ k : Nat, k ≤ 3 ∧ gm = 3 - k ∧ i = .int .i64 (k : Int) ∧ j = .int .i64 (6 - (k : Int)) ∧ Hid (Sev wr g (fun j => if j < k ∨ 6 - k < j then vs (6 - j) else vs j)) ∧ Hid (Below base w wr))
  case atStart => exact ⟨0, by omega, by omega, rfl, rfl, Lib.hid (fun j hj => by have := HR.out j hj; simpa [show ¬ 6 < j by omega] using this), Lib.hid (Below.refl _ _)⟩
  case round =>
    obtain ⟨k, hk, rfl, rfl, rfl, HS, HB⟩ := hrel
    by_cases hlt : k < 3
    · obtain ⟨c0, g0⟩ := HS.out k (by omega)
      obtain ⟨c1, g1⟩ := HS.out (6 - k) (by omega)
      have t1 : (6 - (k : Int)).toNat = 6 - k := by omega
      simp only [show ¬ (k < k ∨ 6 - k < k) by omega, show ¬ (6 - k < k ∨ 6 - k < 6 - k) by omega, if_false] at c0 c1
      have S2 := Lib.hid ((HS.out.set k (by omega) (vs (6 - k))).set (6 - k) (by omega) (vs k))
      have B2 := Lib.hid ((HB.out.setCell (p := ⟨g, k, none⟩) hg (.int .i64 (vs (6 - k)))).setCell (p := ⟨g, 6 - k, none⟩) hg (.int .i64 (vs k)))
      have ne1 : k ≠ 6 - k := by omega
      have ne2 : 6 - k ≠ k := by omega
      go_wp2_with fail
      go_region_with (fail)
      go_wp2_with fail
      all_goals
        go_roundg (3 - (k + 1))
        case measure => omega
        case rel => exact ⟨k + 1, by omega, rfl, by go_num, by go_num, Lib.hid ((S2.out.drew).eq (by
          intro j hj
          by_cases e1 : j = 6 - k
          · subst e1; simp only [if_pos, show (6 - k < k + 1 ∨ 6 - (k + 1) < 6 - k) by omega, if_true]; congr 1; omega
          · by_cases e2 : j = k
            · subst e2; simp only [e1, if_false, if_true, show (j < j + 1 ∨ 6 - (j + 1) < j) by omega]
            · simp only [e1, e2, if_false]
              by_cases e3 : j < k ∨ 6 - k < j
              · rw [if_pos e3, if_pos (by omega)]
              · rw [if_neg e3, if_neg (by omega)])), Lib.hid B2.out.drew⟩
    · obtain rfl : k = 3 := by omega
      go_wp2_with fail
      go_end0
      exact ⟨rfl, HS.out.eq (by
        intro j hj
        by_cases e3 : j < 3 ∨ 6 - 3 < j
        · simp only [if_pos e3]
        · simp only [if_neg e3]; congr 1; omega), HB.out⟩
theorem sig_cases {f : Int} (h : Sg f) : (f = 0 ∨ f = 1 ∨ f = 2 ∨ f = 3 ∨ f = 4 ∨ f = 5 ∨ f = 6 ∨ f = 7) ∨ (f = -1 ∨ f = -2 ∨ f = -3 ∨ f = -4 ∨ f = -5 ∨ f = -6 ∨ f = -7) := by
  have := h.f0; have := h.f1; omega
def sigL (f : Int) : List Int := if 0 ≤ f then [3, 0, 4, 1, 5, 2, 6].take f.toNat else [6, 2, 5, 1, 4, 0, 3].take (-f).toNat
set_option maxRecDepth 100000 in
set_option maxHeartbeats 4000000 in
theorem sig_pos (f : Int) (w : World) (hk : KT w) (h : f = 0 ∨ f = 1 ∨ f = 2 ∨ f = 3 ∨ f = 4 ∨ f = 5 ∨ f = 6 ∨ f = 7) :
    Calls Tryd.prog 31 #[.int .i64 f] w fun e w' => ∃ b, e = .returned (.slice (some ⟨b, 0, none⟩) (sigL f).length 7) ∧ Row1 w' b (sigL f) ∧ Below w.heap.size w w' := by
  have B0 := Lib.hid (Bel.refl w)
  have K0 := Lib.hid hk
  obtain ⟨s0, s1, s2, s3, s4, s5, s6, g0, g1, g2⟩ := id K0.out
  rcases h with rfl | rfl | rfl | rfl | rfl | rfl | rfl | rfl
  all_goals
    go_enter Tryd.func31, Tryd.ntmps31
    go_wp2_with fail
    refine bodyPost_ret (v := .slice (some ⟨w.heap.size, 0, none⟩) _ 7) (by first | (simp [results, Tryd.results31, go_sem]; done) | (simp [results, Tryd.results31, go_sem]; rfl)) rfl ⟨w.heap.size, rfl, fun k x hx => ?_, by repeat (first | exact Below.refl _ _ | refine below_drewN ?_ _ | refine Below.drew ?_ | refine Below.alloc ?_ (Nat.le_refl _) _)⟩
    match k, hx with
    | 0, hx => first | (simp [sigL] at hx; done) | (simp [sigL] at hx; subst hx; simp)
    | 1, hx => first | (simp [sigL] at hx; done) | (simp [sigL] at hx; subst hx; simp)
    | 2, hx => first | (simp [sigL] at hx; done) | (simp [sigL] at hx; subst hx; simp)
    | 3, hx => first | (simp [sigL] at hx; done) | (simp [sigL] at hx; subst hx; simp)
    | 4, hx => first | (simp [sigL] at hx; done) | (simp [sigL] at hx; subst hx; simp)
    | 5, hx => first | (simp [sigL] at hx; done) | (simp [sigL] at hx; subst hx; simp)
    | 6, hx => first | (simp [sigL] at hx; done) | (simp [sigL] at hx; subst hx; simp)
    | k + 7, hx => simp [sigL] at hx
set_option maxRecDepth 100000 in
set_option maxHeartbeats 4000000 in
theorem sig_neg (f : Int) (w : World) (hk : KT w) (h : f = -1 ∨ f = -2 ∨ f = -3 ∨ f = -4 ∨ f = -5 ∨ f = -6 ∨ f = -7) :
    Calls Tryd.prog 31 #[.int .i64 f] w fun e w' => ∃ b, e = .returned (.slice (some ⟨b, 0, none⟩) (sigL f).length 7) ∧ Row1 w' b (sigL f) ∧ Below w.heap.size w w' := by
  have B0 := Lib.hid (Bel.refl w)
  have K0 := Lib.hid hk
  obtain ⟨s0, s1, s2, s3, s4, s5, s6, g0, g1, g2⟩ := id K0.out
  rcases h with rfl | rfl | rfl | rfl | rfl | rfl | rfl
  all_goals
    go_enter Tryd.func31, Tryd.ntmps31
    go_wp2_with fail
    refine (rev_7 w.heap.size 7 w.heap.size (fun j => ([3, 0, 4, 1, 5, 2, 6] : List Int).getD j 0) _ (Nat.le_refl _) (fun j hj => ?_)).mono ?_
    · match j, hj with
      | 0, _ => exact ⟨by simp, by simp⟩
      | 1, _ => exact ⟨by simp, by simp⟩
      | 2, _ => exact ⟨by simp, by simp⟩
      | 3, _ => exact ⟨by simp, by simp⟩
      | 4, _ => exact ⟨by simp, by simp⟩
      | 5, _ => exact ⟨by simp, by simp⟩
      | 6, _ => exact ⟨by simp, by simp⟩
    rintro e w1 ⟨rfl, hs, hb⟩
    have B1 := Lib.hid (show Below w.heap.size w w1 from Below.trans (by repeat (first | exact Below.refl _ _ | refine below_drewN ?_ _ | refine Below.drew ?_ | refine Below.alloc ?_ (Nat.le_refl _) _)) hb)
    have S1 := Lib.hid hs
    clear hb hs
    go_wp2_with fail
    refine bodyPost_ret (v := .slice (some ⟨w.heap.size, 0, none⟩) _ 7) (by first | (simp [results, Tryd.results31, go_sem]; done) | (simp [results, Tryd.results31, go_sem]; rfl)) rfl ⟨w.heap.size, rfl, fun k x hx => ?_, by repeat (first | exact B1.out | refine below_drewN ?_ _ | refine Below.drew ?_)⟩
    have hk' : k < 7 := by
      have := (List.getElem?_eq_some_iff.1 hx).1
      simp [sigL] at this
      omega
    have hc := (S1.out k hk').1
    match k, hx, hc with
    | 0, hx, hc => first | (simp [sigL] at hx; done) | (simp [sigL] at hx; subst hx; simpa using hc)
    | 1, hx, hc => first | (simp [sigL] at hx; done) | (simp [sigL] at hx; subst hx; simpa using hc)
    | 2, hx, hc => first | (simp [sigL] at hx; done) | (simp [sigL] at hx; subst hx; simpa using hc)
    | 3, hx, hc => first | (simp [sigL] at hx; done) | (simp [sigL] at hx; subst hx; simpa using hc)
    | 4, hx, hc => first | (simp [sigL] at hx; done) | (simp [sigL] at hx; subst hx; simpa using hc)
    | 5, hx, hc => first | (simp [sigL] at hx; done) | (simp [sigL] at hx; subst hx; simpa using hc)
    | 6, hx, hc => first | (simp [sigL] at hx; done) | (simp [sigL] at hx; subst hx; simpa using hc)
    | k + 7, hx, hc => simp [sigL] at hx
end Go.Proofs.YthdkfeehabpikaaDoor
