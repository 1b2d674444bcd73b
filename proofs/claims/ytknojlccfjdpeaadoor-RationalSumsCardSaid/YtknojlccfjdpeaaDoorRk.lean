/- The walks of the best approximation. -/
import Derived.Test.YtknojlccfjdpeaaDoorRj
import Derived.Test.YtknojlccfjdpeaaDoorTw
namespace Go.Proofs.YtknojlccfjdpeaaDoor
open Go.RowKit
set_option linter.unusedVariables false
set_option linter.unusedSimpArgs false

set_option maxHeartbeats 400000 in
theorem best_range (a m most : Int) (w : World) (hm : most < 1 ∨ 1073741824 < most) :
    Calls Tryd.prog 20 #[.agg #[.int .i64 a, .int .i64 m], .int .i64 most] w fun e w' => e = .returned (.tuple #[.agg #[.int .i64 0, .int .i64 0], .int .i64 2]) ∧ Below w.heap.size w w' := by
  by_cases h : most < 1
  · go_enter Tryd.func20, Tryd.ntmps20
    go_wp2
    exact bodyPost_ret (v := .tuple #[.agg #[.int .i64 _, .int .i64 _], .int .i64 _]) (by simp [results, Tryd.results20, go_sem]) rfl ⟨rfl, (by repeat (first | exact Below.refl _ _ | refine Below.setCell ?_ (by simp <;> omega) _ | refine Below.alloc ?_ (by simp <;> omega) _))⟩
  · have h' : 1073741824 < most := by omega
    go_enter Tryd.func20, Tryd.ntmps20
    go_wp2
    exact bodyPost_ret (v := .tuple #[.agg #[.int .i64 _, .int .i64 _], .int .i64 _]) (by simp [results, Tryd.results20, go_sem]) rfl ⟨rfl, (by repeat (first | exact Below.refl _ _ | refine Below.setCell ?_ (by simp <;> omega) _ | refine Below.alloc ?_ (by simp <;> omega) _))⟩

set_option maxHeartbeats 400000 in
theorem best_self (a m most : Int) (w : World) (h1 : 1 ≤ most) (h2 : most ≤ 1073741824) (a0 : -1073741824 ≤ a) (a1 : a ≤ 1073741824) (m0 : 0 ≤ m) (m1 : m ≤ 1073741823) (hm : m + 1 ≤ most) :
    Calls Tryd.prog 20 #[.agg #[.int .i64 a, .int .i64 m], .int .i64 most] w fun e w' => e = .returned (.tuple #[.agg #[.int .i64 a, .int .i64 m], .int .i64 0]) ∧ Below w.heap.size w w' := by
  go_enter Tryd.func20, Tryd.ntmps20
  go_wp2_with fail
  refine (den_any _ _ _ (by omega) (by omega)).mono ?_
  rintro e w1 ⟨rfl, hb⟩
  obtain ⟨hc, hf⟩ := bcell hb
  go_wp2
  exact bodyPost_ret (v := .tuple #[.agg #[.int .i64 _, .int .i64 _], .int .i64 _]) (by simp [results, Tryd.results20, go_sem, hc]) rfl ⟨rfl, (by repeat (first | exact Below.refl _ _ | refine Below.setCell ?_ (by simp <;> omega) _ | refine Below.alloc ?_ (by simp <;> omega) _ | exact Below.trans (by repeat (first | exact Below.refl _ _ | refine Below.alloc ?_ (by simp <;> omega) _)) (Below.mono hb (by simp <;> omega))))⟩


def BestPost (N D most : Int) (w : World) (e : Ending) (w' : World) : Prop :=
  ∃ p q, Rat1.BestOf N D most p q ∧ e = .returned (.tuple #[.agg #[.int .i64 p, .int .i64 (q - 1)], .int .i64 0]) ∧ Below w.heap.size w w'

theorem orF_nonpos {x y p q p' q' : Int} (hq : 0 < q) (hq' : 0 < q') (h : orF (cmpI x y) (cmpI q q') (cmpI (p * q') (p' * q)) ≤ 0) : x < y ∨ x = y ∧ (q < q' ∨ q = q' ∧ p ≤ p') := by
  unfold orF cmpI at h
  by_cases h1 : x < y
  · exact .inl h1
  · by_cases h2 : y < x
    · simp [h1, h2] at h
    · have e : x = y := by omega
      refine .inr ⟨e, ?_⟩
      by_cases h3 : q < q'
      · exact .inl h3
      · by_cases h4 : q' < q
        · simp [h1, h2, h3, h4] at h
        · have e2 : q = q' := by omega
          refine .inr ⟨e2, ?_⟩
          subst e2
          rcases Int.lt_or_le p' p with h5 | h5
          · have h6 : p' * q < p * q := Int.mul_lt_mul_of_pos_right h5 hq
            have h7 : ¬ p * q < p' * q := by omega
            simp [h1, h2, h7, h6] at h
          · exact h5
theorem orF_pos {x y p q p' q' : Int} (hq : 0 < q) (hq' : 0 < q') (h : ¬ orF (cmpI x y) (cmpI q q') (cmpI (p * q') (p' * q)) ≤ 0) : y < x ∨ y = x ∧ (q' < q ∨ q' = q ∧ p' ≤ p) := by
  unfold orF cmpI at h
  by_cases h1 : x < y
  · simp [h1] at h
  · by_cases h2 : y < x
    · exact .inl h2
    · have e : y = x := by omega
      refine .inr ⟨e, ?_⟩
      by_cases h3 : q < q'
      · simp [h1, h2, h3] at h
      · by_cases h4 : q' < q
        · exact .inl h4
        · have e2 : q' = q := by omega
          refine .inr ⟨e2, ?_⟩
          rcases Int.lt_or_le p p' with h5 | h5
          · have h6 : p * q' < p' * q := by rw [e2]; exact Int.mul_lt_mul_of_pos_right h5 hq
            have h7 : ¬ p' * q < p * q' := by omega
            simp [h1, h2, h3, h4, h6] at h
          · exact h5

theorem Rat1.Nb.gap_le {N D most p q p' q' : Int} (h : Rat1.Nb N D most p q p' q') (F : Rat1.Fix N D most) : Rat1.gap N D (p, q) ≤ D := by
  obtain ⟨q1, qm, q1', qm', p0, p1, p0', p1', ⟨s, al, be, hs, ha, hb, e1, e2, e3⟩, sum⟩ := h
  have g1 : Rat1.gap N D (p, q) = al := by
    unfold Rat1.gap; simp only; rw [e1]
    rcases hs with rfl | rfl <;> split <;> omega
  have hDe : D = al * q' + be * q := by
    rcases hs with rfl | rfl <;> grind
  have := Int.mul_le_mul_of_nonneg_left q1' (show 0 ≤ al by omega)
  have := Int.mul_nonneg (show 0 ≤ be by omega) (show 0 ≤ q by omega)
  omega

theorem nearer_call (a m p q p' q' : Int) (w : World) (a0 : -1073741824 ≤ a) (a1 : a ≤ 1073741824) (m0 : 0 ≤ m) (m1 : m ≤ 1073741823) (g5 : -1073741824 ≤ p) (g6 : p ≤ 1073741824) (g1 : 1 ≤ q) (g2 : q ≤ 1073741824) (g7 : -1073741824 ≤ p') (g8 : p' ≤ 1073741824) (g3 : 1 ≤ q') (g4 : q' ≤ 1073741824)
    (k1 : Rat1.gap a (m + 1) (p, q) ≤ m + 1) (k2 : Rat1.gap a (m + 1) (p', q') ≤ m + 1) :
    Calls Tryd.prog 37 #[.agg #[.int .i64 a, .int .i64 m], .agg #[.int .i64 p, .int .i64 (q - 1)], .agg #[.int .i64 p', .int .i64 (q' - 1)]] w fun e w' => e = .returned (.int .i64 (orF (cmpI (Rat1.gap a (m + 1) (p, q) * q') (Rat1.gap a (m + 1) (p', q') * q)) (cmpI q q') (cmpI (p * q') (p' * q)))) ∧ Below w.heap.size w w' := by
  have h := nearer_any a m p (q - 1) p' (q' - 1) w a0 a1 m0 m1 g5 g6 (by omega) (by omega) g7 g8 (by omega) (by omega) (by rw [Int.sub_add_cancel]; exact k1) (by rw [Int.sub_add_cancel]; exact k2)
  rw [Int.sub_add_cancel, Int.sub_add_cancel] at h
  exact h

set_option maxHeartbeats 1000000 in
theorem best_near (a m most : Int) (w : World) (F0 : Rat1.Fix a (m + 1) most) :
    Calls Tryd.prog 20 #[.agg #[.int .i64 a, .int .i64 m], .int .i64 most] w (BestPost a (m + 1) most w) := by
  have a0 := F0.n0; have a1 := F0.n1; have m1 := F0.d1; have t1 := F0.m1; have tm := F0.md
  have HF := Lib.hid F0
  clear F0
  go_enter Tryd.func20, Tryd.ntmps20
  go_wp2_with fail
  refine (den_any _ _ _ (by omega) (by omega)).mono ?_
  rintro e w1 ⟨rfl, hb⟩
  have B1 := Lib.hid (((Bel.refl w).alloc _).alloc _ |>.up hb)
  have X1 := ((Two.new w (.int .i64 a) (.int .i64 m) 24 w.heap.size rfl).alloc _).up hb
  have R1 := (Two.new _ (.int .i64 0) (.int .i64 0) 24 (w.heap.size + 1) (by simp)).up hb
  clear hb
  obtain ⟨x1, x2, x3, x4, x5⟩ := id X1
  obtain ⟨y1, y2, y3, y4, y5⟩ := id R1
  go_wp2_with fail
  refine (neighbours_any _ _ _ _ HF.out).mono ?_
  rintro e w2 ⟨p, q, p', q', hnb, rfl, hb⟩
  have g1 := hnb.q1; have g2 := hnb.qm; have g3 := hnb.q1'; have g4 := hnb.qm'; have g5 := hnb.p0; have g6 := hnb.p1; have g7 := hnb.p0'; have g8 := hnb.p1'
  have HN := Lib.hid hnb
  clear hnb
  have B2 := Lib.hid (B1.out.up hb)
  have X2 := X1.up hb
  have R2 := R1.up hb
  clear hb X1 R1 x1 x2 x3 x4 x5 y1 y2 y3 y4 y5
  obtain ⟨x1, x2, x3, x4, x5⟩ := id X2
  obtain ⟨y1, y2, y3, y4, y5⟩ := id R2
  go_wp2_with fail
  refine (nearer_call a m p q p' q' _ a0 a1 (by omega) (by omega) g5 g6 g1 (by omega) g7 g8 g3 (by omega) (HN.out.gap_le HF.out) (HN.out.swap.gap_le HF.out)).mono ?_
  rintro e w3 ⟨rfl, hb⟩
  have B3 := Lib.hid (((B2.out.alloc _).alloc _).up hb)
  have R3 := ((R2.alloc _).alloc _).up hb
  have P3 := ((Two.new w2 (.int .i64 p) (.int .i64 (q - 1)) 24 w2.heap.size rfl).alloc _).up hb
  have Q3 := (Two.new _ (.int .i64 p') (.int .i64 (q' - 1)) 24 (w2.heap.size + 1) (by simp)).up hb
  clear hb X2 R2 x1 x2 x3 x4 x5 y1 y2 y3 y4 y5
  obtain ⟨x1, x2, x3, x4, x5⟩ := id P3
  obtain ⟨z1, z2, z3, z4, z5⟩ := id Q3
  obtain ⟨y1, y2, y3, y4, y5⟩ := id R3
  by_cases hle : orF (cmpI (Rat1.gap a (m + 1) (p, q) * q') (Rat1.gap a (m + 1) (p', q') * q)) (cmpI q q') (cmpI (p * q') (p' * q)) ≤ 0
  · have HB := Lib.hid (HN.out.best HF.out (orF_nonpos (by omega) (by omega) hle))
    have hd : decide (orF (cmpI (Rat1.gap a (m + 1) (p, q) * q') (Rat1.gap a (m + 1) (p', q') * q)) (cmpI q q') (cmpI (p * q') (p' * q)) ≤ 0) = true := by simpa using hle
    go_wp2
    exact bodyPost_ret (v := .tuple #[.agg #[.int .i64 p, .int .i64 (q - 1)], .int .i64 0]) (by simp [results, Tryd.results20, go_sem, y2, y3]) rfl ⟨p, q, HB.out, rfl, ((B3.out.set (by omega) _ _).set (by omega) _ _).out⟩
  · have HB := Lib.hid (HN.out.swap.best HF.out (orF_pos (by omega) (by omega) hle))
    have hd : decide (orF (cmpI (Rat1.gap a (m + 1) (p, q) * q') (Rat1.gap a (m + 1) (p', q') * q)) (cmpI q q') (cmpI (p * q') (p' * q)) ≤ 0) = false := by simpa using hle
    go_wp2
    exact bodyPost_ret (v := .tuple #[.agg #[.int .i64 p', .int .i64 (q' - 1)], .int .i64 0]) (by simp [results, Tryd.results20, go_sem, y2, y3]) rfl ⟨p', q', HB.out, rfl, ((B3.out.set (by omega) _ _).set (by omega) _ _).out⟩
end Go.Proofs.YtknojlccfjdpeaaDoor
