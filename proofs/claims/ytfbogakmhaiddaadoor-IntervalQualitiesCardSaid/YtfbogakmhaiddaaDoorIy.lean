/- Intervals: Quality and Simple of the reference. -/
import Derived.Test.YtfbogakmhaiddaaDoorIx
namespace Go.Proofs.YtfbogakmhaiddaaDoor
open Go.RowKit
set_option linter.unusedVariables false
set_option linter.unusedSimpArgs false

theorem qual_p {x y D : Int} (hc : clsI (x % 7) = 0) (hD : y - usualI x = D) : qualI x y = perI D := by unfold qualI; rw [if_pos hc, hD]
theorem qual_m {x y D : Int} (hc : clsI (x % 7) = 1) (hD : y - usualI x = D) : qualI x y = majI D := by unfold qualI; rw [if_neg (by rw [hc]; omega), hD]
set_option maxRecDepth 100000 in
set_option maxHeartbeats 2000000 in
theorem refQual_of (t m x y : Int) (w : World) (hU : ∀ v' : World, Calls Tryd.prog 55 #[.agg #[.int .i64 t, .int .i64 m]] v' fun e w' => e = .returned (.agg #[.int .i64 x, .int .i64 y]) ∧ Below v'.heap.size v' w') (x0 : 0 ≤ x) (x1 : x ≤ 77) (y0 : -140 ≤ y) (y1 : y ≤ 140) :
    Calls Tryd.prog 33 #[.agg #[.int .i64 t, .int .i64 m]] w fun e w' => e = .returned (.tuple #[.int .i64 (qualI x y).1, .int .i64 (qualI x y).2]) ∧ Below w.heap.size w w' := by
  have B0 := Lib.hid ((Bel.refl w).alloc (.cells #[.int .i64 t, .int .i64 m] 23))
  have X0 := Duo.new w (.int .i64 t) (.int .i64 m) 23 (w.heap.size) (by simp)
  have HU := Lib.hid hU
  have sb := step_bd (s := x % 7) (by omega) (by omega)
  have hDD : y - 12 * (x / 7) - stepI (x % 7) = y - usualI x := by unfold usualI; omega
  clear hU
  go_enter Tryd.func33, Tryd.ntmps33
  obtain ⟨xf0, xf1, xf2, xf3, xf4⟩ := id X0
  go_wp2_with fail
  clear xf0 xf1 xf2 xf3 xf4
  refine (HU.out _).mono ?_
  rintro e w1 ⟨rfl, hb⟩
  have B1 := Lib.hid ((B0.out.up hb).alloc (.cells #[.int .i64 x, .int .i64 y] 23))
  have X1 := (X0.up hb).alloc (.cells #[.int .i64 x, .int .i64 y] 23)
  have U1 := Duo.new w1 (.int .i64 x) (.int .i64 y) 23 (w1.heap.size) (by simp)
  clear hb B0  X0
  obtain ⟨xf0, xf1, xf2, xf3, xf4⟩ := id X1
  obtain ⟨uf0, uf1, uf2, uf3, uf4⟩ := id U1
  go_wp2_with fail
  have KB := Lib.hid (fun v' => base_any (x % 7) v' (by omega) (by omega))
  clear xf0 xf1 xf2 xf3 xf4 uf0 uf1 uf2 uf3 uf4
  refine Qt.regionAll (by kernel_rfl) (by kernel_rfl) ?_
  intro T f F hne
  have RB := Lib.hid (fun g => B1.out.up (F.below g))
  have RX := fun g => X1.up (F.below g)
  have RX0 := fun g => (RX g).c0
  have RX1 := fun g => (RX g).c1
  have RU := fun g => U1.up (F.below g)
  have RU0 := fun g => (RU g).c0
  have RU1 := fun g => (RU g).c1
  repeat (go_big_quiet_step (first | (go_at_call 49; with_reducible exact F.call (KB.out _))))
  refine wpQuiet_nil ?_
  rintro _ ⟨g, rfl⟩
  have B2 := Lib.hid (RB.out g)
  have X2 := RX g
  have U2 := RU g
  clear F RB hne RX RX0 RX1 RU RU0 RU1 B1 X1 U1
  generalize f g = w2 at *
  clear f
  obtain ⟨xf0, xf1, xf2, xf3, xf4⟩ := id X2
  obtain ⟨uf0, uf1, uf2, uf3, uf4⟩ := id U2
  obtain ⟨D, hD⟩ : ∃ D, y - usualI x = D := ⟨_, rfl⟩
  have HE := Lib.hid hD
  have dB : -300 ≤ D ∧ D ≤ 300 := by rw [← hD]; unfold usualI; omega
  obtain ⟨dB0, dB1⟩ := dB
  rw [hD]
  clear hD hDD sb KB
  rcases (show x % 7 = 0 ∨ x % 7 = 1 ∨ x % 7 = 2 ∨ x % 7 = 3 ∨ x % 7 = 4 ∨ x % 7 = 5 ∨ x % 7 = 6 by omega) with hr | hr | hr | hr | hr | hr | hr
  · rcases (show 0 < D ∨ D = 0 ∨ D < 0 by omega) with h | rfl | h
    · have HV : Hid (qualI x y = (2, D)) := by
        unfold Hid; rw [qual_p (by rw [hr]; decide) HE.out]; unfold perI; (repeat' split) <;> first | rfl | omega
      go_wp2_with fail
      go_ret2
      exact ⟨by rw [HV.out]; first | done | rfl, B2.out.out⟩
    · have HV : Hid (qualI x y = (0, 0)) := by
        unfold Hid; rw [qual_p (by rw [hr]; decide) HE.out]; unfold perI; (repeat' split) <;> first | rfl | omega
      go_wp2_with fail
      go_ret2
      exact ⟨by rw [HV.out]; first | done | rfl, B2.out.out⟩
    · have HV : Hid (qualI x y = (-2, -D)) := by
        unfold Hid; rw [qual_p (by rw [hr]; decide) HE.out]; unfold perI; (repeat' split) <;> first | rfl | omega
      go_wp2_with fail
      go_ret2
      exact ⟨by rw [HV.out]; first | done | rfl, B2.out.out⟩
  · rcases (show 0 < D ∨ D = 0 ∨ D = -1 ∨ D < -1 by omega) with h | rfl | rfl | h
    · have HV : Hid (qualI x y = (2, D)) := by
        unfold Hid; rw [qual_m (by rw [hr]; decide) HE.out]; unfold majI; (repeat' split) <;> first | rfl | omega
      go_wp2_with fail
      go_ret2
      exact ⟨by rw [HV.out]; first | done | rfl, B2.out.out⟩
    · have HV : Hid (qualI x y = (1, 0)) := by
        unfold Hid; rw [qual_m (by rw [hr]; decide) HE.out]; unfold majI; (repeat' split) <;> first | rfl | omega
      go_wp2_with fail
      go_ret2
      exact ⟨by rw [HV.out]; first | done | rfl, B2.out.out⟩
    · have HV : Hid (qualI x y = (-1, 0)) := by
        unfold Hid; rw [qual_m (by rw [hr]; decide) HE.out]; unfold majI; (repeat' split) <;> first | rfl | omega
      go_wp2_with fail
      go_ret2
      exact ⟨by rw [HV.out]; first | done | rfl, B2.out.out⟩
    · have HV : Hid (qualI x y = (-2, -1 - D)) := by
        unfold Hid; rw [qual_m (by rw [hr]; decide) HE.out]; unfold majI; (repeat' split) <;> first | rfl | omega
      go_wp2_with fail
      go_ret2
      exact ⟨by rw [HV.out]; first | done | rfl, B2.out.out⟩
  · rcases (show 0 < D ∨ D = 0 ∨ D = -1 ∨ D < -1 by omega) with h | rfl | rfl | h
    · have HV : Hid (qualI x y = (2, D)) := by
        unfold Hid; rw [qual_m (by rw [hr]; decide) HE.out]; unfold majI; (repeat' split) <;> first | rfl | omega
      go_wp2_with fail
      go_ret2
      exact ⟨by rw [HV.out]; first | done | rfl, B2.out.out⟩
    · have HV : Hid (qualI x y = (1, 0)) := by
        unfold Hid; rw [qual_m (by rw [hr]; decide) HE.out]; unfold majI; (repeat' split) <;> first | rfl | omega
      go_wp2_with fail
      go_ret2
      exact ⟨by rw [HV.out]; first | done | rfl, B2.out.out⟩
    · have HV : Hid (qualI x y = (-1, 0)) := by
        unfold Hid; rw [qual_m (by rw [hr]; decide) HE.out]; unfold majI; (repeat' split) <;> first | rfl | omega
      go_wp2_with fail
      go_ret2
      exact ⟨by rw [HV.out]; first | done | rfl, B2.out.out⟩
    · have HV : Hid (qualI x y = (-2, -1 - D)) := by
        unfold Hid; rw [qual_m (by rw [hr]; decide) HE.out]; unfold majI; (repeat' split) <;> first | rfl | omega
      go_wp2_with fail
      go_ret2
      exact ⟨by rw [HV.out]; first | done | rfl, B2.out.out⟩
  · rcases (show 0 < D ∨ D = 0 ∨ D < 0 by omega) with h | rfl | h
    · have HV : Hid (qualI x y = (2, D)) := by
        unfold Hid; rw [qual_p (by rw [hr]; decide) HE.out]; unfold perI; (repeat' split) <;> first | rfl | omega
      go_wp2_with fail
      go_ret2
      exact ⟨by rw [HV.out]; first | done | rfl, B2.out.out⟩
    · have HV : Hid (qualI x y = (0, 0)) := by
        unfold Hid; rw [qual_p (by rw [hr]; decide) HE.out]; unfold perI; (repeat' split) <;> first | rfl | omega
      go_wp2_with fail
      go_ret2
      exact ⟨by rw [HV.out]; first | done | rfl, B2.out.out⟩
    · have HV : Hid (qualI x y = (-2, -D)) := by
        unfold Hid; rw [qual_p (by rw [hr]; decide) HE.out]; unfold perI; (repeat' split) <;> first | rfl | omega
      go_wp2_with fail
      go_ret2
      exact ⟨by rw [HV.out]; first | done | rfl, B2.out.out⟩
  · rcases (show 0 < D ∨ D = 0 ∨ D < 0 by omega) with h | rfl | h
    · have HV : Hid (qualI x y = (2, D)) := by
        unfold Hid; rw [qual_p (by rw [hr]; decide) HE.out]; unfold perI; (repeat' split) <;> first | rfl | omega
      go_wp2_with fail
      go_ret2
      exact ⟨by rw [HV.out]; first | done | rfl, B2.out.out⟩
    · have HV : Hid (qualI x y = (0, 0)) := by
        unfold Hid; rw [qual_p (by rw [hr]; decide) HE.out]; unfold perI; (repeat' split) <;> first | rfl | omega
      go_wp2_with fail
      go_ret2
      exact ⟨by rw [HV.out]; first | done | rfl, B2.out.out⟩
    · have HV : Hid (qualI x y = (-2, -D)) := by
        unfold Hid; rw [qual_p (by rw [hr]; decide) HE.out]; unfold perI; (repeat' split) <;> first | rfl | omega
      go_wp2_with fail
      go_ret2
      exact ⟨by rw [HV.out]; first | done | rfl, B2.out.out⟩
  · rcases (show 0 < D ∨ D = 0 ∨ D = -1 ∨ D < -1 by omega) with h | rfl | rfl | h
    · have HV : Hid (qualI x y = (2, D)) := by
        unfold Hid; rw [qual_m (by rw [hr]; decide) HE.out]; unfold majI; (repeat' split) <;> first | rfl | omega
      go_wp2_with fail
      go_ret2
      exact ⟨by rw [HV.out]; first | done | rfl, B2.out.out⟩
    · have HV : Hid (qualI x y = (1, 0)) := by
        unfold Hid; rw [qual_m (by rw [hr]; decide) HE.out]; unfold majI; (repeat' split) <;> first | rfl | omega
      go_wp2_with fail
      go_ret2
      exact ⟨by rw [HV.out]; first | done | rfl, B2.out.out⟩
    · have HV : Hid (qualI x y = (-1, 0)) := by
        unfold Hid; rw [qual_m (by rw [hr]; decide) HE.out]; unfold majI; (repeat' split) <;> first | rfl | omega
      go_wp2_with fail
      go_ret2
      exact ⟨by rw [HV.out]; first | done | rfl, B2.out.out⟩
    · have HV : Hid (qualI x y = (-2, -1 - D)) := by
        unfold Hid; rw [qual_m (by rw [hr]; decide) HE.out]; unfold majI; (repeat' split) <;> first | rfl | omega
      go_wp2_with fail
      go_ret2
      exact ⟨by rw [HV.out]; first | done | rfl, B2.out.out⟩
  · rcases (show 0 < D ∨ D = 0 ∨ D = -1 ∨ D < -1 by omega) with h | rfl | rfl | h
    · have HV : Hid (qualI x y = (2, D)) := by
        unfold Hid; rw [qual_m (by rw [hr]; decide) HE.out]; unfold majI; (repeat' split) <;> first | rfl | omega
      go_wp2_with fail
      go_ret2
      exact ⟨by rw [HV.out]; first | done | rfl, B2.out.out⟩
    · have HV : Hid (qualI x y = (1, 0)) := by
        unfold Hid; rw [qual_m (by rw [hr]; decide) HE.out]; unfold majI; (repeat' split) <;> first | rfl | omega
      go_wp2_with fail
      go_ret2
      exact ⟨by rw [HV.out]; first | done | rfl, B2.out.out⟩
    · have HV : Hid (qualI x y = (-1, 0)) := by
        unfold Hid; rw [qual_m (by rw [hr]; decide) HE.out]; unfold majI; (repeat' split) <;> first | rfl | omega
      go_wp2_with fail
      go_ret2
      exact ⟨by rw [HV.out]; first | done | rfl, B2.out.out⟩
    · have HV : Hid (qualI x y = (-2, -1 - D)) := by
        unfold Hid; rw [qual_m (by rw [hr]; decide) HE.out]; unfold majI; (repeat' split) <;> first | rfl | omega
      go_wp2_with fail
      go_ret2
      exact ⟨by rw [HV.out]; first | done | rfl, B2.out.out⟩
set_option maxRecDepth 100000 in
set_option maxHeartbeats 2000000 in
theorem refSimp_n (t m : Int) (w : World) (h : Iv t m) (hd : ¬ dwn t m) :
    Calls Tryd.prog 34 #[.agg #[.int .i64 t, .int .i64 m]] w fun e w' => e = .returned (.tuple #[.agg #[.int .i64 (t - 7 * (t / 7)), .int .i64 (m - 12 * (t / 7))], .int .i64 (t / 7)]) ∧ Below w.heap.size w w' := by
  have B0 := Lib.hid (((Bel.refl w).alloc (.cells #[.int .i64 t, .int .i64 m] 23)).alloc (.cells #[.int .i64 0, .int .i64 0] 23))
  have X0 := (Duo.new w (.int .i64 t) (.int .i64 m) 23 (w.heap.size) (by simp)).alloc (.cells #[.int .i64 0, .int .i64 0] 23)
  have R0 := Duo.new (w.alloc (.cells #[.int .i64 t, .int .i64 m] 23)) (.int .i64 0) (.int .i64 0) 23 (w.heap.size + 1) (by simp)
  have HP := Lib.hid h
  have HD := Lib.hid hd
  have t0 : 0 ≤ t := by unfold dwn at hd; omega
  obtain ⟨-, t1, m0, m1⟩ := h
  have k0 : 0 ≤ t / 7 := by omega
  have k1 : t / 7 ≤ 11 := by omega
  go_enter Tryd.func34, Tryd.ntmps34
  obtain ⟨xf0, xf1, xf2, xf3, xf4⟩ := id X0
  obtain ⟨rf0, rf1, rf2, rf3, rf4⟩ := id R0
  go_wp2_with fail
  clear xf0 xf1 xf2 xf3 xf4 rf0 rf1 rf2 rf3 rf4
  refine (up_n t m _ HP.out HD.out).mono ?_
  rintro e w1 ⟨rfl, hb⟩
  have B1 := Lib.hid (((B0.out.up hb).alloc (.cells #[.int .i64 t, .int .i64 m] 23)).alloc (.cells #[.int .i64 (t - 7 * (t / 7)), .int .i64 (m - 12 * (t / 7))] 23))
  have X1 := ((X0.up hb).alloc (.cells #[.int .i64 t, .int .i64 m] 23)).alloc (.cells #[.int .i64 (t - 7 * (t / 7)), .int .i64 (m - 12 * (t / 7))] 23)
  have R1 := ((R0.up hb).alloc (.cells #[.int .i64 t, .int .i64 m] 23)).alloc (.cells #[.int .i64 (t - 7 * (t / 7)), .int .i64 (m - 12 * (t / 7))] 23)
  have U1 := (Duo.new w1 (.int .i64 t) (.int .i64 m) 23 (w1.heap.size) (by simp)).alloc (.cells #[.int .i64 (t - 7 * (t / 7)), .int .i64 (m - 12 * (t / 7))] 23)
  have S1 := Duo.new (w1.alloc (.cells #[.int .i64 t, .int .i64 m] 23)) (.int .i64 (t - 7 * (t / 7))) (.int .i64 (m - 12 * (t / 7))) 23 (w1.heap.size + 1) (by simp)
  clear hb B0  X0 R0
  obtain ⟨xf0, xf1, xf2, xf3, xf4⟩ := id X1
  obtain ⟨rf0, rf1, rf2, rf3, rf4⟩ := id R1
  obtain ⟨uf0, uf1, uf2, uf3, uf4⟩ := id U1
  obtain ⟨sf0, sf1, sf2, sf3, sf4⟩ := id S1
  go_wp2_with fail
  clear xf0 xf1 xf2 xf3 xf4 rf0 rf1 rf2 rf3 rf4 uf0 uf1 uf2 uf3 uf4 sf0 sf1 sf2 sf3 sf4
  refine (rdown_n t m _ HD.out).mono ?_
  rintro e w2 ⟨rfl, hb⟩
  have B2 := Lib.hid (B1.out.up hb)
  have X2 := X1.up hb
  have R2 := R1.up hb
  have U2 := U1.up hb
  have S2 := S1.up hb
  clear hb B1  X1 R1 U1 S1
  obtain ⟨xf0, xf1, xf2, xf3, xf4⟩ := id X2
  obtain ⟨rf0, rf1, rf2, rf3, rf4⟩ := id R2
  obtain ⟨uf0, uf1, uf2, uf3, uf4⟩ := id U2
  obtain ⟨sf0, sf1, sf2, sf3, sf4⟩ := id S2
  go_wp2_with fail
  have Tf := R2.store (u := .int .i64 (t - 7 * (t / 7))) (v := .int .i64 (m - 12 * (t / 7)))
  exact bodyPost_ret (v := .tuple #[.agg #[.int .i64 (t - 7 * (t / 7)), .int .i64 (m - 12 * (t / 7))], .int .i64 (t / 7)]) (by first | (simp [results, Tryd.results34, go_sem, Tf.c0, Tf.c1]; done) | (simp [results, Tryd.results34, go_sem, Tf.c0, Tf.c1]; omega)) rfl ⟨rfl, ((B2.out.set (Nat.le_succ _) _ _).set (Nat.le_succ _) _ _)⟩
set_option maxRecDepth 100000 in
set_option maxHeartbeats 2000000 in
theorem refSimp_y (t m : Int) (w : World) (h : Iv t m) (hd : dwn t m) :
    Calls Tryd.prog 34 #[.agg #[.int .i64 t, .int .i64 m]] w fun e w' => e = .returned (.tuple #[.agg #[.int .i64 (-(-t - 7 * -t.tdiv 7)), .int .i64 (-(-m - 12 * -t.tdiv 7))], .int .i64 (t.tdiv 7)]) ∧ Below w.heap.size w w' := by
  have B0 := Lib.hid (((Bel.refl w).alloc (.cells #[.int .i64 t, .int .i64 m] 23)).alloc (.cells #[.int .i64 0, .int .i64 0] 23))
  have X0 := (Duo.new w (.int .i64 t) (.int .i64 m) 23 (w.heap.size) (by simp)).alloc (.cells #[.int .i64 0, .int .i64 0] 23)
  have R0 := Duo.new (w.alloc (.cells #[.int .i64 t, .int .i64 m] 23)) (.int .i64 0) (.int .i64 0) 23 (w.heap.size + 1) (by simp)
  have HP := Lib.hid h
  have HD := Lib.hid hd
  have t0 : 0 ≤ -t := by unfold dwn at hd; omega
  obtain ⟨k0, -⟩ := tdiv7 h
  have k1 : t.tdiv 7 ≤ 0 := by
    have h3 := Int.tdiv_eq_ediv_of_nonneg (a := -t) (b := 7) (by omega)
    rw [Int.neg_tdiv] at h3; omega
  obtain ⟨t1, -, m0, m1⟩ := h
  go_enter Tryd.func34, Tryd.ntmps34
  obtain ⟨xf0, xf1, xf2, xf3, xf4⟩ := id X0
  obtain ⟨rf0, rf1, rf2, rf3, rf4⟩ := id R0
  go_wp2_with fail
  clear xf0 xf1 xf2 xf3 xf4 rf0 rf1 rf2 rf3 rf4
  refine (up_y t m _ HP.out HD.out).mono ?_
  rintro e w1 ⟨rfl, hb⟩
  have B1 := Lib.hid (((B0.out.up hb).alloc (.cells #[.int .i64 (-t), .int .i64 (-m)] 23)).alloc (.cells #[.int .i64 (-t - 7 * -t.tdiv 7), .int .i64 (-m - 12 * -t.tdiv 7)] 23))
  have X1 := ((X0.up hb).alloc (.cells #[.int .i64 (-t), .int .i64 (-m)] 23)).alloc (.cells #[.int .i64 (-t - 7 * -t.tdiv 7), .int .i64 (-m - 12 * -t.tdiv 7)] 23)
  have R1 := ((R0.up hb).alloc (.cells #[.int .i64 (-t), .int .i64 (-m)] 23)).alloc (.cells #[.int .i64 (-t - 7 * -t.tdiv 7), .int .i64 (-m - 12 * -t.tdiv 7)] 23)
  have U1 := (Duo.new w1 (.int .i64 (-t)) (.int .i64 (-m)) 23 (w1.heap.size) (by simp)).alloc (.cells #[.int .i64 (-t - 7 * -t.tdiv 7), .int .i64 (-m - 12 * -t.tdiv 7)] 23)
  have S1 := Duo.new (w1.alloc (.cells #[.int .i64 (-t), .int .i64 (-m)] 23)) (.int .i64 (-t - 7 * -t.tdiv 7)) (.int .i64 (-m - 12 * -t.tdiv 7)) 23 (w1.heap.size + 1) (by simp)
  clear hb B0  X0 R0
  obtain ⟨xf0, xf1, xf2, xf3, xf4⟩ := id X1
  obtain ⟨rf0, rf1, rf2, rf3, rf4⟩ := id R1
  obtain ⟨uf0, uf1, uf2, uf3, uf4⟩ := id U1
  obtain ⟨sf0, sf1, sf2, sf3, sf4⟩ := id S1
  go_wp2_with fail
  clear xf0 xf1 xf2 xf3 xf4 rf0 rf1 rf2 rf3 rf4 uf0 uf1 uf2 uf3 uf4 sf0 sf1 sf2 sf3 sf4
  refine (rdown_y t m _ HD.out).mono ?_
  rintro e w2 ⟨rfl, hb⟩
  have B2 := Lib.hid (B1.out.up hb)
  have X2 := X1.up hb
  have R2 := R1.up hb
  have U2 := U1.up hb
  have S2 := S1.up hb
  clear hb B1  X1 R1 U1 S1
  obtain ⟨xf0, xf1, xf2, xf3, xf4⟩ := id X2
  obtain ⟨rf0, rf1, rf2, rf3, rf4⟩ := id R2
  obtain ⟨uf0, uf1, uf2, uf3, uf4⟩ := id U2
  obtain ⟨sf0, sf1, sf2, sf3, sf4⟩ := id S2
  go_wp2_with fail
  have Tf := R2.store (u := .int .i64 (-(-t - 7 * -t.tdiv 7))) (v := .int .i64 (-(-m - 12 * -t.tdiv 7)))
  exact bodyPost_ret (v := .tuple #[.agg #[.int .i64 (-(-t - 7 * -t.tdiv 7)), .int .i64 (-(-m - 12 * -t.tdiv 7))], .int .i64 (t.tdiv 7)]) (by first | (simp [results, Tryd.results34, go_sem, Tf.c0, Tf.c1]; done) | (simp [results, Tryd.results34, go_sem, Tf.c0, Tf.c1]; omega)) rfl ⟨rfl, ((B2.out.set (Nat.le_succ _) _ _).set (Nat.le_succ _) _ _)⟩
end Go.Proofs.YtfbogakmhaiddaaDoor
