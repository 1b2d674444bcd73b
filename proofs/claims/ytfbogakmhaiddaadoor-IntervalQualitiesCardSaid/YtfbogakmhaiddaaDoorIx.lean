/- Intervals: Quality, Simple, Invert of the program. -/
import Derived.Test.YtfbogakmhaiddaaDoorIw
import Derived.Test.YtfbogakmhaiddaaDoorIb
import Derived.Deep.RegionWith
namespace Go.Proofs.YtfbogakmhaiddaaDoor
open Go.RowKit
set_option linter.unusedVariables false
set_option linter.unusedSimpArgs false

theorem tdiv7 {t m : Int} (h : Iv t m) : -11 ≤ t.tdiv 7 ∧ t.tdiv 7 ≤ 11 := by
  have h2 := Int.tdiv_eq_ediv (a := t) (b := 7)
  rw [show Int.sign 7 = 1 from rfl] at h2
  have := h.t0; have := h.t1
  split at h2 <;> omega
set_option maxRecDepth 100000 in
set_option maxHeartbeats 2000000 in
theorem quality_n (t m : Int) (w : World) (h : Iv t m) (hd : ¬ dwn t m) (hi : IT w) :
    Calls Tryd.prog 30 #[.agg #[.int .i64 t, .int .i64 m]] w fun e w' => e = .returned (.tuple #[.int .i64 ((qualI t m).1), .int .i64 ((qualI t m).2), .int .i64 0]) ∧ Below w.heap.size w w' := by
  have B0 := Lib.hid ((Bel.refl w).alloc (.cells #[.int .i64 t, .int .i64 m] 23))
  have I0 := Lib.hid (hi.below ((Below.refl _ _).alloc (Nat.le_refl _) (.cells #[.int .i64 t, .int .i64 m] 23)))
  have X0 := Duo.new w (.int .i64 t) (.int .i64 m) 23 (w.heap.size) (by simp)
  have HP := Lib.hid h
  have HD := Lib.hid hd
  have t0 : 0 ≤ t := by unfold dwn at hd; omega
  go_enter Tryd.func30, Tryd.ntmps30
  obtain ⟨xf0, xf1, xf2, xf3, xf4⟩ := id X0
  go_wp2_with fail
  clear xf0 xf1 xf2 xf3 xf4
  refine (checkI_ok t m _ HP.out).mono ?_
  rintro e w1 ⟨rfl, hb⟩
  have B1 := Lib.hid (B0.out.up hb)
  have I1 := Lib.hid (I0.out.below hb)
  have X1 := X0.up hb
  clear hb B0 I0 X0
  obtain ⟨xf0, xf1, xf2, xf3, xf4⟩ := id X1
  go_wp2_with fail
  clear xf0 xf1 xf2 xf3 xf4
  refine (desc_n t m _ HD.out).mono ?_
  rintro e w2 ⟨rfl, hb⟩
  have B2 := Lib.hid (B1.out.up hb)
  have I2 := Lib.hid (I1.out.below hb)
  have X2 := X1.up hb
  clear hb B1 I1 X1
  obtain ⟨xf0, xf1, xf2, xf3, xf4⟩ := id X2
  go_wp2_with fail
  clear xf0 xf1 xf2 xf3 xf4
  refine (qualOf_ok t m _ t0 HP.out.t1 HP.out.m0 HP.out.m1 I2.out).mono ?_
  rintro e w3 ⟨rfl, hb⟩
  have B3 := Lib.hid (B2.out.up hb)
  have I3 := Lib.hid (I2.out.below hb)
  have X3 := X2.up hb
  clear hb B2 I2 X2
  obtain ⟨xf0, xf1, xf2, xf3, xf4⟩ := id X3
  go_wp2_with fail
  exact bodyPost_ret (v := .tuple #[.int .i64 ((qualI t m).1), .int .i64 ((qualI t m).2), .int .i64 0]) (by first | (simp [results, Tryd.results30, go_sem]; done) | (simp [results, Tryd.results30, go_sem]; omega)) rfl ⟨rfl, B3.out.out⟩
set_option maxRecDepth 100000 in
set_option maxHeartbeats 2000000 in
theorem quality_y (t m : Int) (w : World) (h : Iv t m) (hd : dwn t m) (hi : IT w) :
    Calls Tryd.prog 30 #[.agg #[.int .i64 t, .int .i64 m]] w fun e w' => e = .returned (.tuple #[.int .i64 ((qualI (-t) (-m)).1), .int .i64 ((qualI (-t) (-m)).2), .int .i64 0]) ∧ Below w.heap.size w w' := by
  have B0 := Lib.hid ((Bel.refl w).alloc (.cells #[.int .i64 t, .int .i64 m] 23))
  have I0 := Lib.hid (hi.below ((Below.refl _ _).alloc (Nat.le_refl _) (.cells #[.int .i64 t, .int .i64 m] 23)))
  have X0 := Duo.new w (.int .i64 t) (.int .i64 m) 23 (w.heap.size) (by simp)
  have HP := Lib.hid h
  have HD := Lib.hid hd
  have HI := Lib.hid hi
  have t0 : 0 ≤ -t := by unfold dwn at hd; omega
  go_enter Tryd.func30, Tryd.ntmps30
  obtain ⟨xf0, xf1, xf2, xf3, xf4⟩ := id X0
  go_wp2_with fail
  clear xf0 xf1 xf2 xf3 xf4
  refine (checkI_ok t m _ HP.out).mono ?_
  rintro e w1 ⟨rfl, hb⟩
  have B1 := Lib.hid (B0.out.up hb)
  have I1 := Lib.hid (I0.out.below hb)
  have X1 := X0.up hb
  clear hb B0 I0 X0
  obtain ⟨xf0, xf1, xf2, xf3, xf4⟩ := id X1
  go_wp2_with fail
  clear xf0 xf1 xf2 xf3 xf4
  refine (desc_y t m _ HD.out).mono ?_
  rintro e w2 ⟨rfl, hb⟩
  have B2 := Lib.hid (B1.out.up hb)
  have I2 := Lib.hid (I1.out.below hb)
  have X2 := X1.up hb
  clear hb B1 I1 X1
  obtain ⟨xf0, xf1, xf2, xf3, xf4⟩ := id X2
  go_wp2_with fail
  clear xf0 xf1 xf2 xf3 xf4
  refine (opp_ok t m _ HP.out).mono ?_
  rintro e w3 ⟨rfl, hb⟩
  have B3 := Lib.hid (B2.out.up hb)
  have I3 := Lib.hid (I2.out.below hb)
  have X3 := X2.up hb
  clear hb B2 I2 X2
  obtain ⟨xf0, xf1, xf2, xf3, xf4⟩ := id X3
  have B4 := (B3.out.set (Nat.le_refl _) 0 (.int .i64 (-t))).set (Nat.le_refl _) 1 (.int .i64 (-m))
  have Xf := X3.store (u := .int .i64 (-t)) (v := .int .i64 (-m))
  obtain ⟨y0, y1, y2, y3, y4⟩ := id Xf
  go_wp2_with fail
  refine (qualOf_ok (-t) (-m) _ t0 (by have := HP.out.t0; omega) (by have := HP.out.m1; omega) (by have := HP.out.m0; omega) (HI.out.below B4.out)).mono ?_
  rintro e w4 ⟨rfl, hb⟩
  have B5 := Lib.hid (B4.up hb)
  go_wp2_with fail
  exact bodyPost_ret (v := .tuple #[.int .i64 ((qualI (-t) (-m)).1), .int .i64 ((qualI (-t) (-m)).2), .int .i64 0]) (by first | (simp [results, Tryd.results30, go_sem]; done) | (simp [results, Tryd.results30, go_sem]; omega)) rfl ⟨rfl, B5.out.out⟩
set_option maxRecDepth 100000 in
set_option maxHeartbeats 2000000 in
theorem quality_b (t m : Int) (w : World) (h : ¬ Iv t m) :
    Calls Tryd.prog 30 #[.agg #[.int .i64 t, .int .i64 m]] w fun e w' => e = .returned (.tuple #[.int .i64 (0), .int .i64 (0), .int .i64 2]) ∧ Below w.heap.size w w' := by
  have B0 := Lib.hid ((Bel.refl w).alloc (.cells #[.int .i64 t, .int .i64 m] 23))
  have X0 := Duo.new w (.int .i64 t) (.int .i64 m) 23 (w.heap.size) (by simp)
  have HP := Lib.hid h
  go_enter Tryd.func30, Tryd.ntmps30
  obtain ⟨xf0, xf1, xf2, xf3, xf4⟩ := id X0
  go_wp2_with fail
  clear xf0 xf1 xf2 xf3 xf4
  refine (checkI_bad t m _ HP.out).mono ?_
  rintro e w1 ⟨rfl, hb⟩
  have B1 := Lib.hid (B0.out.up hb)
  have X1 := X0.up hb
  clear hb B0  X0
  obtain ⟨xf0, xf1, xf2, xf3, xf4⟩ := id X1
  go_wp2_with fail
  exact bodyPost_ret (v := .tuple #[.int .i64 (0), .int .i64 (0), .int .i64 2]) (by first | (simp [results, Tryd.results30, go_sem]; done) | (simp [results, Tryd.results30, go_sem]; omega)) rfl ⟨rfl, B1.out.out⟩
set_option maxRecDepth 100000 in
set_option maxHeartbeats 2000000 in
theorem simpleI_b (t m : Int) (w : World) (h : ¬ Iv t m) :
    Calls Tryd.prog 31 #[.agg #[.int .i64 t, .int .i64 m]] w fun e w' => e = .returned (.tuple #[.agg #[.int .i64 0, .int .i64 0], .int .i64 (0), .int .i64 2]) ∧ Below w.heap.size w w' := by
  have B0 := Lib.hid (((Bel.refl w).alloc (.cells #[.int .i64 t, .int .i64 m] 23)).alloc (.cells #[.int .i64 0, .int .i64 0] 23))
  have X0 := (Duo.new w (.int .i64 t) (.int .i64 m) 23 (w.heap.size) (by simp)).alloc (.cells #[.int .i64 0, .int .i64 0] 23)
  have R0 := Duo.new (w.alloc (.cells #[.int .i64 t, .int .i64 m] 23)) (.int .i64 0) (.int .i64 0) 23 (w.heap.size + 1) (by simp)
  have HP := Lib.hid h
  go_enter Tryd.func31, Tryd.ntmps31
  obtain ⟨xf0, xf1, xf2, xf3, xf4⟩ := id X0
  obtain ⟨rf0, rf1, rf2, rf3, rf4⟩ := id R0
  go_wp2_with fail
  clear xf0 xf1 xf2 xf3 xf4 rf0 rf1 rf2 rf3 rf4
  refine (checkI_bad t m _ HP.out).mono ?_
  rintro e w1 ⟨rfl, hb⟩
  have B1 := Lib.hid (B0.out.up hb)
  have X1 := X0.up hb
  have R1 := R0.up hb
  clear hb B0  X0 R0
  obtain ⟨xf0, xf1, xf2, xf3, xf4⟩ := id X1
  obtain ⟨rf0, rf1, rf2, rf3, rf4⟩ := id R1
  go_wp2_with fail
  have Tf := R1.store (u := .int .i64 0) (v := .int .i64 0)
  exact bodyPost_ret (v := .tuple #[.agg #[.int .i64 0, .int .i64 0], .int .i64 (0), .int .i64 2]) (by first | (simp [results, Tryd.results31, go_sem, Tf.c0, Tf.c1]; done) | (simp [results, Tryd.results31, go_sem, Tf.c0, Tf.c1]; omega)) rfl ⟨rfl, ((B1.out.set (Nat.le_succ _) _ _).set (Nat.le_succ _) _ _)⟩
set_option maxRecDepth 100000 in
set_option maxHeartbeats 2000000 in
theorem simpleI_ok (t m : Int) (w : World) (h : Iv t m) :
    Calls Tryd.prog 31 #[.agg #[.int .i64 t, .int .i64 m]] w fun e w' => e = .returned (.tuple #[.agg #[.int .i64 (t - t.tdiv 7 * 7), .int .i64 (m - t.tdiv 7 * 12)], .int .i64 (t.tdiv 7), .int .i64 0]) ∧ Below w.heap.size w w' := by
  have B0 := Lib.hid (((Bel.refl w).alloc (.cells #[.int .i64 t, .int .i64 m] 23)).alloc (.cells #[.int .i64 0, .int .i64 0] 23))
  have X0 := (Duo.new w (.int .i64 t) (.int .i64 m) 23 (w.heap.size) (by simp)).alloc (.cells #[.int .i64 0, .int .i64 0] 23)
  have R0 := Duo.new (w.alloc (.cells #[.int .i64 t, .int .i64 m] 23)) (.int .i64 0) (.int .i64 0) 23 (w.heap.size + 1) (by simp)
  have HP := Lib.hid h
  obtain ⟨k0, k1⟩ := tdiv7 h
  have KP := fun v' => plus_oct t m (-(t.tdiv 7)) v' HP.out (by omega) (by omega)
  rw [show t + -(t.tdiv 7) * 7 = t - t.tdiv 7 * 7 by omega, show m + -(t.tdiv 7) * 12 = m - t.tdiv 7 * 12 by omega] at KP
  replace KP := Lib.hid KP
  go_enter Tryd.func31, Tryd.ntmps31
  obtain ⟨xf0, xf1, xf2, xf3, xf4⟩ := id X0
  obtain ⟨rf0, rf1, rf2, rf3, rf4⟩ := id R0
  go_wp2_with fail
  clear xf0 xf1 xf2 xf3 xf4 rf0 rf1 rf2 rf3 rf4
  refine (checkI_ok t m _ HP.out).mono ?_
  rintro e w1 ⟨rfl, hb⟩
  have B1 := Lib.hid (B0.out.up hb)
  have X1 := X0.up hb
  have R1 := R0.up hb
  clear hb B0  X0 R0
  obtain ⟨xf0, xf1, xf2, xf3, xf4⟩ := id X1
  obtain ⟨rf0, rf1, rf2, rf3, rf4⟩ := id R1
  go_wp2_with fail
  have Bd := Lib.hid (Below.drew B1.out.out)
  have Rd := Lib.hid (R1.up (Below.drew (Below.refl _ _)))
  have Xd := Lib.hid (X1.up (Below.drew (Below.refl _ _)))
  have hw : IntKind.i64.wrap (-(t.tdiv 7)) = -(t.tdiv 7) := (IntWalk.i64_left _).trans (IntWalk.wrap64_in _ ⟨by omega, by omega⟩)
  go_region_with (first
    | (go_at_call 54; refine (octave_ok _).mono ?_; rintro e w2 ⟨rfl, hb⟩; have B2 := Lib.hid (Bel.up (w := w) Bd.out hb); have R2 := Lib.hid (Rd.out.up hb); have X2 := Xd.out.up hb; obtain ⟨y0, y1, y2, y3, y4⟩ := id X2; clear hb)
    | (go_at_call 36; refine (KP.out _).mono ?_; rintro e w3 ⟨rfl, hb⟩; have B3 := Lib.hid (Bel.up B2.out hb); have R3 := R2.out.up hb; clear hb; obtain ⟨z0, z1, z2, z3, z4⟩ := id R3))
  all_goals
    go_wp2_with fail
    have Tf := R3.store (u := .int .i64 (t - t.tdiv 7 * 7)) (v := .int .i64 (m - t.tdiv 7 * 12))
    exact bodyPost_ret (v := .tuple #[.agg #[.int .i64 (t - t.tdiv 7 * 7), .int .i64 (m - t.tdiv 7 * 12)], .int .i64 (t.tdiv 7), .int .i64 0]) (by first | (simp [results, Tryd.results31, go_sem, Tf.c0, Tf.c1]; done) | (simp [results, Tryd.results31, go_sem, Tf.c0, Tf.c1]; omega)) rfl ⟨rfl, (B3.out.set (Nat.le_succ _) _ _).set (Nat.le_succ _) _ _⟩
set_option maxRecDepth 100000 in
set_option maxHeartbeats 2000000 in
theorem inv_b1 (t m : Int) (w : World) (h : ¬ Iv t m) :
    Calls Tryd.prog 32 #[.agg #[.int .i64 t, .int .i64 m]] w fun e w' => e = .returned (.tuple #[.agg #[.int .i64 0, .int .i64 0], .int .i64 2]) ∧ Below w.heap.size w w' := by
  have B0 := Lib.hid (((Bel.refl w).alloc (.cells #[.int .i64 t, .int .i64 m] 23)).alloc (.cells #[.int .i64 0, .int .i64 0] 23))
  have X0 := (Duo.new w (.int .i64 t) (.int .i64 m) 23 (w.heap.size) (by simp)).alloc (.cells #[.int .i64 0, .int .i64 0] 23)
  have R0 := Duo.new (w.alloc (.cells #[.int .i64 t, .int .i64 m] 23)) (.int .i64 0) (.int .i64 0) 23 (w.heap.size + 1) (by simp)
  have HP := Lib.hid h
  go_enter Tryd.func32, Tryd.ntmps32
  obtain ⟨xf0, xf1, xf2, xf3, xf4⟩ := id X0
  obtain ⟨rf0, rf1, rf2, rf3, rf4⟩ := id R0
  go_wp2_with fail
  clear xf0 xf1 xf2 xf3 xf4 rf0 rf1 rf2 rf3 rf4
  refine (checkI_bad t m _ HP.out).mono ?_
  rintro e w1 ⟨rfl, hb⟩
  have B1 := Lib.hid (B0.out.up hb)
  have X1 := X0.up hb
  have R1 := R0.up hb
  clear hb B0  X0 R0
  obtain ⟨xf0, xf1, xf2, xf3, xf4⟩ := id X1
  obtain ⟨rf0, rf1, rf2, rf3, rf4⟩ := id R1
  go_wp2_with fail
  have Tf := R1.store (u := .int .i64 0) (v := .int .i64 0)
  exact bodyPost_ret (v := .tuple #[.agg #[.int .i64 0, .int .i64 0], .int .i64 2]) (by first | (simp [results, Tryd.results32, go_sem, Tf.c0, Tf.c1]; done) | (simp [results, Tryd.results32, go_sem, Tf.c0, Tf.c1]; omega)) rfl ⟨rfl, ((B1.out.set (Nat.le_succ _) _ _).set (Nat.le_succ _) _ _)⟩
set_option maxRecDepth 100000 in
set_option maxHeartbeats 2000000 in
theorem inv_b2 (t m : Int) (w : World) (h : Iv t m) (k : t < 0) :
    Calls Tryd.prog 32 #[.agg #[.int .i64 t, .int .i64 m]] w fun e w' => e = .returned (.tuple #[.agg #[.int .i64 0, .int .i64 0], .int .i64 2]) ∧ Below w.heap.size w w' := by
  have B0 := Lib.hid (((Bel.refl w).alloc (.cells #[.int .i64 t, .int .i64 m] 23)).alloc (.cells #[.int .i64 0, .int .i64 0] 23))
  have X0 := (Duo.new w (.int .i64 t) (.int .i64 m) 23 (w.heap.size) (by simp)).alloc (.cells #[.int .i64 0, .int .i64 0] 23)
  have R0 := Duo.new (w.alloc (.cells #[.int .i64 t, .int .i64 m] 23)) (.int .i64 0) (.int .i64 0) 23 (w.heap.size + 1) (by simp)
  have HP := Lib.hid h
  go_enter Tryd.func32, Tryd.ntmps32
  obtain ⟨xf0, xf1, xf2, xf3, xf4⟩ := id X0
  obtain ⟨rf0, rf1, rf2, rf3, rf4⟩ := id R0
  go_wp2_with fail
  clear xf0 xf1 xf2 xf3 xf4 rf0 rf1 rf2 rf3 rf4
  refine (checkI_ok t m _ HP.out).mono ?_
  rintro e w1 ⟨rfl, hb⟩
  have B1 := Lib.hid (B0.out.up hb)
  have X1 := X0.up hb
  have R1 := R0.up hb
  clear hb B0  X0 R0
  obtain ⟨xf0, xf1, xf2, xf3, xf4⟩ := id X1
  obtain ⟨rf0, rf1, rf2, rf3, rf4⟩ := id R1
  go_wp2_with fail
  have Tf := R1.store (u := .int .i64 0) (v := .int .i64 0)
  exact bodyPost_ret (v := .tuple #[.agg #[.int .i64 0, .int .i64 0], .int .i64 2]) (by first | (simp [results, Tryd.results32, go_sem, Tf.c0, Tf.c1]; done) | (simp [results, Tryd.results32, go_sem, Tf.c0, Tf.c1]; omega)) rfl ⟨rfl, ((B1.out.set (Nat.le_succ _) _ _).set (Nat.le_succ _) _ _)⟩
set_option maxRecDepth 100000 in
set_option maxHeartbeats 2000000 in
theorem inv_b3 (t m : Int) (w : World) (h : Iv t m) (k : 7 < t) :
    Calls Tryd.prog 32 #[.agg #[.int .i64 t, .int .i64 m]] w fun e w' => e = .returned (.tuple #[.agg #[.int .i64 0, .int .i64 0], .int .i64 2]) ∧ Below w.heap.size w w' := by
  have B0 := Lib.hid (((Bel.refl w).alloc (.cells #[.int .i64 t, .int .i64 m] 23)).alloc (.cells #[.int .i64 0, .int .i64 0] 23))
  have X0 := (Duo.new w (.int .i64 t) (.int .i64 m) 23 (w.heap.size) (by simp)).alloc (.cells #[.int .i64 0, .int .i64 0] 23)
  have R0 := Duo.new (w.alloc (.cells #[.int .i64 t, .int .i64 m] 23)) (.int .i64 0) (.int .i64 0) 23 (w.heap.size + 1) (by simp)
  have HP := Lib.hid h
  go_enter Tryd.func32, Tryd.ntmps32
  obtain ⟨xf0, xf1, xf2, xf3, xf4⟩ := id X0
  obtain ⟨rf0, rf1, rf2, rf3, rf4⟩ := id R0
  go_wp2_with fail
  clear xf0 xf1 xf2 xf3 xf4 rf0 rf1 rf2 rf3 rf4
  refine (checkI_ok t m _ HP.out).mono ?_
  rintro e w1 ⟨rfl, hb⟩
  have B1 := Lib.hid (B0.out.up hb)
  have X1 := X0.up hb
  have R1 := R0.up hb
  clear hb B0  X0 R0
  obtain ⟨xf0, xf1, xf2, xf3, xf4⟩ := id X1
  obtain ⟨rf0, rf1, rf2, rf3, rf4⟩ := id R1
  go_wp2_with fail
  have Tf := R1.store (u := .int .i64 0) (v := .int .i64 0)
  exact bodyPost_ret (v := .tuple #[.agg #[.int .i64 0, .int .i64 0], .int .i64 2]) (by first | (simp [results, Tryd.results32, go_sem, Tf.c0, Tf.c1]; done) | (simp [results, Tryd.results32, go_sem, Tf.c0, Tf.c1]; omega)) rfl ⟨rfl, ((B1.out.set (Nat.le_succ _) _ _).set (Nat.le_succ _) _ _)⟩
set_option maxRecDepth 100000 in
set_option maxHeartbeats 2000000 in
theorem inv_b4 (t m : Int) (w : World) (h : Iv t m) (k0 : 0 ≤ t) (k1 : t ≤ 7) (l : ¬ Iv (7 - t) (12 - m)) :
    Calls Tryd.prog 32 #[.agg #[.int .i64 t, .int .i64 m]] w fun e w' => e = .returned (.tuple #[.agg #[.int .i64 0, .int .i64 0], .int .i64 2]) ∧ Below w.heap.size w w' := by
  have B0 := Lib.hid (((Bel.refl w).alloc (.cells #[.int .i64 t, .int .i64 m] 23)).alloc (.cells #[.int .i64 0, .int .i64 0] 23))
  have X0 := (Duo.new w (.int .i64 t) (.int .i64 m) 23 (w.heap.size) (by simp)).alloc (.cells #[.int .i64 0, .int .i64 0] 23)
  have R0 := Duo.new (w.alloc (.cells #[.int .i64 t, .int .i64 m] 23)) (.int .i64 0) (.int .i64 0) 23 (w.heap.size + 1) (by simp)
  have HP := Lib.hid h
  have HL := Lib.hid l
  go_enter Tryd.func32, Tryd.ntmps32
  obtain ⟨xf0, xf1, xf2, xf3, xf4⟩ := id X0
  obtain ⟨rf0, rf1, rf2, rf3, rf4⟩ := id R0
  go_wp2_with fail
  clear xf0 xf1 xf2 xf3 xf4 rf0 rf1 rf2 rf3 rf4
  refine (checkI_ok t m _ HP.out).mono ?_
  rintro e w1 ⟨rfl, hb⟩
  have B1 := Lib.hid (B0.out.up hb)
  have X1 := X0.up hb
  have R1 := R0.up hb
  clear hb B0  X0 R0
  obtain ⟨xf0, xf1, xf2, xf3, xf4⟩ := id X1
  obtain ⟨rf0, rf1, rf2, rf3, rf4⟩ := id R1
  go_wp2_with fail
  clear xf0 xf1 xf2 xf3 xf4 rf0 rf1 rf2 rf3 rf4
  refine Qt.region 6 (by kernel_rfl) (by kernel_rfl) ?_
  intro T f F hne
  have RB := Lib.hid (fun g => B1.out.up (F.below g))
  have RX := fun g => X1.up (F.below g)
  have RX0 := fun g => (RX g).c0
  have RX1 := fun g => (RX g).c1
  have RR := fun g => R1.up (F.below g)
  have RR0 := fun g => (RR g).c0
  have RR1 := fun g => (RR g).c1
  simp only [List.take_succ_cons, List.take_zero, List.drop_succ_cons, List.drop_zero]
  repeat (go_big_quiet_step (first | (go_at_call 54; with_reducible exact F.call (octave_ok _)) | (go_at_call 36; with_reducible exact F.call (plus_sub 7 12 t m _ ⟨by omega, by omega, by omega, by omega⟩ HP.out)) | (go_at_call 35; with_reducible exact F.call (checked_bad (7 - t) (12 - m) _ HL.out))))
  refine wpQuiet_nil ?_
  rintro _ ⟨g, rfl⟩
  have B2 := Lib.hid (RB.out g)
  have X2 := RX g
  have R2 := RR g
  clear F RB hne RX RX0 RX1 RR RR0 RR1 B1 X1 R1
  generalize f g = w2 at *
  clear f
  obtain ⟨xf0, xf1, xf2, xf3, xf4⟩ := id X2
  obtain ⟨rf0, rf1, rf2, rf3, rf4⟩ := id R2
  go_wp2_with fail
  have Tf := R2.store (u := .int .i64 0) (v := .int .i64 0)
  exact bodyPost_ret (v := .tuple #[.agg #[.int .i64 0, .int .i64 0], .int .i64 2]) (by first | (simp [results, Tryd.results32, go_sem, Tf.c0, Tf.c1]; done) | (simp [results, Tryd.results32, go_sem, Tf.c0, Tf.c1]; omega)) rfl ⟨rfl, ((B2.out.set (Nat.le_succ _) _ _).set (Nat.le_succ _) _ _)⟩
set_option maxRecDepth 100000 in
set_option maxHeartbeats 2000000 in
theorem inv_ok (t m : Int) (w : World) (h : Iv t m) (k0 : 0 ≤ t) (k1 : t ≤ 7) (l : Iv (7 - t) (12 - m)) :
    Calls Tryd.prog 32 #[.agg #[.int .i64 t, .int .i64 m]] w fun e w' => e = .returned (.tuple #[.agg #[.int .i64 (7 - t), .int .i64 (12 - m)], .int .i64 0]) ∧ Below w.heap.size w w' := by
  have B0 := Lib.hid (((Bel.refl w).alloc (.cells #[.int .i64 t, .int .i64 m] 23)).alloc (.cells #[.int .i64 0, .int .i64 0] 23))
  have X0 := (Duo.new w (.int .i64 t) (.int .i64 m) 23 (w.heap.size) (by simp)).alloc (.cells #[.int .i64 0, .int .i64 0] 23)
  have R0 := Duo.new (w.alloc (.cells #[.int .i64 t, .int .i64 m] 23)) (.int .i64 0) (.int .i64 0) 23 (w.heap.size + 1) (by simp)
  have HP := Lib.hid h
  have HL := Lib.hid l
  go_enter Tryd.func32, Tryd.ntmps32
  obtain ⟨xf0, xf1, xf2, xf3, xf4⟩ := id X0
  obtain ⟨rf0, rf1, rf2, rf3, rf4⟩ := id R0
  go_wp2_with fail
  clear xf0 xf1 xf2 xf3 xf4 rf0 rf1 rf2 rf3 rf4
  refine (checkI_ok t m _ HP.out).mono ?_
  rintro e w1 ⟨rfl, hb⟩
  have B1 := Lib.hid (B0.out.up hb)
  have X1 := X0.up hb
  have R1 := R0.up hb
  clear hb B0  X0 R0
  obtain ⟨xf0, xf1, xf2, xf3, xf4⟩ := id X1
  obtain ⟨rf0, rf1, rf2, rf3, rf4⟩ := id R1
  go_wp2_with fail
  clear xf0 xf1 xf2 xf3 xf4 rf0 rf1 rf2 rf3 rf4
  refine Qt.region 6 (by kernel_rfl) (by kernel_rfl) ?_
  intro T f F hne
  have RB := Lib.hid (fun g => B1.out.up (F.below g))
  have RX := fun g => X1.up (F.below g)
  have RX0 := fun g => (RX g).c0
  have RX1 := fun g => (RX g).c1
  have RR := fun g => R1.up (F.below g)
  have RR0 := fun g => (RR g).c0
  have RR1 := fun g => (RR g).c1
  simp only [List.take_succ_cons, List.take_zero, List.drop_succ_cons, List.drop_zero]
  repeat (go_big_quiet_step (first | (go_at_call 54; with_reducible exact F.call (octave_ok _)) | (go_at_call 36; with_reducible exact F.call (plus_sub 7 12 t m _ ⟨by omega, by omega, by omega, by omega⟩ HP.out)) | (go_at_call 35; with_reducible exact F.call (checked_ok (7 - t) (12 - m) _ HL.out))))
  refine wpQuiet_nil ?_
  rintro _ ⟨g, rfl⟩
  have B2 := Lib.hid (RB.out g)
  have X2 := RX g
  have R2 := RR g
  clear F RB hne RX RX0 RX1 RR RR0 RR1 B1 X1 R1
  generalize f g = w2 at *
  clear f
  obtain ⟨xf0, xf1, xf2, xf3, xf4⟩ := id X2
  obtain ⟨rf0, rf1, rf2, rf3, rf4⟩ := id R2
  go_wp2_with fail
  have Tf := R2.store (u := .int .i64 (7 - t)) (v := .int .i64 (12 - m))
  exact bodyPost_ret (v := .tuple #[.agg #[.int .i64 (7 - t), .int .i64 (12 - m)], .int .i64 0]) (by first | (simp [results, Tryd.results32, go_sem, Tf.c0, Tf.c1]; done) | (simp [results, Tryd.results32, go_sem, Tf.c0, Tf.c1]; omega)) rfl ⟨rfl, ((B2.out.set (Nat.le_succ _) _ _).set (Nat.le_succ _) _ _)⟩
end Go.Proofs.YtfbogakmhaiddaaDoor
