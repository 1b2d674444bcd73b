/- Clefs: At, the reference's Position. -/
import Derived.Test.YtmdnlnjapkcanaaDoorCe
import Derived.Deep.RegionWith
import Derived.Deep.CutBlock
import Derived.Deep.CutRange
import Derived.Deep.DeepCutAuto
namespace Go.Proofs.YtmdnlnjapkcanaaDoor
open Go.RowKit
set_option linter.unusedVariables false
set_option linter.unusedSimpArgs false

set_option maxRecDepth 100000 in
set_option maxHeartbeats 2000000 in
theorem at_b1 (c p : Int) (w : World) (h : ¬ Cl c) (hc : CW w) :
    Calls Tryd.prog 18 #[.int .i64 c, .int .i64 p] w fun e w' => e = .returned (.tuple #[.agg #[.int .i64 0, .int .i64 0, .int .i64 0], .int .i64 11]) ∧ Below w.heap.size w w' := by
  have HP := Lib.hid h
  have B0 := Lib.hid ((Bel.refl w).alloc (.cells #[.int .i64 0, .int .i64 0, .int .i64 0] 23))
  have C0 := Lib.hid (hc.below ((Below.refl _ _).alloc (Nat.le_refl _) (.cells #[.int .i64 0, .int .i64 0, .int .i64 0] 23)))
  have R0 := Tri.new w (.int .i64 0) (.int .i64 0) (.int .i64 0) 23 (w.heap.size) (by simp)
  go_enter Tryd.func18, Tryd.ntmps18
  obtain ⟨rf0, rf1, rf2, rf3, rf4, rf5, rf6⟩ := id R0
  go_wp2_with fail
  clear rf0 rf1 rf2 rf3 rf4 rf5 rf6
  refine (checkC_bad c _ HP.out).mono ?_
  rintro e w1 ⟨rfl, hb⟩
  have B1 := Lib.hid (B0.out.up hb)
  have C1 := Lib.hid (C0.out.below hb)
  have R1 := R0.up hb
  clear hb B0 C0 R0
  obtain ⟨rf0, rf1, rf2, rf3, rf4, rf5, rf6⟩ := id R1
  go_wp2_with fail
  have Tf := R1.store (u := .int .i64 0) (v := .int .i64 0) (t := .int .i64 0)
  exact bodyPost_ret (v := .tuple #[.agg #[.int .i64 0, .int .i64 0, .int .i64 0], .int .i64 11]) (by first | (simp [results, Tryd.results18, go_sem, Tf.c0, Tf.c1, Tf.c2]; done) | (simp [results, Tryd.results18, go_sem, Tf.c0, Tf.c1, Tf.c2]; omega)) rfl ⟨rfl, (((B1.out.set (Nat.le_refl _) _ _).set (Nat.le_refl _) _ _).set (Nat.le_refl _) _ _)⟩
set_option maxRecDepth 100000 in
set_option maxHeartbeats 2000000 in
theorem at_b2 (c p : Int) (w : World) (h : Cl c) (k : p < -200 ∨ 200 < p) (hc : CW w) :
    Calls Tryd.prog 18 #[.int .i64 c, .int .i64 p] w fun e w' => e = .returned (.tuple #[.agg #[.int .i64 0, .int .i64 0, .int .i64 0], .int .i64 2]) ∧ Below w.heap.size w w' := by
  have HP := Lib.hid h
  have HQ := Lib.hid k
  have B0 := Lib.hid ((Bel.refl w).alloc (.cells #[.int .i64 0, .int .i64 0, .int .i64 0] 23))
  have C0 := Lib.hid (hc.below ((Below.refl _ _).alloc (Nat.le_refl _) (.cells #[.int .i64 0, .int .i64 0, .int .i64 0] 23)))
  have R0 := Tri.new w (.int .i64 0) (.int .i64 0) (.int .i64 0) 23 (w.heap.size) (by simp)
  go_enter Tryd.func18, Tryd.ntmps18
  obtain ⟨rf0, rf1, rf2, rf3, rf4, rf5, rf6⟩ := id R0
  go_wp2_with fail
  clear rf0 rf1 rf2 rf3 rf4 rf5 rf6
  refine (checkC_ok c _ HP.out).mono ?_
  rintro e w1 ⟨rfl, hb⟩
  have B1 := Lib.hid (B0.out.up hb)
  have C1 := Lib.hid (C0.out.below hb)
  have R1 := R0.up hb
  clear hb B0 C0 R0
  obtain ⟨rf0, rf1, rf2, rf3, rf4, rf5, rf6⟩ := id R1
  go_wp2_with fail
  clear rf0 rf1 rf2 rf3 rf4 rf5 rf6
  refine (near_bad p _ HQ.out).mono ?_
  rintro e w2 ⟨rfl, hb⟩
  have B2 := Lib.hid (B1.out.up hb)
  have C2 := Lib.hid (C1.out.below hb)
  have R2 := R1.up hb
  clear hb B1 C1 R1
  obtain ⟨rf0, rf1, rf2, rf3, rf4, rf5, rf6⟩ := id R2
  go_wp2_with fail
  have Tf := R2.store (u := .int .i64 0) (v := .int .i64 0) (t := .int .i64 0)
  exact bodyPost_ret (v := .tuple #[.agg #[.int .i64 0, .int .i64 0, .int .i64 0], .int .i64 2]) (by first | (simp [results, Tryd.results18, go_sem, Tf.c0, Tf.c1, Tf.c2]; done) | (simp [results, Tryd.results18, go_sem, Tf.c0, Tf.c1, Tf.c2]; omega)) rfl ⟨rfl, (((B2.out.set (Nat.le_refl _) _ _).set (Nat.le_refl _) _ _).set (Nat.le_refl _) _ _)⟩
set_option maxRecDepth 100000 in
set_option maxHeartbeats 2000000 in
theorem at_ok (c p : Int) (w : World) (h : Cl c) (k0 : -200 ≤ p) (k1 : p ≤ 200) (hp : Pit ((p + midI c) % 7) 0 ((p + midI c) / 7)) (hc : CW w) :
    Calls Tryd.prog 18 #[.int .i64 c, .int .i64 p] w fun e w' => e = .returned (.tuple #[.agg #[.int .i64 ((p + midI c) % 7), .int .i64 0, .int .i64 ((p + midI c) / 7)], .int .i64 0]) ∧ Below w.heap.size w w' := by
  have HP := Lib.hid h
  have HQ := Lib.hid hp
  obtain ⟨c0, c1⟩ := id h
  obtain ⟨m0, m1⟩ := mid_bd c
  have B0 := Lib.hid ((Bel.refl w).alloc (.cells #[.int .i64 0, .int .i64 0, .int .i64 0] 23))
  have C0 := Lib.hid (hc.below ((Below.refl _ _).alloc (Nat.le_refl _) (.cells #[.int .i64 0, .int .i64 0, .int .i64 0] 23)))
  have R0 := Tri.new w (.int .i64 0) (.int .i64 0) (.int .i64 0) 23 (w.heap.size) (by simp)
  go_enter Tryd.func18, Tryd.ntmps18
  obtain ⟨rf0, rf1, rf2, rf3, rf4, rf5, rf6⟩ := id R0
  go_wp2_with fail
  clear rf0 rf1 rf2 rf3 rf4 rf5 rf6
  refine (checkC_ok c _ HP.out).mono ?_
  rintro e w1 ⟨rfl, hb⟩
  have B1 := Lib.hid (B0.out.up hb)
  have C1 := Lib.hid (C0.out.below hb)
  have R1 := R0.up hb
  clear hb B0 C0 R0
  obtain ⟨rf0, rf1, rf2, rf3, rf4, rf5, rf6⟩ := id R1
  go_wp2_with fail
  clear rf0 rf1 rf2 rf3 rf4 rf5 rf6
  refine (near_ok p _ k0 k1).mono ?_
  rintro e w2 ⟨rfl, hb⟩
  have B2 := Lib.hid (B1.out.up hb)
  have C2 := Lib.hid (C1.out.below hb)
  have R2 := R1.up hb
  clear hb B1 C1 R1
  obtain ⟨rf0, rf1, rf2, rf3, rf4, rf5, rf6⟩ := id R2
  have q4 := (C2.out.c.row HP.out).r4
  go_wp2_with fail
  try (go_quiet (fail); go_wp2_with fail)
  clear rf0 rf1 rf2 rf3 rf4 rf5 rf6
  refine (of_ok (p + midI c) 0 _ (by omega) (by omega) HQ.out C2.out.t).mono ?_
  rintro e w3 ⟨rfl, hb⟩
  have B3 := Lib.hid ((B2.out.up hb).alloc (.cells #[.int .i64 ((p + midI c) % 7), .int .i64 0, .int .i64 ((p + midI c) / 7)] 23))
  have C3 := Lib.hid ((C2.out.below hb).below ((Below.refl _ _).alloc (Nat.le_refl _) (.cells #[.int .i64 ((p + midI c) % 7), .int .i64 0, .int .i64 ((p + midI c) / 7)] 23)))
  have R3 := (R2.up hb).alloc (.cells #[.int .i64 ((p + midI c) % 7), .int .i64 0, .int .i64 ((p + midI c) / 7)] 23)
  have P3 := Tri.new w3 (.int .i64 ((p + midI c) % 7)) (.int .i64 0) (.int .i64 ((p + midI c) / 7)) 23 (w3.heap.size) (by simp)
  clear hb B2 C2 R2
  obtain ⟨rf0, rf1, rf2, rf3, rf4, rf5, rf6⟩ := id R3
  obtain ⟨pf0, pf1, pf2, pf3, pf4, pf5, pf6⟩ := id P3
  go_wp2_with fail
  have Tf := R3.store (u := .int .i64 ((p + midI c) % 7)) (v := .int .i64 0) (t := .int .i64 ((p + midI c) / 7))
  exact bodyPost_ret (v := .tuple #[.agg #[.int .i64 ((p + midI c) % 7), .int .i64 0, .int .i64 ((p + midI c) / 7)], .int .i64 0]) (by first | (simp [results, Tryd.results18, go_sem, Tf.c0, Tf.c1, Tf.c2]; done) | (simp [results, Tryd.results18, go_sem, Tf.c0, Tf.c1, Tf.c2]; omega)) rfl ⟨rfl, (((B3.out.set (Nat.le_refl _) _ _).set (Nat.le_refl _) _ _).set (Nat.le_refl _) _ _)⟩
set_option maxRecDepth 100000 in
set_option maxHeartbeats 2000000 in
theorem at_b3 (c p : Int) (w : World) (h : Cl c) (k0 : -200 ≤ p) (k1 : p ≤ 200) (hp : ¬ Pit ((p + midI c) % 7) 0 ((p + midI c) / 7)) (hc : CW w) :
    Calls Tryd.prog 18 #[.int .i64 c, .int .i64 p] w fun e w' => e = .returned (.tuple #[.agg #[.int .i64 0, .int .i64 0, .int .i64 0], .int .i64 2]) ∧ Below w.heap.size w w' := by
  have HP := Lib.hid h
  have HQ := Lib.hid hp
  obtain ⟨c0, c1⟩ := id h
  obtain ⟨m0, m1⟩ := mid_bd c
  have B0 := Lib.hid ((Bel.refl w).alloc (.cells #[.int .i64 0, .int .i64 0, .int .i64 0] 23))
  have C0 := Lib.hid (hc.below ((Below.refl _ _).alloc (Nat.le_refl _) (.cells #[.int .i64 0, .int .i64 0, .int .i64 0] 23)))
  have R0 := Tri.new w (.int .i64 0) (.int .i64 0) (.int .i64 0) 23 (w.heap.size) (by simp)
  go_enter Tryd.func18, Tryd.ntmps18
  obtain ⟨rf0, rf1, rf2, rf3, rf4, rf5, rf6⟩ := id R0
  go_wp2_with fail
  clear rf0 rf1 rf2 rf3 rf4 rf5 rf6
  refine (checkC_ok c _ HP.out).mono ?_
  rintro e w1 ⟨rfl, hb⟩
  have B1 := Lib.hid (B0.out.up hb)
  have C1 := Lib.hid (C0.out.below hb)
  have R1 := R0.up hb
  clear hb B0 C0 R0
  obtain ⟨rf0, rf1, rf2, rf3, rf4, rf5, rf6⟩ := id R1
  go_wp2_with fail
  clear rf0 rf1 rf2 rf3 rf4 rf5 rf6
  refine (near_ok p _ k0 k1).mono ?_
  rintro e w2 ⟨rfl, hb⟩
  have B2 := Lib.hid (B1.out.up hb)
  have C2 := Lib.hid (C1.out.below hb)
  have R2 := R1.up hb
  clear hb B1 C1 R1
  obtain ⟨rf0, rf1, rf2, rf3, rf4, rf5, rf6⟩ := id R2
  have q4 := (C2.out.c.row HP.out).r4
  go_wp2_with fail
  try (go_quiet (fail); go_wp2_with fail)
  clear rf0 rf1 rf2 rf3 rf4 rf5 rf6
  refine (of_bad (p + midI c) 0 _ (by omega) (by omega) HQ.out C2.out.t).mono ?_
  rintro e w3 ⟨rfl, hb⟩
  have B3 := Lib.hid ((B2.out.up hb).alloc (.cells #[.int .i64 0, .int .i64 0, .int .i64 0] 23))
  have C3 := Lib.hid ((C2.out.below hb).below ((Below.refl _ _).alloc (Nat.le_refl _) (.cells #[.int .i64 0, .int .i64 0, .int .i64 0] 23)))
  have R3 := (R2.up hb).alloc (.cells #[.int .i64 0, .int .i64 0, .int .i64 0] 23)
  have P3 := Tri.new w3 (.int .i64 0) (.int .i64 0) (.int .i64 0) 23 (w3.heap.size) (by simp)
  clear hb B2 C2 R2
  obtain ⟨rf0, rf1, rf2, rf3, rf4, rf5, rf6⟩ := id R3
  obtain ⟨pf0, pf1, pf2, pf3, pf4, pf5, pf6⟩ := id P3
  go_wp2_with fail
  have Tf := R3.store (u := .int .i64 0) (v := .int .i64 0) (t := .int .i64 0)
  exact bodyPost_ret (v := .tuple #[.agg #[.int .i64 0, .int .i64 0, .int .i64 0], .int .i64 2]) (by first | (simp [results, Tryd.results18, go_sem, Tf.c0, Tf.c1, Tf.c2]; done) | (simp [results, Tryd.results18, go_sem, Tf.c0, Tf.c1, Tf.c2]; omega)) rfl ⟨rfl, (((B3.out.set (Nat.le_refl _) _ _).set (Nat.le_refl _) _ _).set (Nat.le_refl _) _ _)⟩
set_option maxRecDepth 100000 in
set_option maxHeartbeats 2000000 in
theorem kind_ok (c : Int) (w : World) (h : Cl c) :
    Calls Tryd.prog 14 #[.int .i64 c] w fun e w' => e = .returned (.int .i64 0) ∧ Below w.heap.size w w' := by
  have HP := Lib.hid h
  have B0 := Lib.hid (Bel.refl w)
  go_enter Tryd.func14, Tryd.ntmps14
  go_wp2_with fail
  refine (valid_ok c _ HP.out).mono ?_
  rintro e w1 ⟨rfl, hb⟩
  have B1 := Lib.hid (B0.out.up hb)
  clear hb B0  
  go_wp2_with fail
  go_ret
  exact ⟨rfl, B1.out.out⟩
set_option maxRecDepth 100000 in
set_option maxHeartbeats 2000000 in
theorem kind_bad (c : Int) (w : World) (h : ¬ Cl c) :
    Calls Tryd.prog 14 #[.int .i64 c] w fun e w' => e = .returned (.int .i64 11) ∧ Below w.heap.size w w' := by
  have HP := Lib.hid h
  have B0 := Lib.hid (Bel.refl w)
  go_enter Tryd.func14, Tryd.ntmps14
  go_wp2_with fail
  refine (valid_bad c _ HP.out).mono ?_
  rintro e w1 ⟨rfl, hb⟩
  have B1 := Lib.hid (B0.out.up hb)
  clear hb B0  
  go_wp2_with fail
  go_ret
  exact ⟨rfl, B1.out.out⟩
set_option maxRecDepth 100000 in
set_option maxHeartbeats 4000000 in
theorem rpos_ok (c s a o : Int) (w : World) (h : Cl c) (s0 : 0 ≤ s) (s1 : s ≤ 6) (o0 : -1 ≤ o) (o1 : o ≤ 9) :
    Calls Tryd.prog 17 #[.int .i64 c, .agg #[.int .i64 s, .int .i64 a, .int .i64 o]] w fun e w' => e = .returned (.int .i64 (diaP s o - midI c)) ∧ Below w.heap.size w w' := by
  have HP := Lib.hid h
  obtain ⟨c0, c1⟩ := id h
  obtain ⟨m0, m1⟩ := mid_bd c
  unfold diaP
  have HM := Lib.hid (fun (w : World) (b : Nat) (ht : Tab w b) => (ht.row h).r4)
  generalize midI c = M at *
  have X0 := Tri.new w (.int .i64 s) (.int .i64 a) (.int .i64 o) 23 w.heap.size rfl
  have Bd := Lib.hid (show Bel w (w.alloc (.cells #[.int .i64 s, .int .i64 a, .int .i64 o] 23)).drew from Below.drew ((Bel.refl w).alloc _))
  have Xd := Lib.hid (X0.up (Below.drew (Below.refl _ _)))
  have i1 : IntKind.i64.wrap (7 * o) = 7 * o := (IntWalk.i64_left _).trans (IntWalk.wrap64_in _ ⟨by omega, by omega⟩)
  have i2 : IntKind.i64.wrap (7 * o + s) = 7 * o + s := (IntWalk.i64_left _).trans (IntWalk.wrap64_in _ ⟨by omega, by omega⟩)
  have i3 : IntKind.i64.wrap (c - 1) = c - 1 := (IntWalk.i64_left _).trans (IntWalk.wrap64_in _ ⟨by omega, by omega⟩)
  have i4 : IntKind.i64.wrap (7 * o + s - M) = 7 * o + s - M := (IntWalk.i64_left _).trans (IntWalk.wrap64_in _ ⟨by omega, by omega⟩)
  have i5 : c.toNat - 1 < 9 := by omega
  obtain ⟨x0, x1, x2, x3, x4, x5, x6⟩ := id X0
  go_enter Tryd.func17, Tryd.ntmps17
  go_wp2_with fail
  go_cut [4] (fun v wx => v = .int .i64 (7 * o + s - M) ∧ Bel w wx)
  case first =>
    go_region_with (go_at_call 29; refine (clefs_ok _).mono ?_; rintro e w1 ⟨b, rfl, ht, hb⟩; have B1 := Lib.hid (Bel.up Bd.out hb); have X1 := Xd.out.up hb; obtain ⟨y0, y1, y2, y3, y4, y5, y6⟩ := id X1; have q4 := HM.out w1 b ht; clear hb ht)
    all_goals (go_wp2_with fail; go_meet)
    all_goals exact ⟨rfl, B1.out⟩
  case rest =>
    obtain ⟨rfl, hB⟩ := hcut
    go_wp2_with fail
    go_ret
    exact ⟨rfl, hB⟩
end Go.Proofs.YtmdnlnjapkcanaaDoor
