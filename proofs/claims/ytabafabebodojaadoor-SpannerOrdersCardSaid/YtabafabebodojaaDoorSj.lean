/- Spans: the reference's Conflict. -/
import Derived.Test.YtabafabebodojaaDoorSi
namespace Go.Proofs.YtabafabebodojaaDoor
open Go.RowKit
set_option linter.unusedVariables false
set_option linter.unusedSimpArgs false

set_option maxRecDepth 100000 in
set_option maxHeartbeats 2000000 in
theorem rconf_n (a b : Sp) (w : World) (hg : rgd a b = false) :
    Calls Tryd.prog 20 #[.agg #[.int .i64 a.k, .int .i64 a.f.m, .int .i64 a.f.a, .int .i64 a.f.s, .int .i64 a.f.v, .int .i64 a.t.m, .int .i64 a.t.a, .int .i64 a.t.s, .int .i64 a.t.v], .agg #[.int .i64 b.k, .int .i64 b.f.m, .int .i64 b.f.a, .int .i64 b.f.s, .int .i64 b.f.v, .int .i64 b.t.m, .int .i64 b.t.a, .int .i64 b.t.s, .int .i64 b.t.v]] w fun e w' => e = .returned (.bool false) ∧ Below w.heap.size w w' := by
  replace hg := Lib.hid hg
  have B0 := Lib.hid (((Bel.refl w).alloc (.cells #[.int .i64 a.k, .int .i64 a.f.m, .int .i64 a.f.a, .int .i64 a.f.s, .int .i64 a.f.v, .int .i64 a.t.m, .int .i64 a.t.a, .int .i64 a.t.s, .int .i64 a.t.v] 25)).alloc (.cells #[.int .i64 b.k, .int .i64 b.f.m, .int .i64 b.f.a, .int .i64 b.f.s, .int .i64 b.f.v, .int .i64 b.t.m, .int .i64 b.t.a, .int .i64 b.t.s, .int .i64 b.t.v] 25))
  have X0 := (Non.new w (.int .i64 a.k) (.int .i64 a.f.m) (.int .i64 a.f.a) (.int .i64 a.f.s) (.int .i64 a.f.v) (.int .i64 a.t.m) (.int .i64 a.t.a) (.int .i64 a.t.s) (.int .i64 a.t.v) 25 (w.heap.size) (by simp)).alloc (.cells #[.int .i64 b.k, .int .i64 b.f.m, .int .i64 b.f.a, .int .i64 b.f.s, .int .i64 b.f.v, .int .i64 b.t.m, .int .i64 b.t.a, .int .i64 b.t.s, .int .i64 b.t.v] 25)
  have Y0 := Non.new (w.alloc (.cells #[.int .i64 a.k, .int .i64 a.f.m, .int .i64 a.f.a, .int .i64 a.f.s, .int .i64 a.f.v, .int .i64 a.t.m, .int .i64 a.t.a, .int .i64 a.t.s, .int .i64 a.t.v] 25)) (.int .i64 b.k) (.int .i64 b.f.m) (.int .i64 b.f.a) (.int .i64 b.f.s) (.int .i64 b.f.v) (.int .i64 b.t.m) (.int .i64 b.t.a) (.int .i64 b.t.s) (.int .i64 b.t.v) 25 (w.heap.size + 1) (by simp)
  go_enter Tryd.func20, Tryd.ntmps20
  obtain ⟨xf0, xf1, xf2, xf3, xf4, xf5, xf6, xf7, xf8, xf9, xf10, xf11, xf12, xf13, xf14, xf15, xf16, xf17, xf18⟩ := id X0
  obtain ⟨yf0, yf1, yf2, yf3, yf4, yf5, yf6, yf7, yf8, yf9, yf10, yf11, yf12, yf13, yf14, yf15, yf16, yf17, yf18⟩ := id Y0
  go_wp2_with fail
  clear xf0 xf1 xf2 xf3 xf4 xf5 xf6 xf7 xf8 xf9 xf10 xf11 xf12 xf13 xf14 xf15 xf16 xf17 xf18 yf0 yf1 yf2 yf3 yf4 yf5 yf6 yf7 yf8 yf9 yf10 yf11 yf12 yf13 yf14 yf15 yf16 yf17 yf18
  refine (grouped_at a b false _ hg.out).mono ?_
  rintro e w1 ⟨rfl, hb⟩
  have B1 := Lib.hid (B0.out.up hb)
  have X1 := X0.up hb
  have Y1 := Y0.up hb
  clear hb B0  X0 Y0
  obtain ⟨xf0, xf1, xf2, xf3, xf4, xf5, xf6, xf7, xf8, xf9, xf10, xf11, xf12, xf13, xf14, xf15, xf16, xf17, xf18⟩ := id X1
  obtain ⟨yf0, yf1, yf2, yf3, yf4, yf5, yf6, yf7, yf8, yf9, yf10, yf11, yf12, yf13, yf14, yf15, yf16, yf17, yf18⟩ := id Y1
  go_wp2_with fail
  go_ret
  exact ⟨rfl, B1.out.out⟩
set_option maxRecDepth 100000 in
set_option maxHeartbeats 2000000 in
theorem rconf_a1 (a b : Sp) (c d x : Int) (w : World) (hg : rgd a b = true) (hc : cmpP a.t b.f = c) (hd : cmpP b.t a.f = d) (hx : rg a.k = x) (h0 : c < 0) (h2 : x = 1) :
    Calls Tryd.prog 20 #[.agg #[.int .i64 a.k, .int .i64 a.f.m, .int .i64 a.f.a, .int .i64 a.f.s, .int .i64 a.f.v, .int .i64 a.t.m, .int .i64 a.t.a, .int .i64 a.t.s, .int .i64 a.t.v], .agg #[.int .i64 b.k, .int .i64 b.f.m, .int .i64 b.f.a, .int .i64 b.f.s, .int .i64 b.f.v, .int .i64 b.t.m, .int .i64 b.t.a, .int .i64 b.t.s, .int .i64 b.t.v]] w fun e w' => e = .returned (.bool false) ∧ Below w.heap.size w w' := by
  replace hg := Lib.hid hg
  replace hc := Lib.hid hc
  replace hd := Lib.hid hd
  replace hx := Lib.hid hx
  have q0 : decide (c ≤ 0) = true := decide_eq_true (by omega)
  have q1 : decide (c < 0) = true := decide_eq_true (by omega)
  have z0 : (x == 1) = true := by simpa using h2
  clear h0 h2
  have B0 := Lib.hid (((Bel.refl w).alloc (.cells #[.int .i64 a.k, .int .i64 a.f.m, .int .i64 a.f.a, .int .i64 a.f.s, .int .i64 a.f.v, .int .i64 a.t.m, .int .i64 a.t.a, .int .i64 a.t.s, .int .i64 a.t.v] 25)).alloc (.cells #[.int .i64 b.k, .int .i64 b.f.m, .int .i64 b.f.a, .int .i64 b.f.s, .int .i64 b.f.v, .int .i64 b.t.m, .int .i64 b.t.a, .int .i64 b.t.s, .int .i64 b.t.v] 25))
  have X0 := (Non.new w (.int .i64 a.k) (.int .i64 a.f.m) (.int .i64 a.f.a) (.int .i64 a.f.s) (.int .i64 a.f.v) (.int .i64 a.t.m) (.int .i64 a.t.a) (.int .i64 a.t.s) (.int .i64 a.t.v) 25 (w.heap.size) (by simp)).alloc (.cells #[.int .i64 b.k, .int .i64 b.f.m, .int .i64 b.f.a, .int .i64 b.f.s, .int .i64 b.f.v, .int .i64 b.t.m, .int .i64 b.t.a, .int .i64 b.t.s, .int .i64 b.t.v] 25)
  have Y0 := Non.new (w.alloc (.cells #[.int .i64 a.k, .int .i64 a.f.m, .int .i64 a.f.a, .int .i64 a.f.s, .int .i64 a.f.v, .int .i64 a.t.m, .int .i64 a.t.a, .int .i64 a.t.s, .int .i64 a.t.v] 25)) (.int .i64 b.k) (.int .i64 b.f.m) (.int .i64 b.f.a) (.int .i64 b.f.s) (.int .i64 b.f.v) (.int .i64 b.t.m) (.int .i64 b.t.a) (.int .i64 b.t.s) (.int .i64 b.t.v) 25 (w.heap.size + 1) (by simp)
  go_enter Tryd.func20, Tryd.ntmps20
  obtain ⟨xf0, xf1, xf2, xf3, xf4, xf5, xf6, xf7, xf8, xf9, xf10, xf11, xf12, xf13, xf14, xf15, xf16, xf17, xf18⟩ := id X0
  obtain ⟨yf0, yf1, yf2, yf3, yf4, yf5, yf6, yf7, yf8, yf9, yf10, yf11, yf12, yf13, yf14, yf15, yf16, yf17, yf18⟩ := id Y0
  go_wp2_with fail
  clear xf0 xf1 xf2 xf3 xf4 xf5 xf6 xf7 xf8 xf9 xf10 xf11 xf12 xf13 xf14 xf15 xf16 xf17 xf18 yf0 yf1 yf2 yf3 yf4 yf5 yf6 yf7 yf8 yf9 yf10 yf11 yf12 yf13 yf14 yf15 yf16 yf17 yf18
  refine (grouped_at a b true _ hg.out).mono ?_
  rintro e w1 ⟨rfl, hb⟩
  have B1 := Lib.hid (B0.out.up hb)
  have X1 := X0.up hb
  have Y1 := Y0.up hb
  clear hb B0  X0 Y0
  obtain ⟨xf0, xf1, xf2, xf3, xf4, xf5, xf6, xf7, xf8, xf9, xf10, xf11, xf12, xf13, xf14, xf15, xf16, xf17, xf18⟩ := id X1
  obtain ⟨yf0, yf1, yf2, yf3, yf4, yf5, yf6, yf7, yf8, yf9, yf10, yf11, yf12, yf13, yf14, yf15, yf16, yf17, yf18⟩ := id Y1
  go_wp2_with fail
  clear xf0 xf1 xf2 xf3 xf4 xf5 xf6 xf7 xf8 xf9 xf10 xf11 xf12 xf13 xf14 xf15 xf16 xf17 xf18 yf0 yf1 yf2 yf3 yf4 yf5 yf6 yf7 yf8 yf9 yf10 yf11 yf12 yf13 yf14 yf15 yf16 yf17 yf18
  refine (rcompare_at a.t b.f c _ hc.out).mono ?_
  rintro e w2 ⟨rfl, hb⟩
  have B2 := Lib.hid (B1.out.up hb)
  have X2 := X1.up hb
  have Y2 := Y1.up hb
  clear hb B1  X1 Y1
  obtain ⟨xf0, xf1, xf2, xf3, xf4, xf5, xf6, xf7, xf8, xf9, xf10, xf11, xf12, xf13, xf14, xf15, xf16, xf17, xf18⟩ := id X2
  obtain ⟨yf0, yf1, yf2, yf3, yf4, yf5, yf6, yf7, yf8, yf9, yf10, yf11, yf12, yf13, yf14, yf15, yf16, yf17, yf18⟩ := id Y2
  go_wp2_with fail
  clear xf0 xf1 xf2 xf3 xf4 xf5 xf6 xf7 xf8 xf9 xf10 xf11 xf12 xf13 xf14 xf15 xf16 xf17 xf18 yf0 yf1 yf2 yf3 yf4 yf5 yf6 yf7 yf8 yf9 yf10 yf11 yf12 yf13 yf14 yf15 yf16 yf17 yf18
  refine (rcompare_at a.t b.f c _ hc.out).mono ?_
  rintro e w3 ⟨rfl, hb⟩
  have B3 := Lib.hid (B2.out.up hb)
  have X3 := X2.up hb
  have Y3 := Y2.up hb
  clear hb B2  X2 Y2
  obtain ⟨xf0, xf1, xf2, xf3, xf4, xf5, xf6, xf7, xf8, xf9, xf10, xf11, xf12, xf13, xf14, xf15, xf16, xf17, xf18⟩ := id X3
  obtain ⟨yf0, yf1, yf2, yf3, yf4, yf5, yf6, yf7, yf8, yf9, yf10, yf11, yf12, yf13, yf14, yf15, yf16, yf17, yf18⟩ := id Y3
  go_wp2_with fail
  clear xf0 xf1 xf2 xf3 xf4 xf5 xf6 xf7 xf8 xf9 xf10 xf11 xf12 xf13 xf14 xf15 xf16 xf17 xf18 yf0 yf1 yf2 yf3 yf4 yf5 yf6 yf7 yf8 yf9 yf10 yf11 yf12 yf13 yf14 yf15 yf16 yf17 yf18
  refine (rgroup_at a.k x _ hx.out).mono ?_
  rintro e w4 ⟨rfl, hb⟩
  have B4 := Lib.hid (B3.out.up hb)
  have X4 := X3.up hb
  have Y4 := Y3.up hb
  clear hb B3  X3 Y3
  obtain ⟨xf0, xf1, xf2, xf3, xf4, xf5, xf6, xf7, xf8, xf9, xf10, xf11, xf12, xf13, xf14, xf15, xf16, xf17, xf18⟩ := id X4
  obtain ⟨yf0, yf1, yf2, yf3, yf4, yf5, yf6, yf7, yf8, yf9, yf10, yf11, yf12, yf13, yf14, yf15, yf16, yf17, yf18⟩ := id Y4
  go_wp2_with fail
  clear xf0 xf1 xf2 xf3 xf4 xf5 xf6 xf7 xf8 xf9 xf10 xf11 xf12 xf13 xf14 xf15 xf16 xf17 xf18 yf0 yf1 yf2 yf3 yf4 yf5 yf6 yf7 yf8 yf9 yf10 yf11 yf12 yf13 yf14 yf15 yf16 yf17 yf18
  refine Qt.regionAll (by kernel_rfl) (by kernel_rfl) ?_
  intro T f_ F hne
  have RB := Lib.hid (fun g => B4.out.up (F.below g))
  have RX := fun g => X4.up (F.below g)
  have RX0 := fun g => (RX g).c0
  have RX1 := fun g => (RX g).c1
  have RX2 := fun g => (RX g).c2
  have RX3 := fun g => (RX g).c3
  have RX4 := fun g => (RX g).c4
  have RX5 := fun g => (RX g).c5
  have RX6 := fun g => (RX g).c6
  have RX7 := fun g => (RX g).c7
  have RX8 := fun g => (RX g).c8
  have RY := fun g => Y4.up (F.below g)
  have RY0 := fun g => (RY g).c0
  have RY1 := fun g => (RY g).c1
  have RY2 := fun g => (RY g).c2
  have RY3 := fun g => (RY g).c3
  have RY4 := fun g => (RY g).c4
  have RY5 := fun g => (RY g).c5
  have RY6 := fun g => (RY g).c6
  have RY7 := fun g => (RY g).c7
  have RY8 := fun g => (RY g).c8
  repeat (go_big_quiet_step (fail))
  refine wpQuiet_nil ?_
  rintro _ ⟨gT, rfl⟩
  have B5 := Lib.hid (RB.out gT)
  have X5 := RX gT
  have Y5 := RY gT
  clear F RB hne RX RX0 RX1 RX2 RX3 RX4 RX5 RX6 RX7 RX8 RY RY0 RY1 RY2 RY3 RY4 RY5 RY6 RY7 RY8 B4 X4 Y4
  generalize f_ gT = w5 at *
  clear f_
  obtain ⟨xf0, xf1, xf2, xf3, xf4, xf5, xf6, xf7, xf8, xf9, xf10, xf11, xf12, xf13, xf14, xf15, xf16, xf17, xf18⟩ := id X5
  obtain ⟨yf0, yf1, yf2, yf3, yf4, yf5, yf6, yf7, yf8, yf9, yf10, yf11, yf12, yf13, yf14, yf15, yf16, yf17, yf18⟩ := id Y5
  go_wp2_with fail
  go_ret
  exact ⟨rfl, B5.out.out⟩
set_option maxRecDepth 100000 in
set_option maxHeartbeats 2000000 in
theorem rconf_a3 (a b : Sp) (c d x : Int) (w : World) (hg : rgd a b = true) (hc : cmpP a.t b.f = c) (hd : cmpP b.t a.f = d) (hx : rg a.k = x) (h0 : c < 0) (h2 : x = 3) :
    Calls Tryd.prog 20 #[.agg #[.int .i64 a.k, .int .i64 a.f.m, .int .i64 a.f.a, .int .i64 a.f.s, .int .i64 a.f.v, .int .i64 a.t.m, .int .i64 a.t.a, .int .i64 a.t.s, .int .i64 a.t.v], .agg #[.int .i64 b.k, .int .i64 b.f.m, .int .i64 b.f.a, .int .i64 b.f.s, .int .i64 b.f.v, .int .i64 b.t.m, .int .i64 b.t.a, .int .i64 b.t.s, .int .i64 b.t.v]] w fun e w' => e = .returned (.bool false) ∧ Below w.heap.size w w' := by
  replace hg := Lib.hid hg
  replace hc := Lib.hid hc
  replace hd := Lib.hid hd
  replace hx := Lib.hid hx
  have q0 : decide (c ≤ 0) = true := decide_eq_true (by omega)
  have q1 : decide (c < 0) = true := decide_eq_true (by omega)
  have z0 : (x == 1) = false := by simp [h2]
  have z1 : (x == 3) = true := by simpa using h2
  clear h0 h2
  have B0 := Lib.hid (((Bel.refl w).alloc (.cells #[.int .i64 a.k, .int .i64 a.f.m, .int .i64 a.f.a, .int .i64 a.f.s, .int .i64 a.f.v, .int .i64 a.t.m, .int .i64 a.t.a, .int .i64 a.t.s, .int .i64 a.t.v] 25)).alloc (.cells #[.int .i64 b.k, .int .i64 b.f.m, .int .i64 b.f.a, .int .i64 b.f.s, .int .i64 b.f.v, .int .i64 b.t.m, .int .i64 b.t.a, .int .i64 b.t.s, .int .i64 b.t.v] 25))
  have X0 := (Non.new w (.int .i64 a.k) (.int .i64 a.f.m) (.int .i64 a.f.a) (.int .i64 a.f.s) (.int .i64 a.f.v) (.int .i64 a.t.m) (.int .i64 a.t.a) (.int .i64 a.t.s) (.int .i64 a.t.v) 25 (w.heap.size) (by simp)).alloc (.cells #[.int .i64 b.k, .int .i64 b.f.m, .int .i64 b.f.a, .int .i64 b.f.s, .int .i64 b.f.v, .int .i64 b.t.m, .int .i64 b.t.a, .int .i64 b.t.s, .int .i64 b.t.v] 25)
  have Y0 := Non.new (w.alloc (.cells #[.int .i64 a.k, .int .i64 a.f.m, .int .i64 a.f.a, .int .i64 a.f.s, .int .i64 a.f.v, .int .i64 a.t.m, .int .i64 a.t.a, .int .i64 a.t.s, .int .i64 a.t.v] 25)) (.int .i64 b.k) (.int .i64 b.f.m) (.int .i64 b.f.a) (.int .i64 b.f.s) (.int .i64 b.f.v) (.int .i64 b.t.m) (.int .i64 b.t.a) (.int .i64 b.t.s) (.int .i64 b.t.v) 25 (w.heap.size + 1) (by simp)
  go_enter Tryd.func20, Tryd.ntmps20
  obtain ⟨xf0, xf1, xf2, xf3, xf4, xf5, xf6, xf7, xf8, xf9, xf10, xf11, xf12, xf13, xf14, xf15, xf16, xf17, xf18⟩ := id X0
  obtain ⟨yf0, yf1, yf2, yf3, yf4, yf5, yf6, yf7, yf8, yf9, yf10, yf11, yf12, yf13, yf14, yf15, yf16, yf17, yf18⟩ := id Y0
  go_wp2_with fail
  clear xf0 xf1 xf2 xf3 xf4 xf5 xf6 xf7 xf8 xf9 xf10 xf11 xf12 xf13 xf14 xf15 xf16 xf17 xf18 yf0 yf1 yf2 yf3 yf4 yf5 yf6 yf7 yf8 yf9 yf10 yf11 yf12 yf13 yf14 yf15 yf16 yf17 yf18
  refine (grouped_at a b true _ hg.out).mono ?_
  rintro e w1 ⟨rfl, hb⟩
  have B1 := Lib.hid (B0.out.up hb)
  have X1 := X0.up hb
  have Y1 := Y0.up hb
  clear hb B0  X0 Y0
  obtain ⟨xf0, xf1, xf2, xf3, xf4, xf5, xf6, xf7, xf8, xf9, xf10, xf11, xf12, xf13, xf14, xf15, xf16, xf17, xf18⟩ := id X1
  obtain ⟨yf0, yf1, yf2, yf3, yf4, yf5, yf6, yf7, yf8, yf9, yf10, yf11, yf12, yf13, yf14, yf15, yf16, yf17, yf18⟩ := id Y1
  go_wp2_with fail
  clear xf0 xf1 xf2 xf3 xf4 xf5 xf6 xf7 xf8 xf9 xf10 xf11 xf12 xf13 xf14 xf15 xf16 xf17 xf18 yf0 yf1 yf2 yf3 yf4 yf5 yf6 yf7 yf8 yf9 yf10 yf11 yf12 yf13 yf14 yf15 yf16 yf17 yf18
  refine (rcompare_at a.t b.f c _ hc.out).mono ?_
  rintro e w2 ⟨rfl, hb⟩
  have B2 := Lib.hid (B1.out.up hb)
  have X2 := X1.up hb
  have Y2 := Y1.up hb
  clear hb B1  X1 Y1
  obtain ⟨xf0, xf1, xf2, xf3, xf4, xf5, xf6, xf7, xf8, xf9, xf10, xf11, xf12, xf13, xf14, xf15, xf16, xf17, xf18⟩ := id X2
  obtain ⟨yf0, yf1, yf2, yf3, yf4, yf5, yf6, yf7, yf8, yf9, yf10, yf11, yf12, yf13, yf14, yf15, yf16, yf17, yf18⟩ := id Y2
  go_wp2_with fail
  clear xf0 xf1 xf2 xf3 xf4 xf5 xf6 xf7 xf8 xf9 xf10 xf11 xf12 xf13 xf14 xf15 xf16 xf17 xf18 yf0 yf1 yf2 yf3 yf4 yf5 yf6 yf7 yf8 yf9 yf10 yf11 yf12 yf13 yf14 yf15 yf16 yf17 yf18
  refine (rcompare_at a.t b.f c _ hc.out).mono ?_
  rintro e w3 ⟨rfl, hb⟩
  have B3 := Lib.hid (B2.out.up hb)
  have X3 := X2.up hb
  have Y3 := Y2.up hb
  clear hb B2  X2 Y2
  obtain ⟨xf0, xf1, xf2, xf3, xf4, xf5, xf6, xf7, xf8, xf9, xf10, xf11, xf12, xf13, xf14, xf15, xf16, xf17, xf18⟩ := id X3
  obtain ⟨yf0, yf1, yf2, yf3, yf4, yf5, yf6, yf7, yf8, yf9, yf10, yf11, yf12, yf13, yf14, yf15, yf16, yf17, yf18⟩ := id Y3
  go_wp2_with fail
  clear xf0 xf1 xf2 xf3 xf4 xf5 xf6 xf7 xf8 xf9 xf10 xf11 xf12 xf13 xf14 xf15 xf16 xf17 xf18 yf0 yf1 yf2 yf3 yf4 yf5 yf6 yf7 yf8 yf9 yf10 yf11 yf12 yf13 yf14 yf15 yf16 yf17 yf18
  refine (rgroup_at a.k x _ hx.out).mono ?_
  rintro e w4 ⟨rfl, hb⟩
  have B4 := Lib.hid (B3.out.up hb)
  have X4 := X3.up hb
  have Y4 := Y3.up hb
  clear hb B3  X3 Y3
  obtain ⟨xf0, xf1, xf2, xf3, xf4, xf5, xf6, xf7, xf8, xf9, xf10, xf11, xf12, xf13, xf14, xf15, xf16, xf17, xf18⟩ := id X4
  obtain ⟨yf0, yf1, yf2, yf3, yf4, yf5, yf6, yf7, yf8, yf9, yf10, yf11, yf12, yf13, yf14, yf15, yf16, yf17, yf18⟩ := id Y4
  go_wp2_with fail
  go_ret
  exact ⟨rfl, B4.out.out⟩
set_option maxRecDepth 100000 in
set_option maxHeartbeats 2000000 in
theorem rconf_a5 (a b : Sp) (c d x : Int) (w : World) (hg : rgd a b = true) (hc : cmpP a.t b.f = c) (hd : cmpP b.t a.f = d) (hx : rg a.k = x) (h0 : c < 0) (h2 : x = 5) :
    Calls Tryd.prog 20 #[.agg #[.int .i64 a.k, .int .i64 a.f.m, .int .i64 a.f.a, .int .i64 a.f.s, .int .i64 a.f.v, .int .i64 a.t.m, .int .i64 a.t.a, .int .i64 a.t.s, .int .i64 a.t.v], .agg #[.int .i64 b.k, .int .i64 b.f.m, .int .i64 b.f.a, .int .i64 b.f.s, .int .i64 b.f.v, .int .i64 b.t.m, .int .i64 b.t.a, .int .i64 b.t.s, .int .i64 b.t.v]] w fun e w' => e = .returned (.bool false) ∧ Below w.heap.size w w' := by
  replace hg := Lib.hid hg
  replace hc := Lib.hid hc
  replace hd := Lib.hid hd
  replace hx := Lib.hid hx
  have q0 : decide (c ≤ 0) = true := decide_eq_true (by omega)
  have q1 : decide (c < 0) = true := decide_eq_true (by omega)
  have z0 : (x == 1) = false := by simp [h2]
  have z1 : (x == 3) = false := by simp [h2]
  have z2 : (x == 5) = true := by simpa using h2
  clear h0 h2
  have B0 := Lib.hid (((Bel.refl w).alloc (.cells #[.int .i64 a.k, .int .i64 a.f.m, .int .i64 a.f.a, .int .i64 a.f.s, .int .i64 a.f.v, .int .i64 a.t.m, .int .i64 a.t.a, .int .i64 a.t.s, .int .i64 a.t.v] 25)).alloc (.cells #[.int .i64 b.k, .int .i64 b.f.m, .int .i64 b.f.a, .int .i64 b.f.s, .int .i64 b.f.v, .int .i64 b.t.m, .int .i64 b.t.a, .int .i64 b.t.s, .int .i64 b.t.v] 25))
  have X0 := (Non.new w (.int .i64 a.k) (.int .i64 a.f.m) (.int .i64 a.f.a) (.int .i64 a.f.s) (.int .i64 a.f.v) (.int .i64 a.t.m) (.int .i64 a.t.a) (.int .i64 a.t.s) (.int .i64 a.t.v) 25 (w.heap.size) (by simp)).alloc (.cells #[.int .i64 b.k, .int .i64 b.f.m, .int .i64 b.f.a, .int .i64 b.f.s, .int .i64 b.f.v, .int .i64 b.t.m, .int .i64 b.t.a, .int .i64 b.t.s, .int .i64 b.t.v] 25)
  have Y0 := Non.new (w.alloc (.cells #[.int .i64 a.k, .int .i64 a.f.m, .int .i64 a.f.a, .int .i64 a.f.s, .int .i64 a.f.v, .int .i64 a.t.m, .int .i64 a.t.a, .int .i64 a.t.s, .int .i64 a.t.v] 25)) (.int .i64 b.k) (.int .i64 b.f.m) (.int .i64 b.f.a) (.int .i64 b.f.s) (.int .i64 b.f.v) (.int .i64 b.t.m) (.int .i64 b.t.a) (.int .i64 b.t.s) (.int .i64 b.t.v) 25 (w.heap.size + 1) (by simp)
  go_enter Tryd.func20, Tryd.ntmps20
  obtain ⟨xf0, xf1, xf2, xf3, xf4, xf5, xf6, xf7, xf8, xf9, xf10, xf11, xf12, xf13, xf14, xf15, xf16, xf17, xf18⟩ := id X0
  obtain ⟨yf0, yf1, yf2, yf3, yf4, yf5, yf6, yf7, yf8, yf9, yf10, yf11, yf12, yf13, yf14, yf15, yf16, yf17, yf18⟩ := id Y0
  go_wp2_with fail
  clear xf0 xf1 xf2 xf3 xf4 xf5 xf6 xf7 xf8 xf9 xf10 xf11 xf12 xf13 xf14 xf15 xf16 xf17 xf18 yf0 yf1 yf2 yf3 yf4 yf5 yf6 yf7 yf8 yf9 yf10 yf11 yf12 yf13 yf14 yf15 yf16 yf17 yf18
  refine (grouped_at a b true _ hg.out).mono ?_
  rintro e w1 ⟨rfl, hb⟩
  have B1 := Lib.hid (B0.out.up hb)
  have X1 := X0.up hb
  have Y1 := Y0.up hb
  clear hb B0  X0 Y0
  obtain ⟨xf0, xf1, xf2, xf3, xf4, xf5, xf6, xf7, xf8, xf9, xf10, xf11, xf12, xf13, xf14, xf15, xf16, xf17, xf18⟩ := id X1
  obtain ⟨yf0, yf1, yf2, yf3, yf4, yf5, yf6, yf7, yf8, yf9, yf10, yf11, yf12, yf13, yf14, yf15, yf16, yf17, yf18⟩ := id Y1
  go_wp2_with fail
  clear xf0 xf1 xf2 xf3 xf4 xf5 xf6 xf7 xf8 xf9 xf10 xf11 xf12 xf13 xf14 xf15 xf16 xf17 xf18 yf0 yf1 yf2 yf3 yf4 yf5 yf6 yf7 yf8 yf9 yf10 yf11 yf12 yf13 yf14 yf15 yf16 yf17 yf18
  refine (rcompare_at a.t b.f c _ hc.out).mono ?_
  rintro e w2 ⟨rfl, hb⟩
  have B2 := Lib.hid (B1.out.up hb)
  have X2 := X1.up hb
  have Y2 := Y1.up hb
  clear hb B1  X1 Y1
  obtain ⟨xf0, xf1, xf2, xf3, xf4, xf5, xf6, xf7, xf8, xf9, xf10, xf11, xf12, xf13, xf14, xf15, xf16, xf17, xf18⟩ := id X2
  obtain ⟨yf0, yf1, yf2, yf3, yf4, yf5, yf6, yf7, yf8, yf9, yf10, yf11, yf12, yf13, yf14, yf15, yf16, yf17, yf18⟩ := id Y2
  go_wp2_with fail
  clear xf0 xf1 xf2 xf3 xf4 xf5 xf6 xf7 xf8 xf9 xf10 xf11 xf12 xf13 xf14 xf15 xf16 xf17 xf18 yf0 yf1 yf2 yf3 yf4 yf5 yf6 yf7 yf8 yf9 yf10 yf11 yf12 yf13 yf14 yf15 yf16 yf17 yf18
  refine (rcompare_at a.t b.f c _ hc.out).mono ?_
  rintro e w3 ⟨rfl, hb⟩
  have B3 := Lib.hid (B2.out.up hb)
  have X3 := X2.up hb
  have Y3 := Y2.up hb
  clear hb B2  X2 Y2
  obtain ⟨xf0, xf1, xf2, xf3, xf4, xf5, xf6, xf7, xf8, xf9, xf10, xf11, xf12, xf13, xf14, xf15, xf16, xf17, xf18⟩ := id X3
  obtain ⟨yf0, yf1, yf2, yf3, yf4, yf5, yf6, yf7, yf8, yf9, yf10, yf11, yf12, yf13, yf14, yf15, yf16, yf17, yf18⟩ := id Y3
  go_wp2_with fail
  clear xf0 xf1 xf2 xf3 xf4 xf5 xf6 xf7 xf8 xf9 xf10 xf11 xf12 xf13 xf14 xf15 xf16 xf17 xf18 yf0 yf1 yf2 yf3 yf4 yf5 yf6 yf7 yf8 yf9 yf10 yf11 yf12 yf13 yf14 yf15 yf16 yf17 yf18
  refine (rgroup_at a.k x _ hx.out).mono ?_
  rintro e w4 ⟨rfl, hb⟩
  have B4 := Lib.hid (B3.out.up hb)
  have X4 := X3.up hb
  have Y4 := Y3.up hb
  clear hb B3  X3 Y3
  obtain ⟨xf0, xf1, xf2, xf3, xf4, xf5, xf6, xf7, xf8, xf9, xf10, xf11, xf12, xf13, xf14, xf15, xf16, xf17, xf18⟩ := id X4
  obtain ⟨yf0, yf1, yf2, yf3, yf4, yf5, yf6, yf7, yf8, yf9, yf10, yf11, yf12, yf13, yf14, yf15, yf16, yf17, yf18⟩ := id Y4
  go_wp2_with fail
  go_ret
  exact ⟨rfl, B4.out.out⟩
set_option maxRecDepth 100000 in
set_option maxHeartbeats 2000000 in
theorem rconf_ao (a b : Sp) (c d x : Int) (w : World) (hg : rgd a b = true) (hc : cmpP a.t b.f = c) (hd : cmpP b.t a.f = d) (hx : rg a.k = x) (h0 : c < 0) (h2 : x ≠ 1) (h3 : x ≠ 3) (h4 : x ≠ 5) :
    Calls Tryd.prog 20 #[.agg #[.int .i64 a.k, .int .i64 a.f.m, .int .i64 a.f.a, .int .i64 a.f.s, .int .i64 a.f.v, .int .i64 a.t.m, .int .i64 a.t.a, .int .i64 a.t.s, .int .i64 a.t.v], .agg #[.int .i64 b.k, .int .i64 b.f.m, .int .i64 b.f.a, .int .i64 b.f.s, .int .i64 b.f.v, .int .i64 b.t.m, .int .i64 b.t.a, .int .i64 b.t.s, .int .i64 b.t.v]] w fun e w' => e = .returned (.bool false) ∧ Below w.heap.size w w' := by
  replace hg := Lib.hid hg
  replace hc := Lib.hid hc
  replace hd := Lib.hid hd
  replace hx := Lib.hid hx
  have q0 : decide (c ≤ 0) = true := decide_eq_true (by omega)
  have q1 : decide (c < 0) = true := decide_eq_true (by omega)
  have z0 : (x == 1) = false := by simpa using h2
  have z1 : (x == 3) = false := by simpa using h3
  have z2 : (x == 5) = false := by simpa using h4
  clear h0 h2 h3 h4
  have B0 := Lib.hid (((Bel.refl w).alloc (.cells #[.int .i64 a.k, .int .i64 a.f.m, .int .i64 a.f.a, .int .i64 a.f.s, .int .i64 a.f.v, .int .i64 a.t.m, .int .i64 a.t.a, .int .i64 a.t.s, .int .i64 a.t.v] 25)).alloc (.cells #[.int .i64 b.k, .int .i64 b.f.m, .int .i64 b.f.a, .int .i64 b.f.s, .int .i64 b.f.v, .int .i64 b.t.m, .int .i64 b.t.a, .int .i64 b.t.s, .int .i64 b.t.v] 25))
  have X0 := (Non.new w (.int .i64 a.k) (.int .i64 a.f.m) (.int .i64 a.f.a) (.int .i64 a.f.s) (.int .i64 a.f.v) (.int .i64 a.t.m) (.int .i64 a.t.a) (.int .i64 a.t.s) (.int .i64 a.t.v) 25 (w.heap.size) (by simp)).alloc (.cells #[.int .i64 b.k, .int .i64 b.f.m, .int .i64 b.f.a, .int .i64 b.f.s, .int .i64 b.f.v, .int .i64 b.t.m, .int .i64 b.t.a, .int .i64 b.t.s, .int .i64 b.t.v] 25)
  have Y0 := Non.new (w.alloc (.cells #[.int .i64 a.k, .int .i64 a.f.m, .int .i64 a.f.a, .int .i64 a.f.s, .int .i64 a.f.v, .int .i64 a.t.m, .int .i64 a.t.a, .int .i64 a.t.s, .int .i64 a.t.v] 25)) (.int .i64 b.k) (.int .i64 b.f.m) (.int .i64 b.f.a) (.int .i64 b.f.s) (.int .i64 b.f.v) (.int .i64 b.t.m) (.int .i64 b.t.a) (.int .i64 b.t.s) (.int .i64 b.t.v) 25 (w.heap.size + 1) (by simp)
  go_enter Tryd.func20, Tryd.ntmps20
  obtain ⟨xf0, xf1, xf2, xf3, xf4, xf5, xf6, xf7, xf8, xf9, xf10, xf11, xf12, xf13, xf14, xf15, xf16, xf17, xf18⟩ := id X0
  obtain ⟨yf0, yf1, yf2, yf3, yf4, yf5, yf6, yf7, yf8, yf9, yf10, yf11, yf12, yf13, yf14, yf15, yf16, yf17, yf18⟩ := id Y0
  go_wp2_with fail
  clear xf0 xf1 xf2 xf3 xf4 xf5 xf6 xf7 xf8 xf9 xf10 xf11 xf12 xf13 xf14 xf15 xf16 xf17 xf18 yf0 yf1 yf2 yf3 yf4 yf5 yf6 yf7 yf8 yf9 yf10 yf11 yf12 yf13 yf14 yf15 yf16 yf17 yf18
  refine (grouped_at a b true _ hg.out).mono ?_
  rintro e w1 ⟨rfl, hb⟩
  have B1 := Lib.hid (B0.out.up hb)
  have X1 := X0.up hb
  have Y1 := Y0.up hb
  clear hb B0  X0 Y0
  obtain ⟨xf0, xf1, xf2, xf3, xf4, xf5, xf6, xf7, xf8, xf9, xf10, xf11, xf12, xf13, xf14, xf15, xf16, xf17, xf18⟩ := id X1
  obtain ⟨yf0, yf1, yf2, yf3, yf4, yf5, yf6, yf7, yf8, yf9, yf10, yf11, yf12, yf13, yf14, yf15, yf16, yf17, yf18⟩ := id Y1
  go_wp2_with fail
  clear xf0 xf1 xf2 xf3 xf4 xf5 xf6 xf7 xf8 xf9 xf10 xf11 xf12 xf13 xf14 xf15 xf16 xf17 xf18 yf0 yf1 yf2 yf3 yf4 yf5 yf6 yf7 yf8 yf9 yf10 yf11 yf12 yf13 yf14 yf15 yf16 yf17 yf18
  refine (rcompare_at a.t b.f c _ hc.out).mono ?_
  rintro e w2 ⟨rfl, hb⟩
  have B2 := Lib.hid (B1.out.up hb)
  have X2 := X1.up hb
  have Y2 := Y1.up hb
  clear hb B1  X1 Y1
  obtain ⟨xf0, xf1, xf2, xf3, xf4, xf5, xf6, xf7, xf8, xf9, xf10, xf11, xf12, xf13, xf14, xf15, xf16, xf17, xf18⟩ := id X2
  obtain ⟨yf0, yf1, yf2, yf3, yf4, yf5, yf6, yf7, yf8, yf9, yf10, yf11, yf12, yf13, yf14, yf15, yf16, yf17, yf18⟩ := id Y2
  go_wp2_with fail
  clear xf0 xf1 xf2 xf3 xf4 xf5 xf6 xf7 xf8 xf9 xf10 xf11 xf12 xf13 xf14 xf15 xf16 xf17 xf18 yf0 yf1 yf2 yf3 yf4 yf5 yf6 yf7 yf8 yf9 yf10 yf11 yf12 yf13 yf14 yf15 yf16 yf17 yf18
  refine (rcompare_at a.t b.f c _ hc.out).mono ?_
  rintro e w3 ⟨rfl, hb⟩
  have B3 := Lib.hid (B2.out.up hb)
  have X3 := X2.up hb
  have Y3 := Y2.up hb
  clear hb B2  X2 Y2
  obtain ⟨xf0, xf1, xf2, xf3, xf4, xf5, xf6, xf7, xf8, xf9, xf10, xf11, xf12, xf13, xf14, xf15, xf16, xf17, xf18⟩ := id X3
  obtain ⟨yf0, yf1, yf2, yf3, yf4, yf5, yf6, yf7, yf8, yf9, yf10, yf11, yf12, yf13, yf14, yf15, yf16, yf17, yf18⟩ := id Y3
  go_wp2_with fail
  clear xf0 xf1 xf2 xf3 xf4 xf5 xf6 xf7 xf8 xf9 xf10 xf11 xf12 xf13 xf14 xf15 xf16 xf17 xf18 yf0 yf1 yf2 yf3 yf4 yf5 yf6 yf7 yf8 yf9 yf10 yf11 yf12 yf13 yf14 yf15 yf16 yf17 yf18
  refine (rgroup_at a.k x _ hx.out).mono ?_
  rintro e w4 ⟨rfl, hb⟩
  have B4 := Lib.hid (B3.out.up hb)
  have X4 := X3.up hb
  have Y4 := Y3.up hb
  clear hb B3  X3 Y3
  obtain ⟨xf0, xf1, xf2, xf3, xf4, xf5, xf6, xf7, xf8, xf9, xf10, xf11, xf12, xf13, xf14, xf15, xf16, xf17, xf18⟩ := id X4
  obtain ⟨yf0, yf1, yf2, yf3, yf4, yf5, yf6, yf7, yf8, yf9, yf10, yf11, yf12, yf13, yf14, yf15, yf16, yf17, yf18⟩ := id Y4
  go_wp2_with fail
  go_ret
  exact ⟨rfl, B4.out.out⟩
set_option maxRecDepth 100000 in
set_option maxHeartbeats 2000000 in
theorem rconf_b1 (a b : Sp) (c d x : Int) (w : World) (hg : rgd a b = true) (hc : cmpP a.t b.f = c) (hd : cmpP b.t a.f = d) (hx : rg a.k = x) (h0 : c = 0) (h1 : d < 0) (h2 : x = 1) :
    Calls Tryd.prog 20 #[.agg #[.int .i64 a.k, .int .i64 a.f.m, .int .i64 a.f.a, .int .i64 a.f.s, .int .i64 a.f.v, .int .i64 a.t.m, .int .i64 a.t.a, .int .i64 a.t.s, .int .i64 a.t.v], .agg #[.int .i64 b.k, .int .i64 b.f.m, .int .i64 b.f.a, .int .i64 b.f.s, .int .i64 b.f.v, .int .i64 b.t.m, .int .i64 b.t.a, .int .i64 b.t.s, .int .i64 b.t.v]] w fun e w' => e = .returned (.bool false) ∧ Below w.heap.size w w' := by
  replace hg := Lib.hid hg
  replace hc := Lib.hid hc
  replace hd := Lib.hid hd
  replace hx := Lib.hid hx
  have q0 : decide (c ≤ 0) = true := decide_eq_true (by omega)
  have q1 : decide (c < 0) = false := decide_eq_false (by omega)
  have q2 : decide (d < 0) = true := decide_eq_true (by omega)
  have z0 : (x == 1) = true := by simpa using h2
  clear h0 h1 h2
  have B0 := Lib.hid (((Bel.refl w).alloc (.cells #[.int .i64 a.k, .int .i64 a.f.m, .int .i64 a.f.a, .int .i64 a.f.s, .int .i64 a.f.v, .int .i64 a.t.m, .int .i64 a.t.a, .int .i64 a.t.s, .int .i64 a.t.v] 25)).alloc (.cells #[.int .i64 b.k, .int .i64 b.f.m, .int .i64 b.f.a, .int .i64 b.f.s, .int .i64 b.f.v, .int .i64 b.t.m, .int .i64 b.t.a, .int .i64 b.t.s, .int .i64 b.t.v] 25))
  have X0 := (Non.new w (.int .i64 a.k) (.int .i64 a.f.m) (.int .i64 a.f.a) (.int .i64 a.f.s) (.int .i64 a.f.v) (.int .i64 a.t.m) (.int .i64 a.t.a) (.int .i64 a.t.s) (.int .i64 a.t.v) 25 (w.heap.size) (by simp)).alloc (.cells #[.int .i64 b.k, .int .i64 b.f.m, .int .i64 b.f.a, .int .i64 b.f.s, .int .i64 b.f.v, .int .i64 b.t.m, .int .i64 b.t.a, .int .i64 b.t.s, .int .i64 b.t.v] 25)
  have Y0 := Non.new (w.alloc (.cells #[.int .i64 a.k, .int .i64 a.f.m, .int .i64 a.f.a, .int .i64 a.f.s, .int .i64 a.f.v, .int .i64 a.t.m, .int .i64 a.t.a, .int .i64 a.t.s, .int .i64 a.t.v] 25)) (.int .i64 b.k) (.int .i64 b.f.m) (.int .i64 b.f.a) (.int .i64 b.f.s) (.int .i64 b.f.v) (.int .i64 b.t.m) (.int .i64 b.t.a) (.int .i64 b.t.s) (.int .i64 b.t.v) 25 (w.heap.size + 1) (by simp)
  go_enter Tryd.func20, Tryd.ntmps20
  obtain ⟨xf0, xf1, xf2, xf3, xf4, xf5, xf6, xf7, xf8, xf9, xf10, xf11, xf12, xf13, xf14, xf15, xf16, xf17, xf18⟩ := id X0
  obtain ⟨yf0, yf1, yf2, yf3, yf4, yf5, yf6, yf7, yf8, yf9, yf10, yf11, yf12, yf13, yf14, yf15, yf16, yf17, yf18⟩ := id Y0
  go_wp2_with fail
  clear xf0 xf1 xf2 xf3 xf4 xf5 xf6 xf7 xf8 xf9 xf10 xf11 xf12 xf13 xf14 xf15 xf16 xf17 xf18 yf0 yf1 yf2 yf3 yf4 yf5 yf6 yf7 yf8 yf9 yf10 yf11 yf12 yf13 yf14 yf15 yf16 yf17 yf18
  refine (grouped_at a b true _ hg.out).mono ?_
  rintro e w1 ⟨rfl, hb⟩
  have B1 := Lib.hid (B0.out.up hb)
  have X1 := X0.up hb
  have Y1 := Y0.up hb
  clear hb B0  X0 Y0
  obtain ⟨xf0, xf1, xf2, xf3, xf4, xf5, xf6, xf7, xf8, xf9, xf10, xf11, xf12, xf13, xf14, xf15, xf16, xf17, xf18⟩ := id X1
  obtain ⟨yf0, yf1, yf2, yf3, yf4, yf5, yf6, yf7, yf8, yf9, yf10, yf11, yf12, yf13, yf14, yf15, yf16, yf17, yf18⟩ := id Y1
  go_wp2_with fail
  clear xf0 xf1 xf2 xf3 xf4 xf5 xf6 xf7 xf8 xf9 xf10 xf11 xf12 xf13 xf14 xf15 xf16 xf17 xf18 yf0 yf1 yf2 yf3 yf4 yf5 yf6 yf7 yf8 yf9 yf10 yf11 yf12 yf13 yf14 yf15 yf16 yf17 yf18
  refine (rcompare_at a.t b.f c _ hc.out).mono ?_
  rintro e w2 ⟨rfl, hb⟩
  have B2 := Lib.hid (B1.out.up hb)
  have X2 := X1.up hb
  have Y2 := Y1.up hb
  clear hb B1  X1 Y1
  obtain ⟨xf0, xf1, xf2, xf3, xf4, xf5, xf6, xf7, xf8, xf9, xf10, xf11, xf12, xf13, xf14, xf15, xf16, xf17, xf18⟩ := id X2
  obtain ⟨yf0, yf1, yf2, yf3, yf4, yf5, yf6, yf7, yf8, yf9, yf10, yf11, yf12, yf13, yf14, yf15, yf16, yf17, yf18⟩ := id Y2
  go_wp2_with fail
  clear xf0 xf1 xf2 xf3 xf4 xf5 xf6 xf7 xf8 xf9 xf10 xf11 xf12 xf13 xf14 xf15 xf16 xf17 xf18 yf0 yf1 yf2 yf3 yf4 yf5 yf6 yf7 yf8 yf9 yf10 yf11 yf12 yf13 yf14 yf15 yf16 yf17 yf18
  refine (rcompare_at a.t b.f c _ hc.out).mono ?_
  rintro e w3 ⟨rfl, hb⟩
  have B3 := Lib.hid (B2.out.up hb)
  have X3 := X2.up hb
  have Y3 := Y2.up hb
  clear hb B2  X2 Y2
  obtain ⟨xf0, xf1, xf2, xf3, xf4, xf5, xf6, xf7, xf8, xf9, xf10, xf11, xf12, xf13, xf14, xf15, xf16, xf17, xf18⟩ := id X3
  obtain ⟨yf0, yf1, yf2, yf3, yf4, yf5, yf6, yf7, yf8, yf9, yf10, yf11, yf12, yf13, yf14, yf15, yf16, yf17, yf18⟩ := id Y3
  go_wp2_with fail
  clear xf0 xf1 xf2 xf3 xf4 xf5 xf6 xf7 xf8 xf9 xf10 xf11 xf12 xf13 xf14 xf15 xf16 xf17 xf18 yf0 yf1 yf2 yf3 yf4 yf5 yf6 yf7 yf8 yf9 yf10 yf11 yf12 yf13 yf14 yf15 yf16 yf17 yf18
  refine (rcompare_at b.t a.f d _ hd.out).mono ?_
  rintro e w4 ⟨rfl, hb⟩
  have B4 := Lib.hid (B3.out.up hb)
  have X4 := X3.up hb
  have Y4 := Y3.up hb
  clear hb B3  X3 Y3
  obtain ⟨xf0, xf1, xf2, xf3, xf4, xf5, xf6, xf7, xf8, xf9, xf10, xf11, xf12, xf13, xf14, xf15, xf16, xf17, xf18⟩ := id X4
  obtain ⟨yf0, yf1, yf2, yf3, yf4, yf5, yf6, yf7, yf8, yf9, yf10, yf11, yf12, yf13, yf14, yf15, yf16, yf17, yf18⟩ := id Y4
  go_wp2_with fail
  clear xf0 xf1 xf2 xf3 xf4 xf5 xf6 xf7 xf8 xf9 xf10 xf11 xf12 xf13 xf14 xf15 xf16 xf17 xf18 yf0 yf1 yf2 yf3 yf4 yf5 yf6 yf7 yf8 yf9 yf10 yf11 yf12 yf13 yf14 yf15 yf16 yf17 yf18
  refine (rgroup_at a.k x _ hx.out).mono ?_
  rintro e w5 ⟨rfl, hb⟩
  have B5 := Lib.hid (B4.out.up hb)
  have X5 := X4.up hb
  have Y5 := Y4.up hb
  clear hb B4  X4 Y4
  obtain ⟨xf0, xf1, xf2, xf3, xf4, xf5, xf6, xf7, xf8, xf9, xf10, xf11, xf12, xf13, xf14, xf15, xf16, xf17, xf18⟩ := id X5
  obtain ⟨yf0, yf1, yf2, yf3, yf4, yf5, yf6, yf7, yf8, yf9, yf10, yf11, yf12, yf13, yf14, yf15, yf16, yf17, yf18⟩ := id Y5
  go_wp2_with fail
  clear xf0 xf1 xf2 xf3 xf4 xf5 xf6 xf7 xf8 xf9 xf10 xf11 xf12 xf13 xf14 xf15 xf16 xf17 xf18 yf0 yf1 yf2 yf3 yf4 yf5 yf6 yf7 yf8 yf9 yf10 yf11 yf12 yf13 yf14 yf15 yf16 yf17 yf18
  refine Qt.regionAll (by kernel_rfl) (by kernel_rfl) ?_
  intro T f_ F hne
  have RB := Lib.hid (fun g => B5.out.up (F.below g))
  have RX := fun g => X5.up (F.below g)
  have RX0 := fun g => (RX g).c0
  have RX1 := fun g => (RX g).c1
  have RX2 := fun g => (RX g).c2
  have RX3 := fun g => (RX g).c3
  have RX4 := fun g => (RX g).c4
  have RX5 := fun g => (RX g).c5
  have RX6 := fun g => (RX g).c6
  have RX7 := fun g => (RX g).c7
  have RX8 := fun g => (RX g).c8
  have RY := fun g => Y5.up (F.below g)
  have RY0 := fun g => (RY g).c0
  have RY1 := fun g => (RY g).c1
  have RY2 := fun g => (RY g).c2
  have RY3 := fun g => (RY g).c3
  have RY4 := fun g => (RY g).c4
  have RY5 := fun g => (RY g).c5
  have RY6 := fun g => (RY g).c6
  have RY7 := fun g => (RY g).c7
  have RY8 := fun g => (RY g).c8
  repeat (go_big_quiet_step (fail))
  refine wpQuiet_nil ?_
  rintro _ ⟨gT, rfl⟩
  have B6 := Lib.hid (RB.out gT)
  have X6 := RX gT
  have Y6 := RY gT
  clear F RB hne RX RX0 RX1 RX2 RX3 RX4 RX5 RX6 RX7 RX8 RY RY0 RY1 RY2 RY3 RY4 RY5 RY6 RY7 RY8 B5 X5 Y5
  generalize f_ gT = w6 at *
  clear f_
  obtain ⟨xf0, xf1, xf2, xf3, xf4, xf5, xf6, xf7, xf8, xf9, xf10, xf11, xf12, xf13, xf14, xf15, xf16, xf17, xf18⟩ := id X6
  obtain ⟨yf0, yf1, yf2, yf3, yf4, yf5, yf6, yf7, yf8, yf9, yf10, yf11, yf12, yf13, yf14, yf15, yf16, yf17, yf18⟩ := id Y6
  go_wp2_with fail
  go_ret
  exact ⟨rfl, B6.out.out⟩
set_option maxRecDepth 100000 in
set_option maxHeartbeats 2000000 in
theorem rconf_b3 (a b : Sp) (c d x : Int) (w : World) (hg : rgd a b = true) (hc : cmpP a.t b.f = c) (hd : cmpP b.t a.f = d) (hx : rg a.k = x) (h0 : c = 0) (h1 : d < 0) (h2 : x = 3) :
    Calls Tryd.prog 20 #[.agg #[.int .i64 a.k, .int .i64 a.f.m, .int .i64 a.f.a, .int .i64 a.f.s, .int .i64 a.f.v, .int .i64 a.t.m, .int .i64 a.t.a, .int .i64 a.t.s, .int .i64 a.t.v], .agg #[.int .i64 b.k, .int .i64 b.f.m, .int .i64 b.f.a, .int .i64 b.f.s, .int .i64 b.f.v, .int .i64 b.t.m, .int .i64 b.t.a, .int .i64 b.t.s, .int .i64 b.t.v]] w fun e w' => e = .returned (.bool false) ∧ Below w.heap.size w w' := by
  replace hg := Lib.hid hg
  replace hc := Lib.hid hc
  replace hd := Lib.hid hd
  replace hx := Lib.hid hx
  have q0 : decide (c ≤ 0) = true := decide_eq_true (by omega)
  have q1 : decide (c < 0) = false := decide_eq_false (by omega)
  have q2 : decide (d < 0) = true := decide_eq_true (by omega)
  have z0 : (x == 1) = false := by simp [h2]
  have z1 : (x == 3) = true := by simpa using h2
  clear h0 h1 h2
  have B0 := Lib.hid (((Bel.refl w).alloc (.cells #[.int .i64 a.k, .int .i64 a.f.m, .int .i64 a.f.a, .int .i64 a.f.s, .int .i64 a.f.v, .int .i64 a.t.m, .int .i64 a.t.a, .int .i64 a.t.s, .int .i64 a.t.v] 25)).alloc (.cells #[.int .i64 b.k, .int .i64 b.f.m, .int .i64 b.f.a, .int .i64 b.f.s, .int .i64 b.f.v, .int .i64 b.t.m, .int .i64 b.t.a, .int .i64 b.t.s, .int .i64 b.t.v] 25))
  have X0 := (Non.new w (.int .i64 a.k) (.int .i64 a.f.m) (.int .i64 a.f.a) (.int .i64 a.f.s) (.int .i64 a.f.v) (.int .i64 a.t.m) (.int .i64 a.t.a) (.int .i64 a.t.s) (.int .i64 a.t.v) 25 (w.heap.size) (by simp)).alloc (.cells #[.int .i64 b.k, .int .i64 b.f.m, .int .i64 b.f.a, .int .i64 b.f.s, .int .i64 b.f.v, .int .i64 b.t.m, .int .i64 b.t.a, .int .i64 b.t.s, .int .i64 b.t.v] 25)
  have Y0 := Non.new (w.alloc (.cells #[.int .i64 a.k, .int .i64 a.f.m, .int .i64 a.f.a, .int .i64 a.f.s, .int .i64 a.f.v, .int .i64 a.t.m, .int .i64 a.t.a, .int .i64 a.t.s, .int .i64 a.t.v] 25)) (.int .i64 b.k) (.int .i64 b.f.m) (.int .i64 b.f.a) (.int .i64 b.f.s) (.int .i64 b.f.v) (.int .i64 b.t.m) (.int .i64 b.t.a) (.int .i64 b.t.s) (.int .i64 b.t.v) 25 (w.heap.size + 1) (by simp)
  go_enter Tryd.func20, Tryd.ntmps20
  obtain ⟨xf0, xf1, xf2, xf3, xf4, xf5, xf6, xf7, xf8, xf9, xf10, xf11, xf12, xf13, xf14, xf15, xf16, xf17, xf18⟩ := id X0
  obtain ⟨yf0, yf1, yf2, yf3, yf4, yf5, yf6, yf7, yf8, yf9, yf10, yf11, yf12, yf13, yf14, yf15, yf16, yf17, yf18⟩ := id Y0
  go_wp2_with fail
  clear xf0 xf1 xf2 xf3 xf4 xf5 xf6 xf7 xf8 xf9 xf10 xf11 xf12 xf13 xf14 xf15 xf16 xf17 xf18 yf0 yf1 yf2 yf3 yf4 yf5 yf6 yf7 yf8 yf9 yf10 yf11 yf12 yf13 yf14 yf15 yf16 yf17 yf18
  refine (grouped_at a b true _ hg.out).mono ?_
  rintro e w1 ⟨rfl, hb⟩
  have B1 := Lib.hid (B0.out.up hb)
  have X1 := X0.up hb
  have Y1 := Y0.up hb
  clear hb B0  X0 Y0
  obtain ⟨xf0, xf1, xf2, xf3, xf4, xf5, xf6, xf7, xf8, xf9, xf10, xf11, xf12, xf13, xf14, xf15, xf16, xf17, xf18⟩ := id X1
  obtain ⟨yf0, yf1, yf2, yf3, yf4, yf5, yf6, yf7, yf8, yf9, yf10, yf11, yf12, yf13, yf14, yf15, yf16, yf17, yf18⟩ := id Y1
  go_wp2_with fail
  clear xf0 xf1 xf2 xf3 xf4 xf5 xf6 xf7 xf8 xf9 xf10 xf11 xf12 xf13 xf14 xf15 xf16 xf17 xf18 yf0 yf1 yf2 yf3 yf4 yf5 yf6 yf7 yf8 yf9 yf10 yf11 yf12 yf13 yf14 yf15 yf16 yf17 yf18
  refine (rcompare_at a.t b.f c _ hc.out).mono ?_
  rintro e w2 ⟨rfl, hb⟩
  have B2 := Lib.hid (B1.out.up hb)
  have X2 := X1.up hb
  have Y2 := Y1.up hb
  clear hb B1  X1 Y1
  obtain ⟨xf0, xf1, xf2, xf3, xf4, xf5, xf6, xf7, xf8, xf9, xf10, xf11, xf12, xf13, xf14, xf15, xf16, xf17, xf18⟩ := id X2
  obtain ⟨yf0, yf1, yf2, yf3, yf4, yf5, yf6, yf7, yf8, yf9, yf10, yf11, yf12, yf13, yf14, yf15, yf16, yf17, yf18⟩ := id Y2
  go_wp2_with fail
  clear xf0 xf1 xf2 xf3 xf4 xf5 xf6 xf7 xf8 xf9 xf10 xf11 xf12 xf13 xf14 xf15 xf16 xf17 xf18 yf0 yf1 yf2 yf3 yf4 yf5 yf6 yf7 yf8 yf9 yf10 yf11 yf12 yf13 yf14 yf15 yf16 yf17 yf18
  refine (rcompare_at a.t b.f c _ hc.out).mono ?_
  rintro e w3 ⟨rfl, hb⟩
  have B3 := Lib.hid (B2.out.up hb)
  have X3 := X2.up hb
  have Y3 := Y2.up hb
  clear hb B2  X2 Y2
  obtain ⟨xf0, xf1, xf2, xf3, xf4, xf5, xf6, xf7, xf8, xf9, xf10, xf11, xf12, xf13, xf14, xf15, xf16, xf17, xf18⟩ := id X3
  obtain ⟨yf0, yf1, yf2, yf3, yf4, yf5, yf6, yf7, yf8, yf9, yf10, yf11, yf12, yf13, yf14, yf15, yf16, yf17, yf18⟩ := id Y3
  go_wp2_with fail
  clear xf0 xf1 xf2 xf3 xf4 xf5 xf6 xf7 xf8 xf9 xf10 xf11 xf12 xf13 xf14 xf15 xf16 xf17 xf18 yf0 yf1 yf2 yf3 yf4 yf5 yf6 yf7 yf8 yf9 yf10 yf11 yf12 yf13 yf14 yf15 yf16 yf17 yf18
  refine (rcompare_at b.t a.f d _ hd.out).mono ?_
  rintro e w4 ⟨rfl, hb⟩
  have B4 := Lib.hid (B3.out.up hb)
  have X4 := X3.up hb
  have Y4 := Y3.up hb
  clear hb B3  X3 Y3
  obtain ⟨xf0, xf1, xf2, xf3, xf4, xf5, xf6, xf7, xf8, xf9, xf10, xf11, xf12, xf13, xf14, xf15, xf16, xf17, xf18⟩ := id X4
  obtain ⟨yf0, yf1, yf2, yf3, yf4, yf5, yf6, yf7, yf8, yf9, yf10, yf11, yf12, yf13, yf14, yf15, yf16, yf17, yf18⟩ := id Y4
  go_wp2_with fail
  clear xf0 xf1 xf2 xf3 xf4 xf5 xf6 xf7 xf8 xf9 xf10 xf11 xf12 xf13 xf14 xf15 xf16 xf17 xf18 yf0 yf1 yf2 yf3 yf4 yf5 yf6 yf7 yf8 yf9 yf10 yf11 yf12 yf13 yf14 yf15 yf16 yf17 yf18
  refine (rgroup_at a.k x _ hx.out).mono ?_
  rintro e w5 ⟨rfl, hb⟩
  have B5 := Lib.hid (B4.out.up hb)
  have X5 := X4.up hb
  have Y5 := Y4.up hb
  clear hb B4  X4 Y4
  obtain ⟨xf0, xf1, xf2, xf3, xf4, xf5, xf6, xf7, xf8, xf9, xf10, xf11, xf12, xf13, xf14, xf15, xf16, xf17, xf18⟩ := id X5
  obtain ⟨yf0, yf1, yf2, yf3, yf4, yf5, yf6, yf7, yf8, yf9, yf10, yf11, yf12, yf13, yf14, yf15, yf16, yf17, yf18⟩ := id Y5
  go_wp2_with fail
  go_ret
  exact ⟨rfl, B5.out.out⟩
set_option maxRecDepth 100000 in
set_option maxHeartbeats 2000000 in
theorem rconf_b5 (a b : Sp) (c d x : Int) (w : World) (hg : rgd a b = true) (hc : cmpP a.t b.f = c) (hd : cmpP b.t a.f = d) (hx : rg a.k = x) (h0 : c = 0) (h1 : d < 0) (h2 : x = 5) :
    Calls Tryd.prog 20 #[.agg #[.int .i64 a.k, .int .i64 a.f.m, .int .i64 a.f.a, .int .i64 a.f.s, .int .i64 a.f.v, .int .i64 a.t.m, .int .i64 a.t.a, .int .i64 a.t.s, .int .i64 a.t.v], .agg #[.int .i64 b.k, .int .i64 b.f.m, .int .i64 b.f.a, .int .i64 b.f.s, .int .i64 b.f.v, .int .i64 b.t.m, .int .i64 b.t.a, .int .i64 b.t.s, .int .i64 b.t.v]] w fun e w' => e = .returned (.bool false) ∧ Below w.heap.size w w' := by
  replace hg := Lib.hid hg
  replace hc := Lib.hid hc
  replace hd := Lib.hid hd
  replace hx := Lib.hid hx
  have q0 : decide (c ≤ 0) = true := decide_eq_true (by omega)
  have q1 : decide (c < 0) = false := decide_eq_false (by omega)
  have q2 : decide (d < 0) = true := decide_eq_true (by omega)
  have z0 : (x == 1) = false := by simp [h2]
  have z1 : (x == 3) = false := by simp [h2]
  have z2 : (x == 5) = true := by simpa using h2
  clear h0 h1 h2
  have B0 := Lib.hid (((Bel.refl w).alloc (.cells #[.int .i64 a.k, .int .i64 a.f.m, .int .i64 a.f.a, .int .i64 a.f.s, .int .i64 a.f.v, .int .i64 a.t.m, .int .i64 a.t.a, .int .i64 a.t.s, .int .i64 a.t.v] 25)).alloc (.cells #[.int .i64 b.k, .int .i64 b.f.m, .int .i64 b.f.a, .int .i64 b.f.s, .int .i64 b.f.v, .int .i64 b.t.m, .int .i64 b.t.a, .int .i64 b.t.s, .int .i64 b.t.v] 25))
  have X0 := (Non.new w (.int .i64 a.k) (.int .i64 a.f.m) (.int .i64 a.f.a) (.int .i64 a.f.s) (.int .i64 a.f.v) (.int .i64 a.t.m) (.int .i64 a.t.a) (.int .i64 a.t.s) (.int .i64 a.t.v) 25 (w.heap.size) (by simp)).alloc (.cells #[.int .i64 b.k, .int .i64 b.f.m, .int .i64 b.f.a, .int .i64 b.f.s, .int .i64 b.f.v, .int .i64 b.t.m, .int .i64 b.t.a, .int .i64 b.t.s, .int .i64 b.t.v] 25)
  have Y0 := Non.new (w.alloc (.cells #[.int .i64 a.k, .int .i64 a.f.m, .int .i64 a.f.a, .int .i64 a.f.s, .int .i64 a.f.v, .int .i64 a.t.m, .int .i64 a.t.a, .int .i64 a.t.s, .int .i64 a.t.v] 25)) (.int .i64 b.k) (.int .i64 b.f.m) (.int .i64 b.f.a) (.int .i64 b.f.s) (.int .i64 b.f.v) (.int .i64 b.t.m) (.int .i64 b.t.a) (.int .i64 b.t.s) (.int .i64 b.t.v) 25 (w.heap.size + 1) (by simp)
  go_enter Tryd.func20, Tryd.ntmps20
  obtain ⟨xf0, xf1, xf2, xf3, xf4, xf5, xf6, xf7, xf8, xf9, xf10, xf11, xf12, xf13, xf14, xf15, xf16, xf17, xf18⟩ := id X0
  obtain ⟨yf0, yf1, yf2, yf3, yf4, yf5, yf6, yf7, yf8, yf9, yf10, yf11, yf12, yf13, yf14, yf15, yf16, yf17, yf18⟩ := id Y0
  go_wp2_with fail
  clear xf0 xf1 xf2 xf3 xf4 xf5 xf6 xf7 xf8 xf9 xf10 xf11 xf12 xf13 xf14 xf15 xf16 xf17 xf18 yf0 yf1 yf2 yf3 yf4 yf5 yf6 yf7 yf8 yf9 yf10 yf11 yf12 yf13 yf14 yf15 yf16 yf17 yf18
  refine (grouped_at a b true _ hg.out).mono ?_
  rintro e w1 ⟨rfl, hb⟩
  have B1 := Lib.hid (B0.out.up hb)
  have X1 := X0.up hb
  have Y1 := Y0.up hb
  clear hb B0  X0 Y0
  obtain ⟨xf0, xf1, xf2, xf3, xf4, xf5, xf6, xf7, xf8, xf9, xf10, xf11, xf12, xf13, xf14, xf15, xf16, xf17, xf18⟩ := id X1
  obtain ⟨yf0, yf1, yf2, yf3, yf4, yf5, yf6, yf7, yf8, yf9, yf10, yf11, yf12, yf13, yf14, yf15, yf16, yf17, yf18⟩ := id Y1
  go_wp2_with fail
  clear xf0 xf1 xf2 xf3 xf4 xf5 xf6 xf7 xf8 xf9 xf10 xf11 xf12 xf13 xf14 xf15 xf16 xf17 xf18 yf0 yf1 yf2 yf3 yf4 yf5 yf6 yf7 yf8 yf9 yf10 yf11 yf12 yf13 yf14 yf15 yf16 yf17 yf18
  refine (rcompare_at a.t b.f c _ hc.out).mono ?_
  rintro e w2 ⟨rfl, hb⟩
  have B2 := Lib.hid (B1.out.up hb)
  have X2 := X1.up hb
  have Y2 := Y1.up hb
  clear hb B1  X1 Y1
  obtain ⟨xf0, xf1, xf2, xf3, xf4, xf5, xf6, xf7, xf8, xf9, xf10, xf11, xf12, xf13, xf14, xf15, xf16, xf17, xf18⟩ := id X2
  obtain ⟨yf0, yf1, yf2, yf3, yf4, yf5, yf6, yf7, yf8, yf9, yf10, yf11, yf12, yf13, yf14, yf15, yf16, yf17, yf18⟩ := id Y2
  go_wp2_with fail
  clear xf0 xf1 xf2 xf3 xf4 xf5 xf6 xf7 xf8 xf9 xf10 xf11 xf12 xf13 xf14 xf15 xf16 xf17 xf18 yf0 yf1 yf2 yf3 yf4 yf5 yf6 yf7 yf8 yf9 yf10 yf11 yf12 yf13 yf14 yf15 yf16 yf17 yf18
  refine (rcompare_at a.t b.f c _ hc.out).mono ?_
  rintro e w3 ⟨rfl, hb⟩
  have B3 := Lib.hid (B2.out.up hb)
  have X3 := X2.up hb
  have Y3 := Y2.up hb
  clear hb B2  X2 Y2
  obtain ⟨xf0, xf1, xf2, xf3, xf4, xf5, xf6, xf7, xf8, xf9, xf10, xf11, xf12, xf13, xf14, xf15, xf16, xf17, xf18⟩ := id X3
  obtain ⟨yf0, yf1, yf2, yf3, yf4, yf5, yf6, yf7, yf8, yf9, yf10, yf11, yf12, yf13, yf14, yf15, yf16, yf17, yf18⟩ := id Y3
  go_wp2_with fail
  clear xf0 xf1 xf2 xf3 xf4 xf5 xf6 xf7 xf8 xf9 xf10 xf11 xf12 xf13 xf14 xf15 xf16 xf17 xf18 yf0 yf1 yf2 yf3 yf4 yf5 yf6 yf7 yf8 yf9 yf10 yf11 yf12 yf13 yf14 yf15 yf16 yf17 yf18
  refine (rcompare_at b.t a.f d _ hd.out).mono ?_
  rintro e w4 ⟨rfl, hb⟩
  have B4 := Lib.hid (B3.out.up hb)
  have X4 := X3.up hb
  have Y4 := Y3.up hb
  clear hb B3  X3 Y3
  obtain ⟨xf0, xf1, xf2, xf3, xf4, xf5, xf6, xf7, xf8, xf9, xf10, xf11, xf12, xf13, xf14, xf15, xf16, xf17, xf18⟩ := id X4
  obtain ⟨yf0, yf1, yf2, yf3, yf4, yf5, yf6, yf7, yf8, yf9, yf10, yf11, yf12, yf13, yf14, yf15, yf16, yf17, yf18⟩ := id Y4
  go_wp2_with fail
  clear xf0 xf1 xf2 xf3 xf4 xf5 xf6 xf7 xf8 xf9 xf10 xf11 xf12 xf13 xf14 xf15 xf16 xf17 xf18 yf0 yf1 yf2 yf3 yf4 yf5 yf6 yf7 yf8 yf9 yf10 yf11 yf12 yf13 yf14 yf15 yf16 yf17 yf18
  refine (rgroup_at a.k x _ hx.out).mono ?_
  rintro e w5 ⟨rfl, hb⟩
  have B5 := Lib.hid (B4.out.up hb)
  have X5 := X4.up hb
  have Y5 := Y4.up hb
  clear hb B4  X4 Y4
  obtain ⟨xf0, xf1, xf2, xf3, xf4, xf5, xf6, xf7, xf8, xf9, xf10, xf11, xf12, xf13, xf14, xf15, xf16, xf17, xf18⟩ := id X5
  obtain ⟨yf0, yf1, yf2, yf3, yf4, yf5, yf6, yf7, yf8, yf9, yf10, yf11, yf12, yf13, yf14, yf15, yf16, yf17, yf18⟩ := id Y5
  go_wp2_with fail
  go_ret
  exact ⟨rfl, B5.out.out⟩
set_option maxRecDepth 100000 in
set_option maxHeartbeats 2000000 in
theorem rconf_bo (a b : Sp) (c d x : Int) (w : World) (hg : rgd a b = true) (hc : cmpP a.t b.f = c) (hd : cmpP b.t a.f = d) (hx : rg a.k = x) (h0 : c = 0) (h1 : d < 0) (h2 : x ≠ 1) (h3 : x ≠ 3) (h4 : x ≠ 5) :
    Calls Tryd.prog 20 #[.agg #[.int .i64 a.k, .int .i64 a.f.m, .int .i64 a.f.a, .int .i64 a.f.s, .int .i64 a.f.v, .int .i64 a.t.m, .int .i64 a.t.a, .int .i64 a.t.s, .int .i64 a.t.v], .agg #[.int .i64 b.k, .int .i64 b.f.m, .int .i64 b.f.a, .int .i64 b.f.s, .int .i64 b.f.v, .int .i64 b.t.m, .int .i64 b.t.a, .int .i64 b.t.s, .int .i64 b.t.v]] w fun e w' => e = .returned (.bool false) ∧ Below w.heap.size w w' := by
  replace hg := Lib.hid hg
  replace hc := Lib.hid hc
  replace hd := Lib.hid hd
  replace hx := Lib.hid hx
  have q0 : decide (c ≤ 0) = true := decide_eq_true (by omega)
  have q1 : decide (c < 0) = false := decide_eq_false (by omega)
  have q2 : decide (d < 0) = true := decide_eq_true (by omega)
  have z0 : (x == 1) = false := by simpa using h2
  have z1 : (x == 3) = false := by simpa using h3
  have z2 : (x == 5) = false := by simpa using h4
  clear h0 h1 h2 h3 h4
  have B0 := Lib.hid (((Bel.refl w).alloc (.cells #[.int .i64 a.k, .int .i64 a.f.m, .int .i64 a.f.a, .int .i64 a.f.s, .int .i64 a.f.v, .int .i64 a.t.m, .int .i64 a.t.a, .int .i64 a.t.s, .int .i64 a.t.v] 25)).alloc (.cells #[.int .i64 b.k, .int .i64 b.f.m, .int .i64 b.f.a, .int .i64 b.f.s, .int .i64 b.f.v, .int .i64 b.t.m, .int .i64 b.t.a, .int .i64 b.t.s, .int .i64 b.t.v] 25))
  have X0 := (Non.new w (.int .i64 a.k) (.int .i64 a.f.m) (.int .i64 a.f.a) (.int .i64 a.f.s) (.int .i64 a.f.v) (.int .i64 a.t.m) (.int .i64 a.t.a) (.int .i64 a.t.s) (.int .i64 a.t.v) 25 (w.heap.size) (by simp)).alloc (.cells #[.int .i64 b.k, .int .i64 b.f.m, .int .i64 b.f.a, .int .i64 b.f.s, .int .i64 b.f.v, .int .i64 b.t.m, .int .i64 b.t.a, .int .i64 b.t.s, .int .i64 b.t.v] 25)
  have Y0 := Non.new (w.alloc (.cells #[.int .i64 a.k, .int .i64 a.f.m, .int .i64 a.f.a, .int .i64 a.f.s, .int .i64 a.f.v, .int .i64 a.t.m, .int .i64 a.t.a, .int .i64 a.t.s, .int .i64 a.t.v] 25)) (.int .i64 b.k) (.int .i64 b.f.m) (.int .i64 b.f.a) (.int .i64 b.f.s) (.int .i64 b.f.v) (.int .i64 b.t.m) (.int .i64 b.t.a) (.int .i64 b.t.s) (.int .i64 b.t.v) 25 (w.heap.size + 1) (by simp)
  go_enter Tryd.func20, Tryd.ntmps20
  obtain ⟨xf0, xf1, xf2, xf3, xf4, xf5, xf6, xf7, xf8, xf9, xf10, xf11, xf12, xf13, xf14, xf15, xf16, xf17, xf18⟩ := id X0
  obtain ⟨yf0, yf1, yf2, yf3, yf4, yf5, yf6, yf7, yf8, yf9, yf10, yf11, yf12, yf13, yf14, yf15, yf16, yf17, yf18⟩ := id Y0
  go_wp2_with fail
  clear xf0 xf1 xf2 xf3 xf4 xf5 xf6 xf7 xf8 xf9 xf10 xf11 xf12 xf13 xf14 xf15 xf16 xf17 xf18 yf0 yf1 yf2 yf3 yf4 yf5 yf6 yf7 yf8 yf9 yf10 yf11 yf12 yf13 yf14 yf15 yf16 yf17 yf18
  refine (grouped_at a b true _ hg.out).mono ?_
  rintro e w1 ⟨rfl, hb⟩
  have B1 := Lib.hid (B0.out.up hb)
  have X1 := X0.up hb
  have Y1 := Y0.up hb
  clear hb B0  X0 Y0
  obtain ⟨xf0, xf1, xf2, xf3, xf4, xf5, xf6, xf7, xf8, xf9, xf10, xf11, xf12, xf13, xf14, xf15, xf16, xf17, xf18⟩ := id X1
  obtain ⟨yf0, yf1, yf2, yf3, yf4, yf5, yf6, yf7, yf8, yf9, yf10, yf11, yf12, yf13, yf14, yf15, yf16, yf17, yf18⟩ := id Y1
  go_wp2_with fail
  clear xf0 xf1 xf2 xf3 xf4 xf5 xf6 xf7 xf8 xf9 xf10 xf11 xf12 xf13 xf14 xf15 xf16 xf17 xf18 yf0 yf1 yf2 yf3 yf4 yf5 yf6 yf7 yf8 yf9 yf10 yf11 yf12 yf13 yf14 yf15 yf16 yf17 yf18
  refine (rcompare_at a.t b.f c _ hc.out).mono ?_
  rintro e w2 ⟨rfl, hb⟩
  have B2 := Lib.hid (B1.out.up hb)
  have X2 := X1.up hb
  have Y2 := Y1.up hb
  clear hb B1  X1 Y1
  obtain ⟨xf0, xf1, xf2, xf3, xf4, xf5, xf6, xf7, xf8, xf9, xf10, xf11, xf12, xf13, xf14, xf15, xf16, xf17, xf18⟩ := id X2
  obtain ⟨yf0, yf1, yf2, yf3, yf4, yf5, yf6, yf7, yf8, yf9, yf10, yf11, yf12, yf13, yf14, yf15, yf16, yf17, yf18⟩ := id Y2
  go_wp2_with fail
  clear xf0 xf1 xf2 xf3 xf4 xf5 xf6 xf7 xf8 xf9 xf10 xf11 xf12 xf13 xf14 xf15 xf16 xf17 xf18 yf0 yf1 yf2 yf3 yf4 yf5 yf6 yf7 yf8 yf9 yf10 yf11 yf12 yf13 yf14 yf15 yf16 yf17 yf18
  refine (rcompare_at a.t b.f c _ hc.out).mono ?_
  rintro e w3 ⟨rfl, hb⟩
  have B3 := Lib.hid (B2.out.up hb)
  have X3 := X2.up hb
  have Y3 := Y2.up hb
  clear hb B2  X2 Y2
  obtain ⟨xf0, xf1, xf2, xf3, xf4, xf5, xf6, xf7, xf8, xf9, xf10, xf11, xf12, xf13, xf14, xf15, xf16, xf17, xf18⟩ := id X3
  obtain ⟨yf0, yf1, yf2, yf3, yf4, yf5, yf6, yf7, yf8, yf9, yf10, yf11, yf12, yf13, yf14, yf15, yf16, yf17, yf18⟩ := id Y3
  go_wp2_with fail
  clear xf0 xf1 xf2 xf3 xf4 xf5 xf6 xf7 xf8 xf9 xf10 xf11 xf12 xf13 xf14 xf15 xf16 xf17 xf18 yf0 yf1 yf2 yf3 yf4 yf5 yf6 yf7 yf8 yf9 yf10 yf11 yf12 yf13 yf14 yf15 yf16 yf17 yf18
  refine (rcompare_at b.t a.f d _ hd.out).mono ?_
  rintro e w4 ⟨rfl, hb⟩
  have B4 := Lib.hid (B3.out.up hb)
  have X4 := X3.up hb
  have Y4 := Y3.up hb
  clear hb B3  X3 Y3
  obtain ⟨xf0, xf1, xf2, xf3, xf4, xf5, xf6, xf7, xf8, xf9, xf10, xf11, xf12, xf13, xf14, xf15, xf16, xf17, xf18⟩ := id X4
  obtain ⟨yf0, yf1, yf2, yf3, yf4, yf5, yf6, yf7, yf8, yf9, yf10, yf11, yf12, yf13, yf14, yf15, yf16, yf17, yf18⟩ := id Y4
  go_wp2_with fail
  clear xf0 xf1 xf2 xf3 xf4 xf5 xf6 xf7 xf8 xf9 xf10 xf11 xf12 xf13 xf14 xf15 xf16 xf17 xf18 yf0 yf1 yf2 yf3 yf4 yf5 yf6 yf7 yf8 yf9 yf10 yf11 yf12 yf13 yf14 yf15 yf16 yf17 yf18
  refine (rgroup_at a.k x _ hx.out).mono ?_
  rintro e w5 ⟨rfl, hb⟩
  have B5 := Lib.hid (B4.out.up hb)
  have X5 := X4.up hb
  have Y5 := Y4.up hb
  clear hb B4  X4 Y4
  obtain ⟨xf0, xf1, xf2, xf3, xf4, xf5, xf6, xf7, xf8, xf9, xf10, xf11, xf12, xf13, xf14, xf15, xf16, xf17, xf18⟩ := id X5
  obtain ⟨yf0, yf1, yf2, yf3, yf4, yf5, yf6, yf7, yf8, yf9, yf10, yf11, yf12, yf13, yf14, yf15, yf16, yf17, yf18⟩ := id Y5
  go_wp2_with fail
  go_ret
  exact ⟨rfl, B5.out.out⟩
set_option maxRecDepth 100000 in
set_option maxHeartbeats 2000000 in
theorem rconf_c1 (a b : Sp) (c d x : Int) (w : World) (hg : rgd a b = true) (hc : cmpP a.t b.f = c) (hd : cmpP b.t a.f = d) (hx : rg a.k = x) (h0 : c = 0) (h1 : ¬ d < 0) (h2 : x = 1) :
    Calls Tryd.prog 20 #[.agg #[.int .i64 a.k, .int .i64 a.f.m, .int .i64 a.f.a, .int .i64 a.f.s, .int .i64 a.f.v, .int .i64 a.t.m, .int .i64 a.t.a, .int .i64 a.t.s, .int .i64 a.t.v], .agg #[.int .i64 b.k, .int .i64 b.f.m, .int .i64 b.f.a, .int .i64 b.f.s, .int .i64 b.f.v, .int .i64 b.t.m, .int .i64 b.t.a, .int .i64 b.t.s, .int .i64 b.t.v]] w fun e w' => e = .returned (.bool false) ∧ Below w.heap.size w w' := by
  replace hg := Lib.hid hg
  replace hc := Lib.hid hc
  replace hd := Lib.hid hd
  replace hx := Lib.hid hx
  have q0 : decide (c ≤ 0) = true := decide_eq_true (by omega)
  have q1 : decide (c < 0) = false := decide_eq_false (by omega)
  have q2 : decide (d < 0) = false := decide_eq_false (by omega)
  have z0 : (x == 1) = true := by simpa using h2
  clear h0 h1 h2
  have B0 := Lib.hid (((Bel.refl w).alloc (.cells #[.int .i64 a.k, .int .i64 a.f.m, .int .i64 a.f.a, .int .i64 a.f.s, .int .i64 a.f.v, .int .i64 a.t.m, .int .i64 a.t.a, .int .i64 a.t.s, .int .i64 a.t.v] 25)).alloc (.cells #[.int .i64 b.k, .int .i64 b.f.m, .int .i64 b.f.a, .int .i64 b.f.s, .int .i64 b.f.v, .int .i64 b.t.m, .int .i64 b.t.a, .int .i64 b.t.s, .int .i64 b.t.v] 25))
  have X0 := (Non.new w (.int .i64 a.k) (.int .i64 a.f.m) (.int .i64 a.f.a) (.int .i64 a.f.s) (.int .i64 a.f.v) (.int .i64 a.t.m) (.int .i64 a.t.a) (.int .i64 a.t.s) (.int .i64 a.t.v) 25 (w.heap.size) (by simp)).alloc (.cells #[.int .i64 b.k, .int .i64 b.f.m, .int .i64 b.f.a, .int .i64 b.f.s, .int .i64 b.f.v, .int .i64 b.t.m, .int .i64 b.t.a, .int .i64 b.t.s, .int .i64 b.t.v] 25)
  have Y0 := Non.new (w.alloc (.cells #[.int .i64 a.k, .int .i64 a.f.m, .int .i64 a.f.a, .int .i64 a.f.s, .int .i64 a.f.v, .int .i64 a.t.m, .int .i64 a.t.a, .int .i64 a.t.s, .int .i64 a.t.v] 25)) (.int .i64 b.k) (.int .i64 b.f.m) (.int .i64 b.f.a) (.int .i64 b.f.s) (.int .i64 b.f.v) (.int .i64 b.t.m) (.int .i64 b.t.a) (.int .i64 b.t.s) (.int .i64 b.t.v) 25 (w.heap.size + 1) (by simp)
  go_enter Tryd.func20, Tryd.ntmps20
  obtain ⟨xf0, xf1, xf2, xf3, xf4, xf5, xf6, xf7, xf8, xf9, xf10, xf11, xf12, xf13, xf14, xf15, xf16, xf17, xf18⟩ := id X0
  obtain ⟨yf0, yf1, yf2, yf3, yf4, yf5, yf6, yf7, yf8, yf9, yf10, yf11, yf12, yf13, yf14, yf15, yf16, yf17, yf18⟩ := id Y0
  go_wp2_with fail
  clear xf0 xf1 xf2 xf3 xf4 xf5 xf6 xf7 xf8 xf9 xf10 xf11 xf12 xf13 xf14 xf15 xf16 xf17 xf18 yf0 yf1 yf2 yf3 yf4 yf5 yf6 yf7 yf8 yf9 yf10 yf11 yf12 yf13 yf14 yf15 yf16 yf17 yf18
  refine (grouped_at a b true _ hg.out).mono ?_
  rintro e w1 ⟨rfl, hb⟩
  have B1 := Lib.hid (B0.out.up hb)
  have X1 := X0.up hb
  have Y1 := Y0.up hb
  clear hb B0  X0 Y0
  obtain ⟨xf0, xf1, xf2, xf3, xf4, xf5, xf6, xf7, xf8, xf9, xf10, xf11, xf12, xf13, xf14, xf15, xf16, xf17, xf18⟩ := id X1
  obtain ⟨yf0, yf1, yf2, yf3, yf4, yf5, yf6, yf7, yf8, yf9, yf10, yf11, yf12, yf13, yf14, yf15, yf16, yf17, yf18⟩ := id Y1
  go_wp2_with fail
  clear xf0 xf1 xf2 xf3 xf4 xf5 xf6 xf7 xf8 xf9 xf10 xf11 xf12 xf13 xf14 xf15 xf16 xf17 xf18 yf0 yf1 yf2 yf3 yf4 yf5 yf6 yf7 yf8 yf9 yf10 yf11 yf12 yf13 yf14 yf15 yf16 yf17 yf18
  refine (rcompare_at a.t b.f c _ hc.out).mono ?_
  rintro e w2 ⟨rfl, hb⟩
  have B2 := Lib.hid (B1.out.up hb)
  have X2 := X1.up hb
  have Y2 := Y1.up hb
  clear hb B1  X1 Y1
  obtain ⟨xf0, xf1, xf2, xf3, xf4, xf5, xf6, xf7, xf8, xf9, xf10, xf11, xf12, xf13, xf14, xf15, xf16, xf17, xf18⟩ := id X2
  obtain ⟨yf0, yf1, yf2, yf3, yf4, yf5, yf6, yf7, yf8, yf9, yf10, yf11, yf12, yf13, yf14, yf15, yf16, yf17, yf18⟩ := id Y2
  go_wp2_with fail
  clear xf0 xf1 xf2 xf3 xf4 xf5 xf6 xf7 xf8 xf9 xf10 xf11 xf12 xf13 xf14 xf15 xf16 xf17 xf18 yf0 yf1 yf2 yf3 yf4 yf5 yf6 yf7 yf8 yf9 yf10 yf11 yf12 yf13 yf14 yf15 yf16 yf17 yf18
  refine (rcompare_at a.t b.f c _ hc.out).mono ?_
  rintro e w3 ⟨rfl, hb⟩
  have B3 := Lib.hid (B2.out.up hb)
  have X3 := X2.up hb
  have Y3 := Y2.up hb
  clear hb B2  X2 Y2
  obtain ⟨xf0, xf1, xf2, xf3, xf4, xf5, xf6, xf7, xf8, xf9, xf10, xf11, xf12, xf13, xf14, xf15, xf16, xf17, xf18⟩ := id X3
  obtain ⟨yf0, yf1, yf2, yf3, yf4, yf5, yf6, yf7, yf8, yf9, yf10, yf11, yf12, yf13, yf14, yf15, yf16, yf17, yf18⟩ := id Y3
  go_wp2_with fail
  clear xf0 xf1 xf2 xf3 xf4 xf5 xf6 xf7 xf8 xf9 xf10 xf11 xf12 xf13 xf14 xf15 xf16 xf17 xf18 yf0 yf1 yf2 yf3 yf4 yf5 yf6 yf7 yf8 yf9 yf10 yf11 yf12 yf13 yf14 yf15 yf16 yf17 yf18
  refine (rcompare_at b.t a.f d _ hd.out).mono ?_
  rintro e w4 ⟨rfl, hb⟩
  have B4 := Lib.hid (B3.out.up hb)
  have X4 := X3.up hb
  have Y4 := Y3.up hb
  clear hb B3  X3 Y3
  obtain ⟨xf0, xf1, xf2, xf3, xf4, xf5, xf6, xf7, xf8, xf9, xf10, xf11, xf12, xf13, xf14, xf15, xf16, xf17, xf18⟩ := id X4
  obtain ⟨yf0, yf1, yf2, yf3, yf4, yf5, yf6, yf7, yf8, yf9, yf10, yf11, yf12, yf13, yf14, yf15, yf16, yf17, yf18⟩ := id Y4
  go_wp2_with fail
  clear xf0 xf1 xf2 xf3 xf4 xf5 xf6 xf7 xf8 xf9 xf10 xf11 xf12 xf13 xf14 xf15 xf16 xf17 xf18 yf0 yf1 yf2 yf3 yf4 yf5 yf6 yf7 yf8 yf9 yf10 yf11 yf12 yf13 yf14 yf15 yf16 yf17 yf18
  refine (rgroup_at a.k x _ hx.out).mono ?_
  rintro e w5 ⟨rfl, hb⟩
  have B5 := Lib.hid (B4.out.up hb)
  have X5 := X4.up hb
  have Y5 := Y4.up hb
  clear hb B4  X4 Y4
  obtain ⟨xf0, xf1, xf2, xf3, xf4, xf5, xf6, xf7, xf8, xf9, xf10, xf11, xf12, xf13, xf14, xf15, xf16, xf17, xf18⟩ := id X5
  obtain ⟨yf0, yf1, yf2, yf3, yf4, yf5, yf6, yf7, yf8, yf9, yf10, yf11, yf12, yf13, yf14, yf15, yf16, yf17, yf18⟩ := id Y5
  go_wp2_with fail
  clear xf0 xf1 xf2 xf3 xf4 xf5 xf6 xf7 xf8 xf9 xf10 xf11 xf12 xf13 xf14 xf15 xf16 xf17 xf18 yf0 yf1 yf2 yf3 yf4 yf5 yf6 yf7 yf8 yf9 yf10 yf11 yf12 yf13 yf14 yf15 yf16 yf17 yf18
  refine Qt.regionAll (by kernel_rfl) (by kernel_rfl) ?_
  intro T f_ F hne
  have RB := Lib.hid (fun g => B5.out.up (F.below g))
  have RX := fun g => X5.up (F.below g)
  have RX0 := fun g => (RX g).c0
  have RX1 := fun g => (RX g).c1
  have RX2 := fun g => (RX g).c2
  have RX3 := fun g => (RX g).c3
  have RX4 := fun g => (RX g).c4
  have RX5 := fun g => (RX g).c5
  have RX6 := fun g => (RX g).c6
  have RX7 := fun g => (RX g).c7
  have RX8 := fun g => (RX g).c8
  have RY := fun g => Y5.up (F.below g)
  have RY0 := fun g => (RY g).c0
  have RY1 := fun g => (RY g).c1
  have RY2 := fun g => (RY g).c2
  have RY3 := fun g => (RY g).c3
  have RY4 := fun g => (RY g).c4
  have RY5 := fun g => (RY g).c5
  have RY6 := fun g => (RY g).c6
  have RY7 := fun g => (RY g).c7
  have RY8 := fun g => (RY g).c8
  repeat (go_big_quiet_step (fail))
  refine wpQuiet_nil ?_
  rintro _ ⟨gT, rfl⟩
  have B6 := Lib.hid (RB.out gT)
  have X6 := RX gT
  have Y6 := RY gT
  clear F RB hne RX RX0 RX1 RX2 RX3 RX4 RX5 RX6 RX7 RX8 RY RY0 RY1 RY2 RY3 RY4 RY5 RY6 RY7 RY8 B5 X5 Y5
  generalize f_ gT = w6 at *
  clear f_
  obtain ⟨xf0, xf1, xf2, xf3, xf4, xf5, xf6, xf7, xf8, xf9, xf10, xf11, xf12, xf13, xf14, xf15, xf16, xf17, xf18⟩ := id X6
  obtain ⟨yf0, yf1, yf2, yf3, yf4, yf5, yf6, yf7, yf8, yf9, yf10, yf11, yf12, yf13, yf14, yf15, yf16, yf17, yf18⟩ := id Y6
  go_wp2_with fail
  go_ret
  exact ⟨rfl, B6.out.out⟩
set_option maxRecDepth 100000 in
set_option maxHeartbeats 2000000 in
theorem rconf_c3 (a b : Sp) (c d x : Int) (w : World) (hg : rgd a b = true) (hc : cmpP a.t b.f = c) (hd : cmpP b.t a.f = d) (hx : rg a.k = x) (h0 : c = 0) (h1 : ¬ d < 0) (h2 : x = 3) :
    Calls Tryd.prog 20 #[.agg #[.int .i64 a.k, .int .i64 a.f.m, .int .i64 a.f.a, .int .i64 a.f.s, .int .i64 a.f.v, .int .i64 a.t.m, .int .i64 a.t.a, .int .i64 a.t.s, .int .i64 a.t.v], .agg #[.int .i64 b.k, .int .i64 b.f.m, .int .i64 b.f.a, .int .i64 b.f.s, .int .i64 b.f.v, .int .i64 b.t.m, .int .i64 b.t.a, .int .i64 b.t.s, .int .i64 b.t.v]] w fun e w' => e = .returned (.bool true) ∧ Below w.heap.size w w' := by
  replace hg := Lib.hid hg
  replace hc := Lib.hid hc
  replace hd := Lib.hid hd
  replace hx := Lib.hid hx
  have q0 : decide (c ≤ 0) = true := decide_eq_true (by omega)
  have q1 : decide (c < 0) = false := decide_eq_false (by omega)
  have q2 : decide (d < 0) = false := decide_eq_false (by omega)
  have z0 : (x == 1) = false := by simp [h2]
  have z1 : (x == 3) = true := by simpa using h2
  clear h0 h1 h2
  have B0 := Lib.hid (((Bel.refl w).alloc (.cells #[.int .i64 a.k, .int .i64 a.f.m, .int .i64 a.f.a, .int .i64 a.f.s, .int .i64 a.f.v, .int .i64 a.t.m, .int .i64 a.t.a, .int .i64 a.t.s, .int .i64 a.t.v] 25)).alloc (.cells #[.int .i64 b.k, .int .i64 b.f.m, .int .i64 b.f.a, .int .i64 b.f.s, .int .i64 b.f.v, .int .i64 b.t.m, .int .i64 b.t.a, .int .i64 b.t.s, .int .i64 b.t.v] 25))
  have X0 := (Non.new w (.int .i64 a.k) (.int .i64 a.f.m) (.int .i64 a.f.a) (.int .i64 a.f.s) (.int .i64 a.f.v) (.int .i64 a.t.m) (.int .i64 a.t.a) (.int .i64 a.t.s) (.int .i64 a.t.v) 25 (w.heap.size) (by simp)).alloc (.cells #[.int .i64 b.k, .int .i64 b.f.m, .int .i64 b.f.a, .int .i64 b.f.s, .int .i64 b.f.v, .int .i64 b.t.m, .int .i64 b.t.a, .int .i64 b.t.s, .int .i64 b.t.v] 25)
  have Y0 := Non.new (w.alloc (.cells #[.int .i64 a.k, .int .i64 a.f.m, .int .i64 a.f.a, .int .i64 a.f.s, .int .i64 a.f.v, .int .i64 a.t.m, .int .i64 a.t.a, .int .i64 a.t.s, .int .i64 a.t.v] 25)) (.int .i64 b.k) (.int .i64 b.f.m) (.int .i64 b.f.a) (.int .i64 b.f.s) (.int .i64 b.f.v) (.int .i64 b.t.m) (.int .i64 b.t.a) (.int .i64 b.t.s) (.int .i64 b.t.v) 25 (w.heap.size + 1) (by simp)
  go_enter Tryd.func20, Tryd.ntmps20
  obtain ⟨xf0, xf1, xf2, xf3, xf4, xf5, xf6, xf7, xf8, xf9, xf10, xf11, xf12, xf13, xf14, xf15, xf16, xf17, xf18⟩ := id X0
  obtain ⟨yf0, yf1, yf2, yf3, yf4, yf5, yf6, yf7, yf8, yf9, yf10, yf11, yf12, yf13, yf14, yf15, yf16, yf17, yf18⟩ := id Y0
  go_wp2_with fail
  clear xf0 xf1 xf2 xf3 xf4 xf5 xf6 xf7 xf8 xf9 xf10 xf11 xf12 xf13 xf14 xf15 xf16 xf17 xf18 yf0 yf1 yf2 yf3 yf4 yf5 yf6 yf7 yf8 yf9 yf10 yf11 yf12 yf13 yf14 yf15 yf16 yf17 yf18
  refine (grouped_at a b true _ hg.out).mono ?_
  rintro e w1 ⟨rfl, hb⟩
  have B1 := Lib.hid (B0.out.up hb)
  have X1 := X0.up hb
  have Y1 := Y0.up hb
  clear hb B0  X0 Y0
  obtain ⟨xf0, xf1, xf2, xf3, xf4, xf5, xf6, xf7, xf8, xf9, xf10, xf11, xf12, xf13, xf14, xf15, xf16, xf17, xf18⟩ := id X1
  obtain ⟨yf0, yf1, yf2, yf3, yf4, yf5, yf6, yf7, yf8, yf9, yf10, yf11, yf12, yf13, yf14, yf15, yf16, yf17, yf18⟩ := id Y1
  go_wp2_with fail
  clear xf0 xf1 xf2 xf3 xf4 xf5 xf6 xf7 xf8 xf9 xf10 xf11 xf12 xf13 xf14 xf15 xf16 xf17 xf18 yf0 yf1 yf2 yf3 yf4 yf5 yf6 yf7 yf8 yf9 yf10 yf11 yf12 yf13 yf14 yf15 yf16 yf17 yf18
  refine (rcompare_at a.t b.f c _ hc.out).mono ?_
  rintro e w2 ⟨rfl, hb⟩
  have B2 := Lib.hid (B1.out.up hb)
  have X2 := X1.up hb
  have Y2 := Y1.up hb
  clear hb B1  X1 Y1
  obtain ⟨xf0, xf1, xf2, xf3, xf4, xf5, xf6, xf7, xf8, xf9, xf10, xf11, xf12, xf13, xf14, xf15, xf16, xf17, xf18⟩ := id X2
  obtain ⟨yf0, yf1, yf2, yf3, yf4, yf5, yf6, yf7, yf8, yf9, yf10, yf11, yf12, yf13, yf14, yf15, yf16, yf17, yf18⟩ := id Y2
  go_wp2_with fail
  clear xf0 xf1 xf2 xf3 xf4 xf5 xf6 xf7 xf8 xf9 xf10 xf11 xf12 xf13 xf14 xf15 xf16 xf17 xf18 yf0 yf1 yf2 yf3 yf4 yf5 yf6 yf7 yf8 yf9 yf10 yf11 yf12 yf13 yf14 yf15 yf16 yf17 yf18
  refine (rcompare_at a.t b.f c _ hc.out).mono ?_
  rintro e w3 ⟨rfl, hb⟩
  have B3 := Lib.hid (B2.out.up hb)
  have X3 := X2.up hb
  have Y3 := Y2.up hb
  clear hb B2  X2 Y2
  obtain ⟨xf0, xf1, xf2, xf3, xf4, xf5, xf6, xf7, xf8, xf9, xf10, xf11, xf12, xf13, xf14, xf15, xf16, xf17, xf18⟩ := id X3
  obtain ⟨yf0, yf1, yf2, yf3, yf4, yf5, yf6, yf7, yf8, yf9, yf10, yf11, yf12, yf13, yf14, yf15, yf16, yf17, yf18⟩ := id Y3
  go_wp2_with fail
  clear xf0 xf1 xf2 xf3 xf4 xf5 xf6 xf7 xf8 xf9 xf10 xf11 xf12 xf13 xf14 xf15 xf16 xf17 xf18 yf0 yf1 yf2 yf3 yf4 yf5 yf6 yf7 yf8 yf9 yf10 yf11 yf12 yf13 yf14 yf15 yf16 yf17 yf18
  refine (rcompare_at b.t a.f d _ hd.out).mono ?_
  rintro e w4 ⟨rfl, hb⟩
  have B4 := Lib.hid (B3.out.up hb)
  have X4 := X3.up hb
  have Y4 := Y3.up hb
  clear hb B3  X3 Y3
  obtain ⟨xf0, xf1, xf2, xf3, xf4, xf5, xf6, xf7, xf8, xf9, xf10, xf11, xf12, xf13, xf14, xf15, xf16, xf17, xf18⟩ := id X4
  obtain ⟨yf0, yf1, yf2, yf3, yf4, yf5, yf6, yf7, yf8, yf9, yf10, yf11, yf12, yf13, yf14, yf15, yf16, yf17, yf18⟩ := id Y4
  go_wp2_with fail
  clear xf0 xf1 xf2 xf3 xf4 xf5 xf6 xf7 xf8 xf9 xf10 xf11 xf12 xf13 xf14 xf15 xf16 xf17 xf18 yf0 yf1 yf2 yf3 yf4 yf5 yf6 yf7 yf8 yf9 yf10 yf11 yf12 yf13 yf14 yf15 yf16 yf17 yf18
  refine (rgroup_at a.k x _ hx.out).mono ?_
  rintro e w5 ⟨rfl, hb⟩
  have B5 := Lib.hid (B4.out.up hb)
  have X5 := X4.up hb
  have Y5 := Y4.up hb
  clear hb B4  X4 Y4
  obtain ⟨xf0, xf1, xf2, xf3, xf4, xf5, xf6, xf7, xf8, xf9, xf10, xf11, xf12, xf13, xf14, xf15, xf16, xf17, xf18⟩ := id X5
  obtain ⟨yf0, yf1, yf2, yf3, yf4, yf5, yf6, yf7, yf8, yf9, yf10, yf11, yf12, yf13, yf14, yf15, yf16, yf17, yf18⟩ := id Y5
  go_wp2_with fail
  go_ret
  exact ⟨rfl, B5.out.out⟩
set_option maxRecDepth 100000 in
set_option maxHeartbeats 2000000 in
theorem rconf_c5 (a b : Sp) (c d x : Int) (w : World) (hg : rgd a b = true) (hc : cmpP a.t b.f = c) (hd : cmpP b.t a.f = d) (hx : rg a.k = x) (h0 : c = 0) (h1 : ¬ d < 0) (h2 : x = 5) :
    Calls Tryd.prog 20 #[.agg #[.int .i64 a.k, .int .i64 a.f.m, .int .i64 a.f.a, .int .i64 a.f.s, .int .i64 a.f.v, .int .i64 a.t.m, .int .i64 a.t.a, .int .i64 a.t.s, .int .i64 a.t.v], .agg #[.int .i64 b.k, .int .i64 b.f.m, .int .i64 b.f.a, .int .i64 b.f.s, .int .i64 b.f.v, .int .i64 b.t.m, .int .i64 b.t.a, .int .i64 b.t.s, .int .i64 b.t.v]] w fun e w' => e = .returned (.bool true) ∧ Below w.heap.size w w' := by
  replace hg := Lib.hid hg
  replace hc := Lib.hid hc
  replace hd := Lib.hid hd
  replace hx := Lib.hid hx
  have q0 : decide (c ≤ 0) = true := decide_eq_true (by omega)
  have q1 : decide (c < 0) = false := decide_eq_false (by omega)
  have q2 : decide (d < 0) = false := decide_eq_false (by omega)
  have z0 : (x == 1) = false := by simp [h2]
  have z1 : (x == 3) = false := by simp [h2]
  have z2 : (x == 5) = true := by simpa using h2
  clear h0 h1 h2
  have B0 := Lib.hid (((Bel.refl w).alloc (.cells #[.int .i64 a.k, .int .i64 a.f.m, .int .i64 a.f.a, .int .i64 a.f.s, .int .i64 a.f.v, .int .i64 a.t.m, .int .i64 a.t.a, .int .i64 a.t.s, .int .i64 a.t.v] 25)).alloc (.cells #[.int .i64 b.k, .int .i64 b.f.m, .int .i64 b.f.a, .int .i64 b.f.s, .int .i64 b.f.v, .int .i64 b.t.m, .int .i64 b.t.a, .int .i64 b.t.s, .int .i64 b.t.v] 25))
  have X0 := (Non.new w (.int .i64 a.k) (.int .i64 a.f.m) (.int .i64 a.f.a) (.int .i64 a.f.s) (.int .i64 a.f.v) (.int .i64 a.t.m) (.int .i64 a.t.a) (.int .i64 a.t.s) (.int .i64 a.t.v) 25 (w.heap.size) (by simp)).alloc (.cells #[.int .i64 b.k, .int .i64 b.f.m, .int .i64 b.f.a, .int .i64 b.f.s, .int .i64 b.f.v, .int .i64 b.t.m, .int .i64 b.t.a, .int .i64 b.t.s, .int .i64 b.t.v] 25)
  have Y0 := Non.new (w.alloc (.cells #[.int .i64 a.k, .int .i64 a.f.m, .int .i64 a.f.a, .int .i64 a.f.s, .int .i64 a.f.v, .int .i64 a.t.m, .int .i64 a.t.a, .int .i64 a.t.s, .int .i64 a.t.v] 25)) (.int .i64 b.k) (.int .i64 b.f.m) (.int .i64 b.f.a) (.int .i64 b.f.s) (.int .i64 b.f.v) (.int .i64 b.t.m) (.int .i64 b.t.a) (.int .i64 b.t.s) (.int .i64 b.t.v) 25 (w.heap.size + 1) (by simp)
  go_enter Tryd.func20, Tryd.ntmps20
  obtain ⟨xf0, xf1, xf2, xf3, xf4, xf5, xf6, xf7, xf8, xf9, xf10, xf11, xf12, xf13, xf14, xf15, xf16, xf17, xf18⟩ := id X0
  obtain ⟨yf0, yf1, yf2, yf3, yf4, yf5, yf6, yf7, yf8, yf9, yf10, yf11, yf12, yf13, yf14, yf15, yf16, yf17, yf18⟩ := id Y0
  go_wp2_with fail
  clear xf0 xf1 xf2 xf3 xf4 xf5 xf6 xf7 xf8 xf9 xf10 xf11 xf12 xf13 xf14 xf15 xf16 xf17 xf18 yf0 yf1 yf2 yf3 yf4 yf5 yf6 yf7 yf8 yf9 yf10 yf11 yf12 yf13 yf14 yf15 yf16 yf17 yf18
  refine (grouped_at a b true _ hg.out).mono ?_
  rintro e w1 ⟨rfl, hb⟩
  have B1 := Lib.hid (B0.out.up hb)
  have X1 := X0.up hb
  have Y1 := Y0.up hb
  clear hb B0  X0 Y0
  obtain ⟨xf0, xf1, xf2, xf3, xf4, xf5, xf6, xf7, xf8, xf9, xf10, xf11, xf12, xf13, xf14, xf15, xf16, xf17, xf18⟩ := id X1
  obtain ⟨yf0, yf1, yf2, yf3, yf4, yf5, yf6, yf7, yf8, yf9, yf10, yf11, yf12, yf13, yf14, yf15, yf16, yf17, yf18⟩ := id Y1
  go_wp2_with fail
  clear xf0 xf1 xf2 xf3 xf4 xf5 xf6 xf7 xf8 xf9 xf10 xf11 xf12 xf13 xf14 xf15 xf16 xf17 xf18 yf0 yf1 yf2 yf3 yf4 yf5 yf6 yf7 yf8 yf9 yf10 yf11 yf12 yf13 yf14 yf15 yf16 yf17 yf18
  refine (rcompare_at a.t b.f c _ hc.out).mono ?_
  rintro e w2 ⟨rfl, hb⟩
  have B2 := Lib.hid (B1.out.up hb)
  have X2 := X1.up hb
  have Y2 := Y1.up hb
  clear hb B1  X1 Y1
  obtain ⟨xf0, xf1, xf2, xf3, xf4, xf5, xf6, xf7, xf8, xf9, xf10, xf11, xf12, xf13, xf14, xf15, xf16, xf17, xf18⟩ := id X2
  obtain ⟨yf0, yf1, yf2, yf3, yf4, yf5, yf6, yf7, yf8, yf9, yf10, yf11, yf12, yf13, yf14, yf15, yf16, yf17, yf18⟩ := id Y2
  go_wp2_with fail
  clear xf0 xf1 xf2 xf3 xf4 xf5 xf6 xf7 xf8 xf9 xf10 xf11 xf12 xf13 xf14 xf15 xf16 xf17 xf18 yf0 yf1 yf2 yf3 yf4 yf5 yf6 yf7 yf8 yf9 yf10 yf11 yf12 yf13 yf14 yf15 yf16 yf17 yf18
  refine (rcompare_at a.t b.f c _ hc.out).mono ?_
  rintro e w3 ⟨rfl, hb⟩
  have B3 := Lib.hid (B2.out.up hb)
  have X3 := X2.up hb
  have Y3 := Y2.up hb
  clear hb B2  X2 Y2
  obtain ⟨xf0, xf1, xf2, xf3, xf4, xf5, xf6, xf7, xf8, xf9, xf10, xf11, xf12, xf13, xf14, xf15, xf16, xf17, xf18⟩ := id X3
  obtain ⟨yf0, yf1, yf2, yf3, yf4, yf5, yf6, yf7, yf8, yf9, yf10, yf11, yf12, yf13, yf14, yf15, yf16, yf17, yf18⟩ := id Y3
  go_wp2_with fail
  clear xf0 xf1 xf2 xf3 xf4 xf5 xf6 xf7 xf8 xf9 xf10 xf11 xf12 xf13 xf14 xf15 xf16 xf17 xf18 yf0 yf1 yf2 yf3 yf4 yf5 yf6 yf7 yf8 yf9 yf10 yf11 yf12 yf13 yf14 yf15 yf16 yf17 yf18
  refine (rcompare_at b.t a.f d _ hd.out).mono ?_
  rintro e w4 ⟨rfl, hb⟩
  have B4 := Lib.hid (B3.out.up hb)
  have X4 := X3.up hb
  have Y4 := Y3.up hb
  clear hb B3  X3 Y3
  obtain ⟨xf0, xf1, xf2, xf3, xf4, xf5, xf6, xf7, xf8, xf9, xf10, xf11, xf12, xf13, xf14, xf15, xf16, xf17, xf18⟩ := id X4
  obtain ⟨yf0, yf1, yf2, yf3, yf4, yf5, yf6, yf7, yf8, yf9, yf10, yf11, yf12, yf13, yf14, yf15, yf16, yf17, yf18⟩ := id Y4
  go_wp2_with fail
  clear xf0 xf1 xf2 xf3 xf4 xf5 xf6 xf7 xf8 xf9 xf10 xf11 xf12 xf13 xf14 xf15 xf16 xf17 xf18 yf0 yf1 yf2 yf3 yf4 yf5 yf6 yf7 yf8 yf9 yf10 yf11 yf12 yf13 yf14 yf15 yf16 yf17 yf18
  refine (rgroup_at a.k x _ hx.out).mono ?_
  rintro e w5 ⟨rfl, hb⟩
  have B5 := Lib.hid (B4.out.up hb)
  have X5 := X4.up hb
  have Y5 := Y4.up hb
  clear hb B4  X4 Y4
  obtain ⟨xf0, xf1, xf2, xf3, xf4, xf5, xf6, xf7, xf8, xf9, xf10, xf11, xf12, xf13, xf14, xf15, xf16, xf17, xf18⟩ := id X5
  obtain ⟨yf0, yf1, yf2, yf3, yf4, yf5, yf6, yf7, yf8, yf9, yf10, yf11, yf12, yf13, yf14, yf15, yf16, yf17, yf18⟩ := id Y5
  go_wp2_with fail
  go_ret
  exact ⟨rfl, B5.out.out⟩
set_option maxRecDepth 100000 in
set_option maxHeartbeats 2000000 in
theorem rconf_co (a b : Sp) (c d x : Int) (w : World) (hg : rgd a b = true) (hc : cmpP a.t b.f = c) (hd : cmpP b.t a.f = d) (hx : rg a.k = x) (h0 : c = 0) (h1 : ¬ d < 0) (h2 : x ≠ 1) (h3 : x ≠ 3) (h4 : x ≠ 5) :
    Calls Tryd.prog 20 #[.agg #[.int .i64 a.k, .int .i64 a.f.m, .int .i64 a.f.a, .int .i64 a.f.s, .int .i64 a.f.v, .int .i64 a.t.m, .int .i64 a.t.a, .int .i64 a.t.s, .int .i64 a.t.v], .agg #[.int .i64 b.k, .int .i64 b.f.m, .int .i64 b.f.a, .int .i64 b.f.s, .int .i64 b.f.v, .int .i64 b.t.m, .int .i64 b.t.a, .int .i64 b.t.s, .int .i64 b.t.v]] w fun e w' => e = .returned (.bool false) ∧ Below w.heap.size w w' := by
  replace hg := Lib.hid hg
  replace hc := Lib.hid hc
  replace hd := Lib.hid hd
  replace hx := Lib.hid hx
  have q0 : decide (c ≤ 0) = true := decide_eq_true (by omega)
  have q1 : decide (c < 0) = false := decide_eq_false (by omega)
  have q2 : decide (d < 0) = false := decide_eq_false (by omega)
  have z0 : (x == 1) = false := by simpa using h2
  have z1 : (x == 3) = false := by simpa using h3
  have z2 : (x == 5) = false := by simpa using h4
  clear h0 h1 h2 h3 h4
  have B0 := Lib.hid (((Bel.refl w).alloc (.cells #[.int .i64 a.k, .int .i64 a.f.m, .int .i64 a.f.a, .int .i64 a.f.s, .int .i64 a.f.v, .int .i64 a.t.m, .int .i64 a.t.a, .int .i64 a.t.s, .int .i64 a.t.v] 25)).alloc (.cells #[.int .i64 b.k, .int .i64 b.f.m, .int .i64 b.f.a, .int .i64 b.f.s, .int .i64 b.f.v, .int .i64 b.t.m, .int .i64 b.t.a, .int .i64 b.t.s, .int .i64 b.t.v] 25))
  have X0 := (Non.new w (.int .i64 a.k) (.int .i64 a.f.m) (.int .i64 a.f.a) (.int .i64 a.f.s) (.int .i64 a.f.v) (.int .i64 a.t.m) (.int .i64 a.t.a) (.int .i64 a.t.s) (.int .i64 a.t.v) 25 (w.heap.size) (by simp)).alloc (.cells #[.int .i64 b.k, .int .i64 b.f.m, .int .i64 b.f.a, .int .i64 b.f.s, .int .i64 b.f.v, .int .i64 b.t.m, .int .i64 b.t.a, .int .i64 b.t.s, .int .i64 b.t.v] 25)
  have Y0 := Non.new (w.alloc (.cells #[.int .i64 a.k, .int .i64 a.f.m, .int .i64 a.f.a, .int .i64 a.f.s, .int .i64 a.f.v, .int .i64 a.t.m, .int .i64 a.t.a, .int .i64 a.t.s, .int .i64 a.t.v] 25)) (.int .i64 b.k) (.int .i64 b.f.m) (.int .i64 b.f.a) (.int .i64 b.f.s) (.int .i64 b.f.v) (.int .i64 b.t.m) (.int .i64 b.t.a) (.int .i64 b.t.s) (.int .i64 b.t.v) 25 (w.heap.size + 1) (by simp)
  go_enter Tryd.func20, Tryd.ntmps20
  obtain ⟨xf0, xf1, xf2, xf3, xf4, xf5, xf6, xf7, xf8, xf9, xf10, xf11, xf12, xf13, xf14, xf15, xf16, xf17, xf18⟩ := id X0
  obtain ⟨yf0, yf1, yf2, yf3, yf4, yf5, yf6, yf7, yf8, yf9, yf10, yf11, yf12, yf13, yf14, yf15, yf16, yf17, yf18⟩ := id Y0
  go_wp2_with fail
  clear xf0 xf1 xf2 xf3 xf4 xf5 xf6 xf7 xf8 xf9 xf10 xf11 xf12 xf13 xf14 xf15 xf16 xf17 xf18 yf0 yf1 yf2 yf3 yf4 yf5 yf6 yf7 yf8 yf9 yf10 yf11 yf12 yf13 yf14 yf15 yf16 yf17 yf18
  refine (grouped_at a b true _ hg.out).mono ?_
  rintro e w1 ⟨rfl, hb⟩
  have B1 := Lib.hid (B0.out.up hb)
  have X1 := X0.up hb
  have Y1 := Y0.up hb
  clear hb B0  X0 Y0
  obtain ⟨xf0, xf1, xf2, xf3, xf4, xf5, xf6, xf7, xf8, xf9, xf10, xf11, xf12, xf13, xf14, xf15, xf16, xf17, xf18⟩ := id X1
  obtain ⟨yf0, yf1, yf2, yf3, yf4, yf5, yf6, yf7, yf8, yf9, yf10, yf11, yf12, yf13, yf14, yf15, yf16, yf17, yf18⟩ := id Y1
  go_wp2_with fail
  clear xf0 xf1 xf2 xf3 xf4 xf5 xf6 xf7 xf8 xf9 xf10 xf11 xf12 xf13 xf14 xf15 xf16 xf17 xf18 yf0 yf1 yf2 yf3 yf4 yf5 yf6 yf7 yf8 yf9 yf10 yf11 yf12 yf13 yf14 yf15 yf16 yf17 yf18
  refine (rcompare_at a.t b.f c _ hc.out).mono ?_
  rintro e w2 ⟨rfl, hb⟩
  have B2 := Lib.hid (B1.out.up hb)
  have X2 := X1.up hb
  have Y2 := Y1.up hb
  clear hb B1  X1 Y1
  obtain ⟨xf0, xf1, xf2, xf3, xf4, xf5, xf6, xf7, xf8, xf9, xf10, xf11, xf12, xf13, xf14, xf15, xf16, xf17, xf18⟩ := id X2
  obtain ⟨yf0, yf1, yf2, yf3, yf4, yf5, yf6, yf7, yf8, yf9, yf10, yf11, yf12, yf13, yf14, yf15, yf16, yf17, yf18⟩ := id Y2
  go_wp2_with fail
  clear xf0 xf1 xf2 xf3 xf4 xf5 xf6 xf7 xf8 xf9 xf10 xf11 xf12 xf13 xf14 xf15 xf16 xf17 xf18 yf0 yf1 yf2 yf3 yf4 yf5 yf6 yf7 yf8 yf9 yf10 yf11 yf12 yf13 yf14 yf15 yf16 yf17 yf18
  refine (rcompare_at a.t b.f c _ hc.out).mono ?_
  rintro e w3 ⟨rfl, hb⟩
  have B3 := Lib.hid (B2.out.up hb)
  have X3 := X2.up hb
  have Y3 := Y2.up hb
  clear hb B2  X2 Y2
  obtain ⟨xf0, xf1, xf2, xf3, xf4, xf5, xf6, xf7, xf8, xf9, xf10, xf11, xf12, xf13, xf14, xf15, xf16, xf17, xf18⟩ := id X3
  obtain ⟨yf0, yf1, yf2, yf3, yf4, yf5, yf6, yf7, yf8, yf9, yf10, yf11, yf12, yf13, yf14, yf15, yf16, yf17, yf18⟩ := id Y3
  go_wp2_with fail
  clear xf0 xf1 xf2 xf3 xf4 xf5 xf6 xf7 xf8 xf9 xf10 xf11 xf12 xf13 xf14 xf15 xf16 xf17 xf18 yf0 yf1 yf2 yf3 yf4 yf5 yf6 yf7 yf8 yf9 yf10 yf11 yf12 yf13 yf14 yf15 yf16 yf17 yf18
  refine (rcompare_at b.t a.f d _ hd.out).mono ?_
  rintro e w4 ⟨rfl, hb⟩
  have B4 := Lib.hid (B3.out.up hb)
  have X4 := X3.up hb
  have Y4 := Y3.up hb
  clear hb B3  X3 Y3
  obtain ⟨xf0, xf1, xf2, xf3, xf4, xf5, xf6, xf7, xf8, xf9, xf10, xf11, xf12, xf13, xf14, xf15, xf16, xf17, xf18⟩ := id X4
  obtain ⟨yf0, yf1, yf2, yf3, yf4, yf5, yf6, yf7, yf8, yf9, yf10, yf11, yf12, yf13, yf14, yf15, yf16, yf17, yf18⟩ := id Y4
  go_wp2_with fail
  clear xf0 xf1 xf2 xf3 xf4 xf5 xf6 xf7 xf8 xf9 xf10 xf11 xf12 xf13 xf14 xf15 xf16 xf17 xf18 yf0 yf1 yf2 yf3 yf4 yf5 yf6 yf7 yf8 yf9 yf10 yf11 yf12 yf13 yf14 yf15 yf16 yf17 yf18
  refine (rgroup_at a.k x _ hx.out).mono ?_
  rintro e w5 ⟨rfl, hb⟩
  have B5 := Lib.hid (B4.out.up hb)
  have X5 := X4.up hb
  have Y5 := Y4.up hb
  clear hb B4  X4 Y4
  obtain ⟨xf0, xf1, xf2, xf3, xf4, xf5, xf6, xf7, xf8, xf9, xf10, xf11, xf12, xf13, xf14, xf15, xf16, xf17, xf18⟩ := id X5
  obtain ⟨yf0, yf1, yf2, yf3, yf4, yf5, yf6, yf7, yf8, yf9, yf10, yf11, yf12, yf13, yf14, yf15, yf16, yf17, yf18⟩ := id Y5
  go_wp2_with fail
  go_ret
  exact ⟨rfl, B5.out.out⟩
set_option maxRecDepth 100000 in
set_option maxHeartbeats 2000000 in
theorem rconf_d1 (a b : Sp) (c d x : Int) (w : World) (hg : rgd a b = true) (hc : cmpP a.t b.f = c) (hd : cmpP b.t a.f = d) (hx : rg a.k = x) (h0 : 0 < c) (h1 : d < 0) (h2 : x = 1) :
    Calls Tryd.prog 20 #[.agg #[.int .i64 a.k, .int .i64 a.f.m, .int .i64 a.f.a, .int .i64 a.f.s, .int .i64 a.f.v, .int .i64 a.t.m, .int .i64 a.t.a, .int .i64 a.t.s, .int .i64 a.t.v], .agg #[.int .i64 b.k, .int .i64 b.f.m, .int .i64 b.f.a, .int .i64 b.f.s, .int .i64 b.f.v, .int .i64 b.t.m, .int .i64 b.t.a, .int .i64 b.t.s, .int .i64 b.t.v]] w fun e w' => e = .returned (.bool false) ∧ Below w.heap.size w w' := by
  replace hg := Lib.hid hg
  replace hc := Lib.hid hc
  replace hd := Lib.hid hd
  replace hx := Lib.hid hx
  have q0 : decide (c ≤ 0) = false := decide_eq_false (by omega)
  have q1 : decide (c < 0) = false := decide_eq_false (by omega)
  have q2 : decide (d ≤ 0) = true := decide_eq_true (by omega)
  have q3 : decide (d < 0) = true := decide_eq_true (by omega)
  have z0 : (x == 1) = true := by simpa using h2
  clear h0 h1 h2
  have B0 := Lib.hid (((Bel.refl w).alloc (.cells #[.int .i64 a.k, .int .i64 a.f.m, .int .i64 a.f.a, .int .i64 a.f.s, .int .i64 a.f.v, .int .i64 a.t.m, .int .i64 a.t.a, .int .i64 a.t.s, .int .i64 a.t.v] 25)).alloc (.cells #[.int .i64 b.k, .int .i64 b.f.m, .int .i64 b.f.a, .int .i64 b.f.s, .int .i64 b.f.v, .int .i64 b.t.m, .int .i64 b.t.a, .int .i64 b.t.s, .int .i64 b.t.v] 25))
  have X0 := (Non.new w (.int .i64 a.k) (.int .i64 a.f.m) (.int .i64 a.f.a) (.int .i64 a.f.s) (.int .i64 a.f.v) (.int .i64 a.t.m) (.int .i64 a.t.a) (.int .i64 a.t.s) (.int .i64 a.t.v) 25 (w.heap.size) (by simp)).alloc (.cells #[.int .i64 b.k, .int .i64 b.f.m, .int .i64 b.f.a, .int .i64 b.f.s, .int .i64 b.f.v, .int .i64 b.t.m, .int .i64 b.t.a, .int .i64 b.t.s, .int .i64 b.t.v] 25)
  have Y0 := Non.new (w.alloc (.cells #[.int .i64 a.k, .int .i64 a.f.m, .int .i64 a.f.a, .int .i64 a.f.s, .int .i64 a.f.v, .int .i64 a.t.m, .int .i64 a.t.a, .int .i64 a.t.s, .int .i64 a.t.v] 25)) (.int .i64 b.k) (.int .i64 b.f.m) (.int .i64 b.f.a) (.int .i64 b.f.s) (.int .i64 b.f.v) (.int .i64 b.t.m) (.int .i64 b.t.a) (.int .i64 b.t.s) (.int .i64 b.t.v) 25 (w.heap.size + 1) (by simp)
  go_enter Tryd.func20, Tryd.ntmps20
  obtain ⟨xf0, xf1, xf2, xf3, xf4, xf5, xf6, xf7, xf8, xf9, xf10, xf11, xf12, xf13, xf14, xf15, xf16, xf17, xf18⟩ := id X0
  obtain ⟨yf0, yf1, yf2, yf3, yf4, yf5, yf6, yf7, yf8, yf9, yf10, yf11, yf12, yf13, yf14, yf15, yf16, yf17, yf18⟩ := id Y0
  go_wp2_with fail
  clear xf0 xf1 xf2 xf3 xf4 xf5 xf6 xf7 xf8 xf9 xf10 xf11 xf12 xf13 xf14 xf15 xf16 xf17 xf18 yf0 yf1 yf2 yf3 yf4 yf5 yf6 yf7 yf8 yf9 yf10 yf11 yf12 yf13 yf14 yf15 yf16 yf17 yf18
  refine (grouped_at a b true _ hg.out).mono ?_
  rintro e w1 ⟨rfl, hb⟩
  have B1 := Lib.hid (B0.out.up hb)
  have X1 := X0.up hb
  have Y1 := Y0.up hb
  clear hb B0  X0 Y0
  obtain ⟨xf0, xf1, xf2, xf3, xf4, xf5, xf6, xf7, xf8, xf9, xf10, xf11, xf12, xf13, xf14, xf15, xf16, xf17, xf18⟩ := id X1
  obtain ⟨yf0, yf1, yf2, yf3, yf4, yf5, yf6, yf7, yf8, yf9, yf10, yf11, yf12, yf13, yf14, yf15, yf16, yf17, yf18⟩ := id Y1
  go_wp2_with fail
  clear xf0 xf1 xf2 xf3 xf4 xf5 xf6 xf7 xf8 xf9 xf10 xf11 xf12 xf13 xf14 xf15 xf16 xf17 xf18 yf0 yf1 yf2 yf3 yf4 yf5 yf6 yf7 yf8 yf9 yf10 yf11 yf12 yf13 yf14 yf15 yf16 yf17 yf18
  refine (rcompare_at a.t b.f c _ hc.out).mono ?_
  rintro e w2 ⟨rfl, hb⟩
  have B2 := Lib.hid (B1.out.up hb)
  have X2 := X1.up hb
  have Y2 := Y1.up hb
  clear hb B1  X1 Y1
  obtain ⟨xf0, xf1, xf2, xf3, xf4, xf5, xf6, xf7, xf8, xf9, xf10, xf11, xf12, xf13, xf14, xf15, xf16, xf17, xf18⟩ := id X2
  obtain ⟨yf0, yf1, yf2, yf3, yf4, yf5, yf6, yf7, yf8, yf9, yf10, yf11, yf12, yf13, yf14, yf15, yf16, yf17, yf18⟩ := id Y2
  go_wp2_with fail
  clear xf0 xf1 xf2 xf3 xf4 xf5 xf6 xf7 xf8 xf9 xf10 xf11 xf12 xf13 xf14 xf15 xf16 xf17 xf18 yf0 yf1 yf2 yf3 yf4 yf5 yf6 yf7 yf8 yf9 yf10 yf11 yf12 yf13 yf14 yf15 yf16 yf17 yf18
  refine (rcompare_at b.t a.f d _ hd.out).mono ?_
  rintro e w3 ⟨rfl, hb⟩
  have B3 := Lib.hid (B2.out.up hb)
  have X3 := X2.up hb
  have Y3 := Y2.up hb
  clear hb B2  X2 Y2
  obtain ⟨xf0, xf1, xf2, xf3, xf4, xf5, xf6, xf7, xf8, xf9, xf10, xf11, xf12, xf13, xf14, xf15, xf16, xf17, xf18⟩ := id X3
  obtain ⟨yf0, yf1, yf2, yf3, yf4, yf5, yf6, yf7, yf8, yf9, yf10, yf11, yf12, yf13, yf14, yf15, yf16, yf17, yf18⟩ := id Y3
  go_wp2_with fail
  clear xf0 xf1 xf2 xf3 xf4 xf5 xf6 xf7 xf8 xf9 xf10 xf11 xf12 xf13 xf14 xf15 xf16 xf17 xf18 yf0 yf1 yf2 yf3 yf4 yf5 yf6 yf7 yf8 yf9 yf10 yf11 yf12 yf13 yf14 yf15 yf16 yf17 yf18
  refine (rcompare_at a.t b.f c _ hc.out).mono ?_
  rintro e w4 ⟨rfl, hb⟩
  have B4 := Lib.hid (B3.out.up hb)
  have X4 := X3.up hb
  have Y4 := Y3.up hb
  clear hb B3  X3 Y3
  obtain ⟨xf0, xf1, xf2, xf3, xf4, xf5, xf6, xf7, xf8, xf9, xf10, xf11, xf12, xf13, xf14, xf15, xf16, xf17, xf18⟩ := id X4
  obtain ⟨yf0, yf1, yf2, yf3, yf4, yf5, yf6, yf7, yf8, yf9, yf10, yf11, yf12, yf13, yf14, yf15, yf16, yf17, yf18⟩ := id Y4
  go_wp2_with fail
  clear xf0 xf1 xf2 xf3 xf4 xf5 xf6 xf7 xf8 xf9 xf10 xf11 xf12 xf13 xf14 xf15 xf16 xf17 xf18 yf0 yf1 yf2 yf3 yf4 yf5 yf6 yf7 yf8 yf9 yf10 yf11 yf12 yf13 yf14 yf15 yf16 yf17 yf18
  refine (rcompare_at b.t a.f d _ hd.out).mono ?_
  rintro e w5 ⟨rfl, hb⟩
  have B5 := Lib.hid (B4.out.up hb)
  have X5 := X4.up hb
  have Y5 := Y4.up hb
  clear hb B4  X4 Y4
  obtain ⟨xf0, xf1, xf2, xf3, xf4, xf5, xf6, xf7, xf8, xf9, xf10, xf11, xf12, xf13, xf14, xf15, xf16, xf17, xf18⟩ := id X5
  obtain ⟨yf0, yf1, yf2, yf3, yf4, yf5, yf6, yf7, yf8, yf9, yf10, yf11, yf12, yf13, yf14, yf15, yf16, yf17, yf18⟩ := id Y5
  go_wp2_with fail
  clear xf0 xf1 xf2 xf3 xf4 xf5 xf6 xf7 xf8 xf9 xf10 xf11 xf12 xf13 xf14 xf15 xf16 xf17 xf18 yf0 yf1 yf2 yf3 yf4 yf5 yf6 yf7 yf8 yf9 yf10 yf11 yf12 yf13 yf14 yf15 yf16 yf17 yf18
  refine (rgroup_at a.k x _ hx.out).mono ?_
  rintro e w6 ⟨rfl, hb⟩
  have B6 := Lib.hid (B5.out.up hb)
  have X6 := X5.up hb
  have Y6 := Y5.up hb
  clear hb B5  X5 Y5
  obtain ⟨xf0, xf1, xf2, xf3, xf4, xf5, xf6, xf7, xf8, xf9, xf10, xf11, xf12, xf13, xf14, xf15, xf16, xf17, xf18⟩ := id X6
  obtain ⟨yf0, yf1, yf2, yf3, yf4, yf5, yf6, yf7, yf8, yf9, yf10, yf11, yf12, yf13, yf14, yf15, yf16, yf17, yf18⟩ := id Y6
  go_wp2_with fail
  clear xf0 xf1 xf2 xf3 xf4 xf5 xf6 xf7 xf8 xf9 xf10 xf11 xf12 xf13 xf14 xf15 xf16 xf17 xf18 yf0 yf1 yf2 yf3 yf4 yf5 yf6 yf7 yf8 yf9 yf10 yf11 yf12 yf13 yf14 yf15 yf16 yf17 yf18
  refine Qt.regionAll (by kernel_rfl) (by kernel_rfl) ?_
  intro T f_ F hne
  have RB := Lib.hid (fun g => B6.out.up (F.below g))
  have RX := fun g => X6.up (F.below g)
  have RX0 := fun g => (RX g).c0
  have RX1 := fun g => (RX g).c1
  have RX2 := fun g => (RX g).c2
  have RX3 := fun g => (RX g).c3
  have RX4 := fun g => (RX g).c4
  have RX5 := fun g => (RX g).c5
  have RX6 := fun g => (RX g).c6
  have RX7 := fun g => (RX g).c7
  have RX8 := fun g => (RX g).c8
  have RY := fun g => Y6.up (F.below g)
  have RY0 := fun g => (RY g).c0
  have RY1 := fun g => (RY g).c1
  have RY2 := fun g => (RY g).c2
  have RY3 := fun g => (RY g).c3
  have RY4 := fun g => (RY g).c4
  have RY5 := fun g => (RY g).c5
  have RY6 := fun g => (RY g).c6
  have RY7 := fun g => (RY g).c7
  have RY8 := fun g => (RY g).c8
  repeat (go_big_quiet_step (fail))
  refine wpQuiet_nil ?_
  rintro _ ⟨gT, rfl⟩
  have B7 := Lib.hid (RB.out gT)
  have X7 := RX gT
  have Y7 := RY gT
  clear F RB hne RX RX0 RX1 RX2 RX3 RX4 RX5 RX6 RX7 RX8 RY RY0 RY1 RY2 RY3 RY4 RY5 RY6 RY7 RY8 B6 X6 Y6
  generalize f_ gT = w7 at *
  clear f_
  obtain ⟨xf0, xf1, xf2, xf3, xf4, xf5, xf6, xf7, xf8, xf9, xf10, xf11, xf12, xf13, xf14, xf15, xf16, xf17, xf18⟩ := id X7
  obtain ⟨yf0, yf1, yf2, yf3, yf4, yf5, yf6, yf7, yf8, yf9, yf10, yf11, yf12, yf13, yf14, yf15, yf16, yf17, yf18⟩ := id Y7
  go_wp2_with fail
  go_ret
  exact ⟨rfl, B7.out.out⟩
set_option maxRecDepth 100000 in
set_option maxHeartbeats 2000000 in
theorem rconf_d3 (a b : Sp) (c d x : Int) (w : World) (hg : rgd a b = true) (hc : cmpP a.t b.f = c) (hd : cmpP b.t a.f = d) (hx : rg a.k = x) (h0 : 0 < c) (h1 : d < 0) (h2 : x = 3) :
    Calls Tryd.prog 20 #[.agg #[.int .i64 a.k, .int .i64 a.f.m, .int .i64 a.f.a, .int .i64 a.f.s, .int .i64 a.f.v, .int .i64 a.t.m, .int .i64 a.t.a, .int .i64 a.t.s, .int .i64 a.t.v], .agg #[.int .i64 b.k, .int .i64 b.f.m, .int .i64 b.f.a, .int .i64 b.f.s, .int .i64 b.f.v, .int .i64 b.t.m, .int .i64 b.t.a, .int .i64 b.t.s, .int .i64 b.t.v]] w fun e w' => e = .returned (.bool false) ∧ Below w.heap.size w w' := by
  replace hg := Lib.hid hg
  replace hc := Lib.hid hc
  replace hd := Lib.hid hd
  replace hx := Lib.hid hx
  have q0 : decide (c ≤ 0) = false := decide_eq_false (by omega)
  have q1 : decide (c < 0) = false := decide_eq_false (by omega)
  have q2 : decide (d ≤ 0) = true := decide_eq_true (by omega)
  have q3 : decide (d < 0) = true := decide_eq_true (by omega)
  have z0 : (x == 1) = false := by simp [h2]
  have z1 : (x == 3) = true := by simpa using h2
  clear h0 h1 h2
  have B0 := Lib.hid (((Bel.refl w).alloc (.cells #[.int .i64 a.k, .int .i64 a.f.m, .int .i64 a.f.a, .int .i64 a.f.s, .int .i64 a.f.v, .int .i64 a.t.m, .int .i64 a.t.a, .int .i64 a.t.s, .int .i64 a.t.v] 25)).alloc (.cells #[.int .i64 b.k, .int .i64 b.f.m, .int .i64 b.f.a, .int .i64 b.f.s, .int .i64 b.f.v, .int .i64 b.t.m, .int .i64 b.t.a, .int .i64 b.t.s, .int .i64 b.t.v] 25))
  have X0 := (Non.new w (.int .i64 a.k) (.int .i64 a.f.m) (.int .i64 a.f.a) (.int .i64 a.f.s) (.int .i64 a.f.v) (.int .i64 a.t.m) (.int .i64 a.t.a) (.int .i64 a.t.s) (.int .i64 a.t.v) 25 (w.heap.size) (by simp)).alloc (.cells #[.int .i64 b.k, .int .i64 b.f.m, .int .i64 b.f.a, .int .i64 b.f.s, .int .i64 b.f.v, .int .i64 b.t.m, .int .i64 b.t.a, .int .i64 b.t.s, .int .i64 b.t.v] 25)
  have Y0 := Non.new (w.alloc (.cells #[.int .i64 a.k, .int .i64 a.f.m, .int .i64 a.f.a, .int .i64 a.f.s, .int .i64 a.f.v, .int .i64 a.t.m, .int .i64 a.t.a, .int .i64 a.t.s, .int .i64 a.t.v] 25)) (.int .i64 b.k) (.int .i64 b.f.m) (.int .i64 b.f.a) (.int .i64 b.f.s) (.int .i64 b.f.v) (.int .i64 b.t.m) (.int .i64 b.t.a) (.int .i64 b.t.s) (.int .i64 b.t.v) 25 (w.heap.size + 1) (by simp)
  go_enter Tryd.func20, Tryd.ntmps20
  obtain ⟨xf0, xf1, xf2, xf3, xf4, xf5, xf6, xf7, xf8, xf9, xf10, xf11, xf12, xf13, xf14, xf15, xf16, xf17, xf18⟩ := id X0
  obtain ⟨yf0, yf1, yf2, yf3, yf4, yf5, yf6, yf7, yf8, yf9, yf10, yf11, yf12, yf13, yf14, yf15, yf16, yf17, yf18⟩ := id Y0
  go_wp2_with fail
  clear xf0 xf1 xf2 xf3 xf4 xf5 xf6 xf7 xf8 xf9 xf10 xf11 xf12 xf13 xf14 xf15 xf16 xf17 xf18 yf0 yf1 yf2 yf3 yf4 yf5 yf6 yf7 yf8 yf9 yf10 yf11 yf12 yf13 yf14 yf15 yf16 yf17 yf18
  refine (grouped_at a b true _ hg.out).mono ?_
  rintro e w1 ⟨rfl, hb⟩
  have B1 := Lib.hid (B0.out.up hb)
  have X1 := X0.up hb
  have Y1 := Y0.up hb
  clear hb B0  X0 Y0
  obtain ⟨xf0, xf1, xf2, xf3, xf4, xf5, xf6, xf7, xf8, xf9, xf10, xf11, xf12, xf13, xf14, xf15, xf16, xf17, xf18⟩ := id X1
  obtain ⟨yf0, yf1, yf2, yf3, yf4, yf5, yf6, yf7, yf8, yf9, yf10, yf11, yf12, yf13, yf14, yf15, yf16, yf17, yf18⟩ := id Y1
  go_wp2_with fail
  clear xf0 xf1 xf2 xf3 xf4 xf5 xf6 xf7 xf8 xf9 xf10 xf11 xf12 xf13 xf14 xf15 xf16 xf17 xf18 yf0 yf1 yf2 yf3 yf4 yf5 yf6 yf7 yf8 yf9 yf10 yf11 yf12 yf13 yf14 yf15 yf16 yf17 yf18
  refine (rcompare_at a.t b.f c _ hc.out).mono ?_
  rintro e w2 ⟨rfl, hb⟩
  have B2 := Lib.hid (B1.out.up hb)
  have X2 := X1.up hb
  have Y2 := Y1.up hb
  clear hb B1  X1 Y1
  obtain ⟨xf0, xf1, xf2, xf3, xf4, xf5, xf6, xf7, xf8, xf9, xf10, xf11, xf12, xf13, xf14, xf15, xf16, xf17, xf18⟩ := id X2
  obtain ⟨yf0, yf1, yf2, yf3, yf4, yf5, yf6, yf7, yf8, yf9, yf10, yf11, yf12, yf13, yf14, yf15, yf16, yf17, yf18⟩ := id Y2
  go_wp2_with fail
  clear xf0 xf1 xf2 xf3 xf4 xf5 xf6 xf7 xf8 xf9 xf10 xf11 xf12 xf13 xf14 xf15 xf16 xf17 xf18 yf0 yf1 yf2 yf3 yf4 yf5 yf6 yf7 yf8 yf9 yf10 yf11 yf12 yf13 yf14 yf15 yf16 yf17 yf18
  refine (rcompare_at b.t a.f d _ hd.out).mono ?_
  rintro e w3 ⟨rfl, hb⟩
  have B3 := Lib.hid (B2.out.up hb)
  have X3 := X2.up hb
  have Y3 := Y2.up hb
  clear hb B2  X2 Y2
  obtain ⟨xf0, xf1, xf2, xf3, xf4, xf5, xf6, xf7, xf8, xf9, xf10, xf11, xf12, xf13, xf14, xf15, xf16, xf17, xf18⟩ := id X3
  obtain ⟨yf0, yf1, yf2, yf3, yf4, yf5, yf6, yf7, yf8, yf9, yf10, yf11, yf12, yf13, yf14, yf15, yf16, yf17, yf18⟩ := id Y3
  go_wp2_with fail
  clear xf0 xf1 xf2 xf3 xf4 xf5 xf6 xf7 xf8 xf9 xf10 xf11 xf12 xf13 xf14 xf15 xf16 xf17 xf18 yf0 yf1 yf2 yf3 yf4 yf5 yf6 yf7 yf8 yf9 yf10 yf11 yf12 yf13 yf14 yf15 yf16 yf17 yf18
  refine (rcompare_at a.t b.f c _ hc.out).mono ?_
  rintro e w4 ⟨rfl, hb⟩
  have B4 := Lib.hid (B3.out.up hb)
  have X4 := X3.up hb
  have Y4 := Y3.up hb
  clear hb B3  X3 Y3
  obtain ⟨xf0, xf1, xf2, xf3, xf4, xf5, xf6, xf7, xf8, xf9, xf10, xf11, xf12, xf13, xf14, xf15, xf16, xf17, xf18⟩ := id X4
  obtain ⟨yf0, yf1, yf2, yf3, yf4, yf5, yf6, yf7, yf8, yf9, yf10, yf11, yf12, yf13, yf14, yf15, yf16, yf17, yf18⟩ := id Y4
  go_wp2_with fail
  clear xf0 xf1 xf2 xf3 xf4 xf5 xf6 xf7 xf8 xf9 xf10 xf11 xf12 xf13 xf14 xf15 xf16 xf17 xf18 yf0 yf1 yf2 yf3 yf4 yf5 yf6 yf7 yf8 yf9 yf10 yf11 yf12 yf13 yf14 yf15 yf16 yf17 yf18
  refine (rcompare_at b.t a.f d _ hd.out).mono ?_
  rintro e w5 ⟨rfl, hb⟩
  have B5 := Lib.hid (B4.out.up hb)
  have X5 := X4.up hb
  have Y5 := Y4.up hb
  clear hb B4  X4 Y4
  obtain ⟨xf0, xf1, xf2, xf3, xf4, xf5, xf6, xf7, xf8, xf9, xf10, xf11, xf12, xf13, xf14, xf15, xf16, xf17, xf18⟩ := id X5
  obtain ⟨yf0, yf1, yf2, yf3, yf4, yf5, yf6, yf7, yf8, yf9, yf10, yf11, yf12, yf13, yf14, yf15, yf16, yf17, yf18⟩ := id Y5
  go_wp2_with fail
  clear xf0 xf1 xf2 xf3 xf4 xf5 xf6 xf7 xf8 xf9 xf10 xf11 xf12 xf13 xf14 xf15 xf16 xf17 xf18 yf0 yf1 yf2 yf3 yf4 yf5 yf6 yf7 yf8 yf9 yf10 yf11 yf12 yf13 yf14 yf15 yf16 yf17 yf18
  refine (rgroup_at a.k x _ hx.out).mono ?_
  rintro e w6 ⟨rfl, hb⟩
  have B6 := Lib.hid (B5.out.up hb)
  have X6 := X5.up hb
  have Y6 := Y5.up hb
  clear hb B5  X5 Y5
  obtain ⟨xf0, xf1, xf2, xf3, xf4, xf5, xf6, xf7, xf8, xf9, xf10, xf11, xf12, xf13, xf14, xf15, xf16, xf17, xf18⟩ := id X6
  obtain ⟨yf0, yf1, yf2, yf3, yf4, yf5, yf6, yf7, yf8, yf9, yf10, yf11, yf12, yf13, yf14, yf15, yf16, yf17, yf18⟩ := id Y6
  go_wp2_with fail
  go_ret
  exact ⟨rfl, B6.out.out⟩
set_option maxRecDepth 100000 in
set_option maxHeartbeats 2000000 in
theorem rconf_d5 (a b : Sp) (c d x : Int) (w : World) (hg : rgd a b = true) (hc : cmpP a.t b.f = c) (hd : cmpP b.t a.f = d) (hx : rg a.k = x) (h0 : 0 < c) (h1 : d < 0) (h2 : x = 5) :
    Calls Tryd.prog 20 #[.agg #[.int .i64 a.k, .int .i64 a.f.m, .int .i64 a.f.a, .int .i64 a.f.s, .int .i64 a.f.v, .int .i64 a.t.m, .int .i64 a.t.a, .int .i64 a.t.s, .int .i64 a.t.v], .agg #[.int .i64 b.k, .int .i64 b.f.m, .int .i64 b.f.a, .int .i64 b.f.s, .int .i64 b.f.v, .int .i64 b.t.m, .int .i64 b.t.a, .int .i64 b.t.s, .int .i64 b.t.v]] w fun e w' => e = .returned (.bool false) ∧ Below w.heap.size w w' := by
  replace hg := Lib.hid hg
  replace hc := Lib.hid hc
  replace hd := Lib.hid hd
  replace hx := Lib.hid hx
  have q0 : decide (c ≤ 0) = false := decide_eq_false (by omega)
  have q1 : decide (c < 0) = false := decide_eq_false (by omega)
  have q2 : decide (d ≤ 0) = true := decide_eq_true (by omega)
  have q3 : decide (d < 0) = true := decide_eq_true (by omega)
  have z0 : (x == 1) = false := by simp [h2]
  have z1 : (x == 3) = false := by simp [h2]
  have z2 : (x == 5) = true := by simpa using h2
  clear h0 h1 h2
  have B0 := Lib.hid (((Bel.refl w).alloc (.cells #[.int .i64 a.k, .int .i64 a.f.m, .int .i64 a.f.a, .int .i64 a.f.s, .int .i64 a.f.v, .int .i64 a.t.m, .int .i64 a.t.a, .int .i64 a.t.s, .int .i64 a.t.v] 25)).alloc (.cells #[.int .i64 b.k, .int .i64 b.f.m, .int .i64 b.f.a, .int .i64 b.f.s, .int .i64 b.f.v, .int .i64 b.t.m, .int .i64 b.t.a, .int .i64 b.t.s, .int .i64 b.t.v] 25))
  have X0 := (Non.new w (.int .i64 a.k) (.int .i64 a.f.m) (.int .i64 a.f.a) (.int .i64 a.f.s) (.int .i64 a.f.v) (.int .i64 a.t.m) (.int .i64 a.t.a) (.int .i64 a.t.s) (.int .i64 a.t.v) 25 (w.heap.size) (by simp)).alloc (.cells #[.int .i64 b.k, .int .i64 b.f.m, .int .i64 b.f.a, .int .i64 b.f.s, .int .i64 b.f.v, .int .i64 b.t.m, .int .i64 b.t.a, .int .i64 b.t.s, .int .i64 b.t.v] 25)
  have Y0 := Non.new (w.alloc (.cells #[.int .i64 a.k, .int .i64 a.f.m, .int .i64 a.f.a, .int .i64 a.f.s, .int .i64 a.f.v, .int .i64 a.t.m, .int .i64 a.t.a, .int .i64 a.t.s, .int .i64 a.t.v] 25)) (.int .i64 b.k) (.int .i64 b.f.m) (.int .i64 b.f.a) (.int .i64 b.f.s) (.int .i64 b.f.v) (.int .i64 b.t.m) (.int .i64 b.t.a) (.int .i64 b.t.s) (.int .i64 b.t.v) 25 (w.heap.size + 1) (by simp)
  go_enter Tryd.func20, Tryd.ntmps20
  obtain ⟨xf0, xf1, xf2, xf3, xf4, xf5, xf6, xf7, xf8, xf9, xf10, xf11, xf12, xf13, xf14, xf15, xf16, xf17, xf18⟩ := id X0
  obtain ⟨yf0, yf1, yf2, yf3, yf4, yf5, yf6, yf7, yf8, yf9, yf10, yf11, yf12, yf13, yf14, yf15, yf16, yf17, yf18⟩ := id Y0
  go_wp2_with fail
  clear xf0 xf1 xf2 xf3 xf4 xf5 xf6 xf7 xf8 xf9 xf10 xf11 xf12 xf13 xf14 xf15 xf16 xf17 xf18 yf0 yf1 yf2 yf3 yf4 yf5 yf6 yf7 yf8 yf9 yf10 yf11 yf12 yf13 yf14 yf15 yf16 yf17 yf18
  refine (grouped_at a b true _ hg.out).mono ?_
  rintro e w1 ⟨rfl, hb⟩
  have B1 := Lib.hid (B0.out.up hb)
  have X1 := X0.up hb
  have Y1 := Y0.up hb
  clear hb B0  X0 Y0
  obtain ⟨xf0, xf1, xf2, xf3, xf4, xf5, xf6, xf7, xf8, xf9, xf10, xf11, xf12, xf13, xf14, xf15, xf16, xf17, xf18⟩ := id X1
  obtain ⟨yf0, yf1, yf2, yf3, yf4, yf5, yf6, yf7, yf8, yf9, yf10, yf11, yf12, yf13, yf14, yf15, yf16, yf17, yf18⟩ := id Y1
  go_wp2_with fail
  clear xf0 xf1 xf2 xf3 xf4 xf5 xf6 xf7 xf8 xf9 xf10 xf11 xf12 xf13 xf14 xf15 xf16 xf17 xf18 yf0 yf1 yf2 yf3 yf4 yf5 yf6 yf7 yf8 yf9 yf10 yf11 yf12 yf13 yf14 yf15 yf16 yf17 yf18
  refine (rcompare_at a.t b.f c _ hc.out).mono ?_
  rintro e w2 ⟨rfl, hb⟩
  have B2 := Lib.hid (B1.out.up hb)
  have X2 := X1.up hb
  have Y2 := Y1.up hb
  clear hb B1  X1 Y1
  obtain ⟨xf0, xf1, xf2, xf3, xf4, xf5, xf6, xf7, xf8, xf9, xf10, xf11, xf12, xf13, xf14, xf15, xf16, xf17, xf18⟩ := id X2
  obtain ⟨yf0, yf1, yf2, yf3, yf4, yf5, yf6, yf7, yf8, yf9, yf10, yf11, yf12, yf13, yf14, yf15, yf16, yf17, yf18⟩ := id Y2
  go_wp2_with fail
  clear xf0 xf1 xf2 xf3 xf4 xf5 xf6 xf7 xf8 xf9 xf10 xf11 xf12 xf13 xf14 xf15 xf16 xf17 xf18 yf0 yf1 yf2 yf3 yf4 yf5 yf6 yf7 yf8 yf9 yf10 yf11 yf12 yf13 yf14 yf15 yf16 yf17 yf18
  refine (rcompare_at b.t a.f d _ hd.out).mono ?_
  rintro e w3 ⟨rfl, hb⟩
  have B3 := Lib.hid (B2.out.up hb)
  have X3 := X2.up hb
  have Y3 := Y2.up hb
  clear hb B2  X2 Y2
  obtain ⟨xf0, xf1, xf2, xf3, xf4, xf5, xf6, xf7, xf8, xf9, xf10, xf11, xf12, xf13, xf14, xf15, xf16, xf17, xf18⟩ := id X3
  obtain ⟨yf0, yf1, yf2, yf3, yf4, yf5, yf6, yf7, yf8, yf9, yf10, yf11, yf12, yf13, yf14, yf15, yf16, yf17, yf18⟩ := id Y3
  go_wp2_with fail
  clear xf0 xf1 xf2 xf3 xf4 xf5 xf6 xf7 xf8 xf9 xf10 xf11 xf12 xf13 xf14 xf15 xf16 xf17 xf18 yf0 yf1 yf2 yf3 yf4 yf5 yf6 yf7 yf8 yf9 yf10 yf11 yf12 yf13 yf14 yf15 yf16 yf17 yf18
  refine (rcompare_at a.t b.f c _ hc.out).mono ?_
  rintro e w4 ⟨rfl, hb⟩
  have B4 := Lib.hid (B3.out.up hb)
  have X4 := X3.up hb
  have Y4 := Y3.up hb
  clear hb B3  X3 Y3
  obtain ⟨xf0, xf1, xf2, xf3, xf4, xf5, xf6, xf7, xf8, xf9, xf10, xf11, xf12, xf13, xf14, xf15, xf16, xf17, xf18⟩ := id X4
  obtain ⟨yf0, yf1, yf2, yf3, yf4, yf5, yf6, yf7, yf8, yf9, yf10, yf11, yf12, yf13, yf14, yf15, yf16, yf17, yf18⟩ := id Y4
  go_wp2_with fail
  clear xf0 xf1 xf2 xf3 xf4 xf5 xf6 xf7 xf8 xf9 xf10 xf11 xf12 xf13 xf14 xf15 xf16 xf17 xf18 yf0 yf1 yf2 yf3 yf4 yf5 yf6 yf7 yf8 yf9 yf10 yf11 yf12 yf13 yf14 yf15 yf16 yf17 yf18
  refine (rcompare_at b.t a.f d _ hd.out).mono ?_
  rintro e w5 ⟨rfl, hb⟩
  have B5 := Lib.hid (B4.out.up hb)
  have X5 := X4.up hb
  have Y5 := Y4.up hb
  clear hb B4  X4 Y4
  obtain ⟨xf0, xf1, xf2, xf3, xf4, xf5, xf6, xf7, xf8, xf9, xf10, xf11, xf12, xf13, xf14, xf15, xf16, xf17, xf18⟩ := id X5
  obtain ⟨yf0, yf1, yf2, yf3, yf4, yf5, yf6, yf7, yf8, yf9, yf10, yf11, yf12, yf13, yf14, yf15, yf16, yf17, yf18⟩ := id Y5
  go_wp2_with fail
  clear xf0 xf1 xf2 xf3 xf4 xf5 xf6 xf7 xf8 xf9 xf10 xf11 xf12 xf13 xf14 xf15 xf16 xf17 xf18 yf0 yf1 yf2 yf3 yf4 yf5 yf6 yf7 yf8 yf9 yf10 yf11 yf12 yf13 yf14 yf15 yf16 yf17 yf18
  refine (rgroup_at a.k x _ hx.out).mono ?_
  rintro e w6 ⟨rfl, hb⟩
  have B6 := Lib.hid (B5.out.up hb)
  have X6 := X5.up hb
  have Y6 := Y5.up hb
  clear hb B5  X5 Y5
  obtain ⟨xf0, xf1, xf2, xf3, xf4, xf5, xf6, xf7, xf8, xf9, xf10, xf11, xf12, xf13, xf14, xf15, xf16, xf17, xf18⟩ := id X6
  obtain ⟨yf0, yf1, yf2, yf3, yf4, yf5, yf6, yf7, yf8, yf9, yf10, yf11, yf12, yf13, yf14, yf15, yf16, yf17, yf18⟩ := id Y6
  go_wp2_with fail
  go_ret
  exact ⟨rfl, B6.out.out⟩
set_option maxRecDepth 100000 in
set_option maxHeartbeats 2000000 in
theorem rconf_do (a b : Sp) (c d x : Int) (w : World) (hg : rgd a b = true) (hc : cmpP a.t b.f = c) (hd : cmpP b.t a.f = d) (hx : rg a.k = x) (h0 : 0 < c) (h1 : d < 0) (h2 : x ≠ 1) (h3 : x ≠ 3) (h4 : x ≠ 5) :
    Calls Tryd.prog 20 #[.agg #[.int .i64 a.k, .int .i64 a.f.m, .int .i64 a.f.a, .int .i64 a.f.s, .int .i64 a.f.v, .int .i64 a.t.m, .int .i64 a.t.a, .int .i64 a.t.s, .int .i64 a.t.v], .agg #[.int .i64 b.k, .int .i64 b.f.m, .int .i64 b.f.a, .int .i64 b.f.s, .int .i64 b.f.v, .int .i64 b.t.m, .int .i64 b.t.a, .int .i64 b.t.s, .int .i64 b.t.v]] w fun e w' => e = .returned (.bool false) ∧ Below w.heap.size w w' := by
  replace hg := Lib.hid hg
  replace hc := Lib.hid hc
  replace hd := Lib.hid hd
  replace hx := Lib.hid hx
  have q0 : decide (c ≤ 0) = false := decide_eq_false (by omega)
  have q1 : decide (c < 0) = false := decide_eq_false (by omega)
  have q2 : decide (d ≤ 0) = true := decide_eq_true (by omega)
  have q3 : decide (d < 0) = true := decide_eq_true (by omega)
  have z0 : (x == 1) = false := by simpa using h2
  have z1 : (x == 3) = false := by simpa using h3
  have z2 : (x == 5) = false := by simpa using h4
  clear h0 h1 h2 h3 h4
  have B0 := Lib.hid (((Bel.refl w).alloc (.cells #[.int .i64 a.k, .int .i64 a.f.m, .int .i64 a.f.a, .int .i64 a.f.s, .int .i64 a.f.v, .int .i64 a.t.m, .int .i64 a.t.a, .int .i64 a.t.s, .int .i64 a.t.v] 25)).alloc (.cells #[.int .i64 b.k, .int .i64 b.f.m, .int .i64 b.f.a, .int .i64 b.f.s, .int .i64 b.f.v, .int .i64 b.t.m, .int .i64 b.t.a, .int .i64 b.t.s, .int .i64 b.t.v] 25))
  have X0 := (Non.new w (.int .i64 a.k) (.int .i64 a.f.m) (.int .i64 a.f.a) (.int .i64 a.f.s) (.int .i64 a.f.v) (.int .i64 a.t.m) (.int .i64 a.t.a) (.int .i64 a.t.s) (.int .i64 a.t.v) 25 (w.heap.size) (by simp)).alloc (.cells #[.int .i64 b.k, .int .i64 b.f.m, .int .i64 b.f.a, .int .i64 b.f.s, .int .i64 b.f.v, .int .i64 b.t.m, .int .i64 b.t.a, .int .i64 b.t.s, .int .i64 b.t.v] 25)
  have Y0 := Non.new (w.alloc (.cells #[.int .i64 a.k, .int .i64 a.f.m, .int .i64 a.f.a, .int .i64 a.f.s, .int .i64 a.f.v, .int .i64 a.t.m, .int .i64 a.t.a, .int .i64 a.t.s, .int .i64 a.t.v] 25)) (.int .i64 b.k) (.int .i64 b.f.m) (.int .i64 b.f.a) (.int .i64 b.f.s) (.int .i64 b.f.v) (.int .i64 b.t.m) (.int .i64 b.t.a) (.int .i64 b.t.s) (.int .i64 b.t.v) 25 (w.heap.size + 1) (by simp)
  go_enter Tryd.func20, Tryd.ntmps20
  obtain ⟨xf0, xf1, xf2, xf3, xf4, xf5, xf6, xf7, xf8, xf9, xf10, xf11, xf12, xf13, xf14, xf15, xf16, xf17, xf18⟩ := id X0
  obtain ⟨yf0, yf1, yf2, yf3, yf4, yf5, yf6, yf7, yf8, yf9, yf10, yf11, yf12, yf13, yf14, yf15, yf16, yf17, yf18⟩ := id Y0
  go_wp2_with fail
  clear xf0 xf1 xf2 xf3 xf4 xf5 xf6 xf7 xf8 xf9 xf10 xf11 xf12 xf13 xf14 xf15 xf16 xf17 xf18 yf0 yf1 yf2 yf3 yf4 yf5 yf6 yf7 yf8 yf9 yf10 yf11 yf12 yf13 yf14 yf15 yf16 yf17 yf18
  refine (grouped_at a b true _ hg.out).mono ?_
  rintro e w1 ⟨rfl, hb⟩
  have B1 := Lib.hid (B0.out.up hb)
  have X1 := X0.up hb
  have Y1 := Y0.up hb
  clear hb B0  X0 Y0
  obtain ⟨xf0, xf1, xf2, xf3, xf4, xf5, xf6, xf7, xf8, xf9, xf10, xf11, xf12, xf13, xf14, xf15, xf16, xf17, xf18⟩ := id X1
  obtain ⟨yf0, yf1, yf2, yf3, yf4, yf5, yf6, yf7, yf8, yf9, yf10, yf11, yf12, yf13, yf14, yf15, yf16, yf17, yf18⟩ := id Y1
  go_wp2_with fail
  clear xf0 xf1 xf2 xf3 xf4 xf5 xf6 xf7 xf8 xf9 xf10 xf11 xf12 xf13 xf14 xf15 xf16 xf17 xf18 yf0 yf1 yf2 yf3 yf4 yf5 yf6 yf7 yf8 yf9 yf10 yf11 yf12 yf13 yf14 yf15 yf16 yf17 yf18
  refine (rcompare_at a.t b.f c _ hc.out).mono ?_
  rintro e w2 ⟨rfl, hb⟩
  have B2 := Lib.hid (B1.out.up hb)
  have X2 := X1.up hb
  have Y2 := Y1.up hb
  clear hb B1  X1 Y1
  obtain ⟨xf0, xf1, xf2, xf3, xf4, xf5, xf6, xf7, xf8, xf9, xf10, xf11, xf12, xf13, xf14, xf15, xf16, xf17, xf18⟩ := id X2
  obtain ⟨yf0, yf1, yf2, yf3, yf4, yf5, yf6, yf7, yf8, yf9, yf10, yf11, yf12, yf13, yf14, yf15, yf16, yf17, yf18⟩ := id Y2
  go_wp2_with fail
  clear xf0 xf1 xf2 xf3 xf4 xf5 xf6 xf7 xf8 xf9 xf10 xf11 xf12 xf13 xf14 xf15 xf16 xf17 xf18 yf0 yf1 yf2 yf3 yf4 yf5 yf6 yf7 yf8 yf9 yf10 yf11 yf12 yf13 yf14 yf15 yf16 yf17 yf18
  refine (rcompare_at b.t a.f d _ hd.out).mono ?_
  rintro e w3 ⟨rfl, hb⟩
  have B3 := Lib.hid (B2.out.up hb)
  have X3 := X2.up hb
  have Y3 := Y2.up hb
  clear hb B2  X2 Y2
  obtain ⟨xf0, xf1, xf2, xf3, xf4, xf5, xf6, xf7, xf8, xf9, xf10, xf11, xf12, xf13, xf14, xf15, xf16, xf17, xf18⟩ := id X3
  obtain ⟨yf0, yf1, yf2, yf3, yf4, yf5, yf6, yf7, yf8, yf9, yf10, yf11, yf12, yf13, yf14, yf15, yf16, yf17, yf18⟩ := id Y3
  go_wp2_with fail
  clear xf0 xf1 xf2 xf3 xf4 xf5 xf6 xf7 xf8 xf9 xf10 xf11 xf12 xf13 xf14 xf15 xf16 xf17 xf18 yf0 yf1 yf2 yf3 yf4 yf5 yf6 yf7 yf8 yf9 yf10 yf11 yf12 yf13 yf14 yf15 yf16 yf17 yf18
  refine (rcompare_at a.t b.f c _ hc.out).mono ?_
  rintro e w4 ⟨rfl, hb⟩
  have B4 := Lib.hid (B3.out.up hb)
  have X4 := X3.up hb
  have Y4 := Y3.up hb
  clear hb B3  X3 Y3
  obtain ⟨xf0, xf1, xf2, xf3, xf4, xf5, xf6, xf7, xf8, xf9, xf10, xf11, xf12, xf13, xf14, xf15, xf16, xf17, xf18⟩ := id X4
  obtain ⟨yf0, yf1, yf2, yf3, yf4, yf5, yf6, yf7, yf8, yf9, yf10, yf11, yf12, yf13, yf14, yf15, yf16, yf17, yf18⟩ := id Y4
  go_wp2_with fail
  clear xf0 xf1 xf2 xf3 xf4 xf5 xf6 xf7 xf8 xf9 xf10 xf11 xf12 xf13 xf14 xf15 xf16 xf17 xf18 yf0 yf1 yf2 yf3 yf4 yf5 yf6 yf7 yf8 yf9 yf10 yf11 yf12 yf13 yf14 yf15 yf16 yf17 yf18
  refine (rcompare_at b.t a.f d _ hd.out).mono ?_
  rintro e w5 ⟨rfl, hb⟩
  have B5 := Lib.hid (B4.out.up hb)
  have X5 := X4.up hb
  have Y5 := Y4.up hb
  clear hb B4  X4 Y4
  obtain ⟨xf0, xf1, xf2, xf3, xf4, xf5, xf6, xf7, xf8, xf9, xf10, xf11, xf12, xf13, xf14, xf15, xf16, xf17, xf18⟩ := id X5
  obtain ⟨yf0, yf1, yf2, yf3, yf4, yf5, yf6, yf7, yf8, yf9, yf10, yf11, yf12, yf13, yf14, yf15, yf16, yf17, yf18⟩ := id Y5
  go_wp2_with fail
  clear xf0 xf1 xf2 xf3 xf4 xf5 xf6 xf7 xf8 xf9 xf10 xf11 xf12 xf13 xf14 xf15 xf16 xf17 xf18 yf0 yf1 yf2 yf3 yf4 yf5 yf6 yf7 yf8 yf9 yf10 yf11 yf12 yf13 yf14 yf15 yf16 yf17 yf18
  refine (rgroup_at a.k x _ hx.out).mono ?_
  rintro e w6 ⟨rfl, hb⟩
  have B6 := Lib.hid (B5.out.up hb)
  have X6 := X5.up hb
  have Y6 := Y5.up hb
  clear hb B5  X5 Y5
  obtain ⟨xf0, xf1, xf2, xf3, xf4, xf5, xf6, xf7, xf8, xf9, xf10, xf11, xf12, xf13, xf14, xf15, xf16, xf17, xf18⟩ := id X6
  obtain ⟨yf0, yf1, yf2, yf3, yf4, yf5, yf6, yf7, yf8, yf9, yf10, yf11, yf12, yf13, yf14, yf15, yf16, yf17, yf18⟩ := id Y6
  go_wp2_with fail
  go_ret
  exact ⟨rfl, B6.out.out⟩
set_option maxRecDepth 100000 in
set_option maxHeartbeats 2000000 in
theorem rconf_e1 (a b : Sp) (c d x : Int) (w : World) (hg : rgd a b = true) (hc : cmpP a.t b.f = c) (hd : cmpP b.t a.f = d) (hx : rg a.k = x) (h0 : 0 < c) (h1 : d = 0) (h2 : x = 1) :
    Calls Tryd.prog 20 #[.agg #[.int .i64 a.k, .int .i64 a.f.m, .int .i64 a.f.a, .int .i64 a.f.s, .int .i64 a.f.v, .int .i64 a.t.m, .int .i64 a.t.a, .int .i64 a.t.s, .int .i64 a.t.v], .agg #[.int .i64 b.k, .int .i64 b.f.m, .int .i64 b.f.a, .int .i64 b.f.s, .int .i64 b.f.v, .int .i64 b.t.m, .int .i64 b.t.a, .int .i64 b.t.s, .int .i64 b.t.v]] w fun e w' => e = .returned (.bool false) ∧ Below w.heap.size w w' := by
  replace hg := Lib.hid hg
  replace hc := Lib.hid hc
  replace hd := Lib.hid hd
  replace hx := Lib.hid hx
  have q0 : decide (c ≤ 0) = false := decide_eq_false (by omega)
  have q1 : decide (c < 0) = false := decide_eq_false (by omega)
  have q2 : decide (d ≤ 0) = true := decide_eq_true (by omega)
  have q3 : decide (d < 0) = false := decide_eq_false (by omega)
  have z0 : (x == 1) = true := by simpa using h2
  clear h0 h1 h2
  have B0 := Lib.hid (((Bel.refl w).alloc (.cells #[.int .i64 a.k, .int .i64 a.f.m, .int .i64 a.f.a, .int .i64 a.f.s, .int .i64 a.f.v, .int .i64 a.t.m, .int .i64 a.t.a, .int .i64 a.t.s, .int .i64 a.t.v] 25)).alloc (.cells #[.int .i64 b.k, .int .i64 b.f.m, .int .i64 b.f.a, .int .i64 b.f.s, .int .i64 b.f.v, .int .i64 b.t.m, .int .i64 b.t.a, .int .i64 b.t.s, .int .i64 b.t.v] 25))
  have X0 := (Non.new w (.int .i64 a.k) (.int .i64 a.f.m) (.int .i64 a.f.a) (.int .i64 a.f.s) (.int .i64 a.f.v) (.int .i64 a.t.m) (.int .i64 a.t.a) (.int .i64 a.t.s) (.int .i64 a.t.v) 25 (w.heap.size) (by simp)).alloc (.cells #[.int .i64 b.k, .int .i64 b.f.m, .int .i64 b.f.a, .int .i64 b.f.s, .int .i64 b.f.v, .int .i64 b.t.m, .int .i64 b.t.a, .int .i64 b.t.s, .int .i64 b.t.v] 25)
  have Y0 := Non.new (w.alloc (.cells #[.int .i64 a.k, .int .i64 a.f.m, .int .i64 a.f.a, .int .i64 a.f.s, .int .i64 a.f.v, .int .i64 a.t.m, .int .i64 a.t.a, .int .i64 a.t.s, .int .i64 a.t.v] 25)) (.int .i64 b.k) (.int .i64 b.f.m) (.int .i64 b.f.a) (.int .i64 b.f.s) (.int .i64 b.f.v) (.int .i64 b.t.m) (.int .i64 b.t.a) (.int .i64 b.t.s) (.int .i64 b.t.v) 25 (w.heap.size + 1) (by simp)
  go_enter Tryd.func20, Tryd.ntmps20
  obtain ⟨xf0, xf1, xf2, xf3, xf4, xf5, xf6, xf7, xf8, xf9, xf10, xf11, xf12, xf13, xf14, xf15, xf16, xf17, xf18⟩ := id X0
  obtain ⟨yf0, yf1, yf2, yf3, yf4, yf5, yf6, yf7, yf8, yf9, yf10, yf11, yf12, yf13, yf14, yf15, yf16, yf17, yf18⟩ := id Y0
  go_wp2_with fail
  clear xf0 xf1 xf2 xf3 xf4 xf5 xf6 xf7 xf8 xf9 xf10 xf11 xf12 xf13 xf14 xf15 xf16 xf17 xf18 yf0 yf1 yf2 yf3 yf4 yf5 yf6 yf7 yf8 yf9 yf10 yf11 yf12 yf13 yf14 yf15 yf16 yf17 yf18
  refine (grouped_at a b true _ hg.out).mono ?_
  rintro e w1 ⟨rfl, hb⟩
  have B1 := Lib.hid (B0.out.up hb)
  have X1 := X0.up hb
  have Y1 := Y0.up hb
  clear hb B0  X0 Y0
  obtain ⟨xf0, xf1, xf2, xf3, xf4, xf5, xf6, xf7, xf8, xf9, xf10, xf11, xf12, xf13, xf14, xf15, xf16, xf17, xf18⟩ := id X1
  obtain ⟨yf0, yf1, yf2, yf3, yf4, yf5, yf6, yf7, yf8, yf9, yf10, yf11, yf12, yf13, yf14, yf15, yf16, yf17, yf18⟩ := id Y1
  go_wp2_with fail
  clear xf0 xf1 xf2 xf3 xf4 xf5 xf6 xf7 xf8 xf9 xf10 xf11 xf12 xf13 xf14 xf15 xf16 xf17 xf18 yf0 yf1 yf2 yf3 yf4 yf5 yf6 yf7 yf8 yf9 yf10 yf11 yf12 yf13 yf14 yf15 yf16 yf17 yf18
  refine (rcompare_at a.t b.f c _ hc.out).mono ?_
  rintro e w2 ⟨rfl, hb⟩
  have B2 := Lib.hid (B1.out.up hb)
  have X2 := X1.up hb
  have Y2 := Y1.up hb
  clear hb B1  X1 Y1
  obtain ⟨xf0, xf1, xf2, xf3, xf4, xf5, xf6, xf7, xf8, xf9, xf10, xf11, xf12, xf13, xf14, xf15, xf16, xf17, xf18⟩ := id X2
  obtain ⟨yf0, yf1, yf2, yf3, yf4, yf5, yf6, yf7, yf8, yf9, yf10, yf11, yf12, yf13, yf14, yf15, yf16, yf17, yf18⟩ := id Y2
  go_wp2_with fail
  clear xf0 xf1 xf2 xf3 xf4 xf5 xf6 xf7 xf8 xf9 xf10 xf11 xf12 xf13 xf14 xf15 xf16 xf17 xf18 yf0 yf1 yf2 yf3 yf4 yf5 yf6 yf7 yf8 yf9 yf10 yf11 yf12 yf13 yf14 yf15 yf16 yf17 yf18
  refine (rcompare_at b.t a.f d _ hd.out).mono ?_
  rintro e w3 ⟨rfl, hb⟩
  have B3 := Lib.hid (B2.out.up hb)
  have X3 := X2.up hb
  have Y3 := Y2.up hb
  clear hb B2  X2 Y2
  obtain ⟨xf0, xf1, xf2, xf3, xf4, xf5, xf6, xf7, xf8, xf9, xf10, xf11, xf12, xf13, xf14, xf15, xf16, xf17, xf18⟩ := id X3
  obtain ⟨yf0, yf1, yf2, yf3, yf4, yf5, yf6, yf7, yf8, yf9, yf10, yf11, yf12, yf13, yf14, yf15, yf16, yf17, yf18⟩ := id Y3
  go_wp2_with fail
  clear xf0 xf1 xf2 xf3 xf4 xf5 xf6 xf7 xf8 xf9 xf10 xf11 xf12 xf13 xf14 xf15 xf16 xf17 xf18 yf0 yf1 yf2 yf3 yf4 yf5 yf6 yf7 yf8 yf9 yf10 yf11 yf12 yf13 yf14 yf15 yf16 yf17 yf18
  refine (rcompare_at a.t b.f c _ hc.out).mono ?_
  rintro e w4 ⟨rfl, hb⟩
  have B4 := Lib.hid (B3.out.up hb)
  have X4 := X3.up hb
  have Y4 := Y3.up hb
  clear hb B3  X3 Y3
  obtain ⟨xf0, xf1, xf2, xf3, xf4, xf5, xf6, xf7, xf8, xf9, xf10, xf11, xf12, xf13, xf14, xf15, xf16, xf17, xf18⟩ := id X4
  obtain ⟨yf0, yf1, yf2, yf3, yf4, yf5, yf6, yf7, yf8, yf9, yf10, yf11, yf12, yf13, yf14, yf15, yf16, yf17, yf18⟩ := id Y4
  go_wp2_with fail
  clear xf0 xf1 xf2 xf3 xf4 xf5 xf6 xf7 xf8 xf9 xf10 xf11 xf12 xf13 xf14 xf15 xf16 xf17 xf18 yf0 yf1 yf2 yf3 yf4 yf5 yf6 yf7 yf8 yf9 yf10 yf11 yf12 yf13 yf14 yf15 yf16 yf17 yf18
  refine (rcompare_at b.t a.f d _ hd.out).mono ?_
  rintro e w5 ⟨rfl, hb⟩
  have B5 := Lib.hid (B4.out.up hb)
  have X5 := X4.up hb
  have Y5 := Y4.up hb
  clear hb B4  X4 Y4
  obtain ⟨xf0, xf1, xf2, xf3, xf4, xf5, xf6, xf7, xf8, xf9, xf10, xf11, xf12, xf13, xf14, xf15, xf16, xf17, xf18⟩ := id X5
  obtain ⟨yf0, yf1, yf2, yf3, yf4, yf5, yf6, yf7, yf8, yf9, yf10, yf11, yf12, yf13, yf14, yf15, yf16, yf17, yf18⟩ := id Y5
  go_wp2_with fail
  clear xf0 xf1 xf2 xf3 xf4 xf5 xf6 xf7 xf8 xf9 xf10 xf11 xf12 xf13 xf14 xf15 xf16 xf17 xf18 yf0 yf1 yf2 yf3 yf4 yf5 yf6 yf7 yf8 yf9 yf10 yf11 yf12 yf13 yf14 yf15 yf16 yf17 yf18
  refine (rgroup_at a.k x _ hx.out).mono ?_
  rintro e w6 ⟨rfl, hb⟩
  have B6 := Lib.hid (B5.out.up hb)
  have X6 := X5.up hb
  have Y6 := Y5.up hb
  clear hb B5  X5 Y5
  obtain ⟨xf0, xf1, xf2, xf3, xf4, xf5, xf6, xf7, xf8, xf9, xf10, xf11, xf12, xf13, xf14, xf15, xf16, xf17, xf18⟩ := id X6
  obtain ⟨yf0, yf1, yf2, yf3, yf4, yf5, yf6, yf7, yf8, yf9, yf10, yf11, yf12, yf13, yf14, yf15, yf16, yf17, yf18⟩ := id Y6
  go_wp2_with fail
  clear xf0 xf1 xf2 xf3 xf4 xf5 xf6 xf7 xf8 xf9 xf10 xf11 xf12 xf13 xf14 xf15 xf16 xf17 xf18 yf0 yf1 yf2 yf3 yf4 yf5 yf6 yf7 yf8 yf9 yf10 yf11 yf12 yf13 yf14 yf15 yf16 yf17 yf18
  refine Qt.regionAll (by kernel_rfl) (by kernel_rfl) ?_
  intro T f_ F hne
  have RB := Lib.hid (fun g => B6.out.up (F.below g))
  have RX := fun g => X6.up (F.below g)
  have RX0 := fun g => (RX g).c0
  have RX1 := fun g => (RX g).c1
  have RX2 := fun g => (RX g).c2
  have RX3 := fun g => (RX g).c3
  have RX4 := fun g => (RX g).c4
  have RX5 := fun g => (RX g).c5
  have RX6 := fun g => (RX g).c6
  have RX7 := fun g => (RX g).c7
  have RX8 := fun g => (RX g).c8
  have RY := fun g => Y6.up (F.below g)
  have RY0 := fun g => (RY g).c0
  have RY1 := fun g => (RY g).c1
  have RY2 := fun g => (RY g).c2
  have RY3 := fun g => (RY g).c3
  have RY4 := fun g => (RY g).c4
  have RY5 := fun g => (RY g).c5
  have RY6 := fun g => (RY g).c6
  have RY7 := fun g => (RY g).c7
  have RY8 := fun g => (RY g).c8
  repeat (go_big_quiet_step (fail))
  refine wpQuiet_nil ?_
  rintro _ ⟨gT, rfl⟩
  have B7 := Lib.hid (RB.out gT)
  have X7 := RX gT
  have Y7 := RY gT
  clear F RB hne RX RX0 RX1 RX2 RX3 RX4 RX5 RX6 RX7 RX8 RY RY0 RY1 RY2 RY3 RY4 RY5 RY6 RY7 RY8 B6 X6 Y6
  generalize f_ gT = w7 at *
  clear f_
  obtain ⟨xf0, xf1, xf2, xf3, xf4, xf5, xf6, xf7, xf8, xf9, xf10, xf11, xf12, xf13, xf14, xf15, xf16, xf17, xf18⟩ := id X7
  obtain ⟨yf0, yf1, yf2, yf3, yf4, yf5, yf6, yf7, yf8, yf9, yf10, yf11, yf12, yf13, yf14, yf15, yf16, yf17, yf18⟩ := id Y7
  go_wp2_with fail
  go_ret
  exact ⟨rfl, B7.out.out⟩
set_option maxRecDepth 100000 in
set_option maxHeartbeats 2000000 in
theorem rconf_e3 (a b : Sp) (c d x : Int) (w : World) (hg : rgd a b = true) (hc : cmpP a.t b.f = c) (hd : cmpP b.t a.f = d) (hx : rg a.k = x) (h0 : 0 < c) (h1 : d = 0) (h2 : x = 3) :
    Calls Tryd.prog 20 #[.agg #[.int .i64 a.k, .int .i64 a.f.m, .int .i64 a.f.a, .int .i64 a.f.s, .int .i64 a.f.v, .int .i64 a.t.m, .int .i64 a.t.a, .int .i64 a.t.s, .int .i64 a.t.v], .agg #[.int .i64 b.k, .int .i64 b.f.m, .int .i64 b.f.a, .int .i64 b.f.s, .int .i64 b.f.v, .int .i64 b.t.m, .int .i64 b.t.a, .int .i64 b.t.s, .int .i64 b.t.v]] w fun e w' => e = .returned (.bool true) ∧ Below w.heap.size w w' := by
  replace hg := Lib.hid hg
  replace hc := Lib.hid hc
  replace hd := Lib.hid hd
  replace hx := Lib.hid hx
  have q0 : decide (c ≤ 0) = false := decide_eq_false (by omega)
  have q1 : decide (c < 0) = false := decide_eq_false (by omega)
  have q2 : decide (d ≤ 0) = true := decide_eq_true (by omega)
  have q3 : decide (d < 0) = false := decide_eq_false (by omega)
  have z0 : (x == 1) = false := by simp [h2]
  have z1 : (x == 3) = true := by simpa using h2
  clear h0 h1 h2
  have B0 := Lib.hid (((Bel.refl w).alloc (.cells #[.int .i64 a.k, .int .i64 a.f.m, .int .i64 a.f.a, .int .i64 a.f.s, .int .i64 a.f.v, .int .i64 a.t.m, .int .i64 a.t.a, .int .i64 a.t.s, .int .i64 a.t.v] 25)).alloc (.cells #[.int .i64 b.k, .int .i64 b.f.m, .int .i64 b.f.a, .int .i64 b.f.s, .int .i64 b.f.v, .int .i64 b.t.m, .int .i64 b.t.a, .int .i64 b.t.s, .int .i64 b.t.v] 25))
  have X0 := (Non.new w (.int .i64 a.k) (.int .i64 a.f.m) (.int .i64 a.f.a) (.int .i64 a.f.s) (.int .i64 a.f.v) (.int .i64 a.t.m) (.int .i64 a.t.a) (.int .i64 a.t.s) (.int .i64 a.t.v) 25 (w.heap.size) (by simp)).alloc (.cells #[.int .i64 b.k, .int .i64 b.f.m, .int .i64 b.f.a, .int .i64 b.f.s, .int .i64 b.f.v, .int .i64 b.t.m, .int .i64 b.t.a, .int .i64 b.t.s, .int .i64 b.t.v] 25)
  have Y0 := Non.new (w.alloc (.cells #[.int .i64 a.k, .int .i64 a.f.m, .int .i64 a.f.a, .int .i64 a.f.s, .int .i64 a.f.v, .int .i64 a.t.m, .int .i64 a.t.a, .int .i64 a.t.s, .int .i64 a.t.v] 25)) (.int .i64 b.k) (.int .i64 b.f.m) (.int .i64 b.f.a) (.int .i64 b.f.s) (.int .i64 b.f.v) (.int .i64 b.t.m) (.int .i64 b.t.a) (.int .i64 b.t.s) (.int .i64 b.t.v) 25 (w.heap.size + 1) (by simp)
  go_enter Tryd.func20, Tryd.ntmps20
  obtain ⟨xf0, xf1, xf2, xf3, xf4, xf5, xf6, xf7, xf8, xf9, xf10, xf11, xf12, xf13, xf14, xf15, xf16, xf17, xf18⟩ := id X0
  obtain ⟨yf0, yf1, yf2, yf3, yf4, yf5, yf6, yf7, yf8, yf9, yf10, yf11, yf12, yf13, yf14, yf15, yf16, yf17, yf18⟩ := id Y0
  go_wp2_with fail
  clear xf0 xf1 xf2 xf3 xf4 xf5 xf6 xf7 xf8 xf9 xf10 xf11 xf12 xf13 xf14 xf15 xf16 xf17 xf18 yf0 yf1 yf2 yf3 yf4 yf5 yf6 yf7 yf8 yf9 yf10 yf11 yf12 yf13 yf14 yf15 yf16 yf17 yf18
  refine (grouped_at a b true _ hg.out).mono ?_
  rintro e w1 ⟨rfl, hb⟩
  have B1 := Lib.hid (B0.out.up hb)
  have X1 := X0.up hb
  have Y1 := Y0.up hb
  clear hb B0  X0 Y0
  obtain ⟨xf0, xf1, xf2, xf3, xf4, xf5, xf6, xf7, xf8, xf9, xf10, xf11, xf12, xf13, xf14, xf15, xf16, xf17, xf18⟩ := id X1
  obtain ⟨yf0, yf1, yf2, yf3, yf4, yf5, yf6, yf7, yf8, yf9, yf10, yf11, yf12, yf13, yf14, yf15, yf16, yf17, yf18⟩ := id Y1
  go_wp2_with fail
  clear xf0 xf1 xf2 xf3 xf4 xf5 xf6 xf7 xf8 xf9 xf10 xf11 xf12 xf13 xf14 xf15 xf16 xf17 xf18 yf0 yf1 yf2 yf3 yf4 yf5 yf6 yf7 yf8 yf9 yf10 yf11 yf12 yf13 yf14 yf15 yf16 yf17 yf18
  refine (rcompare_at a.t b.f c _ hc.out).mono ?_
  rintro e w2 ⟨rfl, hb⟩
  have B2 := Lib.hid (B1.out.up hb)
  have X2 := X1.up hb
  have Y2 := Y1.up hb
  clear hb B1  X1 Y1
  obtain ⟨xf0, xf1, xf2, xf3, xf4, xf5, xf6, xf7, xf8, xf9, xf10, xf11, xf12, xf13, xf14, xf15, xf16, xf17, xf18⟩ := id X2
  obtain ⟨yf0, yf1, yf2, yf3, yf4, yf5, yf6, yf7, yf8, yf9, yf10, yf11, yf12, yf13, yf14, yf15, yf16, yf17, yf18⟩ := id Y2
  go_wp2_with fail
  clear xf0 xf1 xf2 xf3 xf4 xf5 xf6 xf7 xf8 xf9 xf10 xf11 xf12 xf13 xf14 xf15 xf16 xf17 xf18 yf0 yf1 yf2 yf3 yf4 yf5 yf6 yf7 yf8 yf9 yf10 yf11 yf12 yf13 yf14 yf15 yf16 yf17 yf18
  refine (rcompare_at b.t a.f d _ hd.out).mono ?_
  rintro e w3 ⟨rfl, hb⟩
  have B3 := Lib.hid (B2.out.up hb)
  have X3 := X2.up hb
  have Y3 := Y2.up hb
  clear hb B2  X2 Y2
  obtain ⟨xf0, xf1, xf2, xf3, xf4, xf5, xf6, xf7, xf8, xf9, xf10, xf11, xf12, xf13, xf14, xf15, xf16, xf17, xf18⟩ := id X3
  obtain ⟨yf0, yf1, yf2, yf3, yf4, yf5, yf6, yf7, yf8, yf9, yf10, yf11, yf12, yf13, yf14, yf15, yf16, yf17, yf18⟩ := id Y3
  go_wp2_with fail
  clear xf0 xf1 xf2 xf3 xf4 xf5 xf6 xf7 xf8 xf9 xf10 xf11 xf12 xf13 xf14 xf15 xf16 xf17 xf18 yf0 yf1 yf2 yf3 yf4 yf5 yf6 yf7 yf8 yf9 yf10 yf11 yf12 yf13 yf14 yf15 yf16 yf17 yf18
  refine (rcompare_at a.t b.f c _ hc.out).mono ?_
  rintro e w4 ⟨rfl, hb⟩
  have B4 := Lib.hid (B3.out.up hb)
  have X4 := X3.up hb
  have Y4 := Y3.up hb
  clear hb B3  X3 Y3
  obtain ⟨xf0, xf1, xf2, xf3, xf4, xf5, xf6, xf7, xf8, xf9, xf10, xf11, xf12, xf13, xf14, xf15, xf16, xf17, xf18⟩ := id X4
  obtain ⟨yf0, yf1, yf2, yf3, yf4, yf5, yf6, yf7, yf8, yf9, yf10, yf11, yf12, yf13, yf14, yf15, yf16, yf17, yf18⟩ := id Y4
  go_wp2_with fail
  clear xf0 xf1 xf2 xf3 xf4 xf5 xf6 xf7 xf8 xf9 xf10 xf11 xf12 xf13 xf14 xf15 xf16 xf17 xf18 yf0 yf1 yf2 yf3 yf4 yf5 yf6 yf7 yf8 yf9 yf10 yf11 yf12 yf13 yf14 yf15 yf16 yf17 yf18
  refine (rcompare_at b.t a.f d _ hd.out).mono ?_
  rintro e w5 ⟨rfl, hb⟩
  have B5 := Lib.hid (B4.out.up hb)
  have X5 := X4.up hb
  have Y5 := Y4.up hb
  clear hb B4  X4 Y4
  obtain ⟨xf0, xf1, xf2, xf3, xf4, xf5, xf6, xf7, xf8, xf9, xf10, xf11, xf12, xf13, xf14, xf15, xf16, xf17, xf18⟩ := id X5
  obtain ⟨yf0, yf1, yf2, yf3, yf4, yf5, yf6, yf7, yf8, yf9, yf10, yf11, yf12, yf13, yf14, yf15, yf16, yf17, yf18⟩ := id Y5
  go_wp2_with fail
  clear xf0 xf1 xf2 xf3 xf4 xf5 xf6 xf7 xf8 xf9 xf10 xf11 xf12 xf13 xf14 xf15 xf16 xf17 xf18 yf0 yf1 yf2 yf3 yf4 yf5 yf6 yf7 yf8 yf9 yf10 yf11 yf12 yf13 yf14 yf15 yf16 yf17 yf18
  refine (rgroup_at a.k x _ hx.out).mono ?_
  rintro e w6 ⟨rfl, hb⟩
  have B6 := Lib.hid (B5.out.up hb)
  have X6 := X5.up hb
  have Y6 := Y5.up hb
  clear hb B5  X5 Y5
  obtain ⟨xf0, xf1, xf2, xf3, xf4, xf5, xf6, xf7, xf8, xf9, xf10, xf11, xf12, xf13, xf14, xf15, xf16, xf17, xf18⟩ := id X6
  obtain ⟨yf0, yf1, yf2, yf3, yf4, yf5, yf6, yf7, yf8, yf9, yf10, yf11, yf12, yf13, yf14, yf15, yf16, yf17, yf18⟩ := id Y6
  go_wp2_with fail
  go_ret
  exact ⟨rfl, B6.out.out⟩
set_option maxRecDepth 100000 in
set_option maxHeartbeats 2000000 in
theorem rconf_e5 (a b : Sp) (c d x : Int) (w : World) (hg : rgd a b = true) (hc : cmpP a.t b.f = c) (hd : cmpP b.t a.f = d) (hx : rg a.k = x) (h0 : 0 < c) (h1 : d = 0) (h2 : x = 5) :
    Calls Tryd.prog 20 #[.agg #[.int .i64 a.k, .int .i64 a.f.m, .int .i64 a.f.a, .int .i64 a.f.s, .int .i64 a.f.v, .int .i64 a.t.m, .int .i64 a.t.a, .int .i64 a.t.s, .int .i64 a.t.v], .agg #[.int .i64 b.k, .int .i64 b.f.m, .int .i64 b.f.a, .int .i64 b.f.s, .int .i64 b.f.v, .int .i64 b.t.m, .int .i64 b.t.a, .int .i64 b.t.s, .int .i64 b.t.v]] w fun e w' => e = .returned (.bool true) ∧ Below w.heap.size w w' := by
  replace hg := Lib.hid hg
  replace hc := Lib.hid hc
  replace hd := Lib.hid hd
  replace hx := Lib.hid hx
  have q0 : decide (c ≤ 0) = false := decide_eq_false (by omega)
  have q1 : decide (c < 0) = false := decide_eq_false (by omega)
  have q2 : decide (d ≤ 0) = true := decide_eq_true (by omega)
  have q3 : decide (d < 0) = false := decide_eq_false (by omega)
  have z0 : (x == 1) = false := by simp [h2]
  have z1 : (x == 3) = false := by simp [h2]
  have z2 : (x == 5) = true := by simpa using h2
  clear h0 h1 h2
  have B0 := Lib.hid (((Bel.refl w).alloc (.cells #[.int .i64 a.k, .int .i64 a.f.m, .int .i64 a.f.a, .int .i64 a.f.s, .int .i64 a.f.v, .int .i64 a.t.m, .int .i64 a.t.a, .int .i64 a.t.s, .int .i64 a.t.v] 25)).alloc (.cells #[.int .i64 b.k, .int .i64 b.f.m, .int .i64 b.f.a, .int .i64 b.f.s, .int .i64 b.f.v, .int .i64 b.t.m, .int .i64 b.t.a, .int .i64 b.t.s, .int .i64 b.t.v] 25))
  have X0 := (Non.new w (.int .i64 a.k) (.int .i64 a.f.m) (.int .i64 a.f.a) (.int .i64 a.f.s) (.int .i64 a.f.v) (.int .i64 a.t.m) (.int .i64 a.t.a) (.int .i64 a.t.s) (.int .i64 a.t.v) 25 (w.heap.size) (by simp)).alloc (.cells #[.int .i64 b.k, .int .i64 b.f.m, .int .i64 b.f.a, .int .i64 b.f.s, .int .i64 b.f.v, .int .i64 b.t.m, .int .i64 b.t.a, .int .i64 b.t.s, .int .i64 b.t.v] 25)
  have Y0 := Non.new (w.alloc (.cells #[.int .i64 a.k, .int .i64 a.f.m, .int .i64 a.f.a, .int .i64 a.f.s, .int .i64 a.f.v, .int .i64 a.t.m, .int .i64 a.t.a, .int .i64 a.t.s, .int .i64 a.t.v] 25)) (.int .i64 b.k) (.int .i64 b.f.m) (.int .i64 b.f.a) (.int .i64 b.f.s) (.int .i64 b.f.v) (.int .i64 b.t.m) (.int .i64 b.t.a) (.int .i64 b.t.s) (.int .i64 b.t.v) 25 (w.heap.size + 1) (by simp)
  go_enter Tryd.func20, Tryd.ntmps20
  obtain ⟨xf0, xf1, xf2, xf3, xf4, xf5, xf6, xf7, xf8, xf9, xf10, xf11, xf12, xf13, xf14, xf15, xf16, xf17, xf18⟩ := id X0
  obtain ⟨yf0, yf1, yf2, yf3, yf4, yf5, yf6, yf7, yf8, yf9, yf10, yf11, yf12, yf13, yf14, yf15, yf16, yf17, yf18⟩ := id Y0
  go_wp2_with fail
  clear xf0 xf1 xf2 xf3 xf4 xf5 xf6 xf7 xf8 xf9 xf10 xf11 xf12 xf13 xf14 xf15 xf16 xf17 xf18 yf0 yf1 yf2 yf3 yf4 yf5 yf6 yf7 yf8 yf9 yf10 yf11 yf12 yf13 yf14 yf15 yf16 yf17 yf18
  refine (grouped_at a b true _ hg.out).mono ?_
  rintro e w1 ⟨rfl, hb⟩
  have B1 := Lib.hid (B0.out.up hb)
  have X1 := X0.up hb
  have Y1 := Y0.up hb
  clear hb B0  X0 Y0
  obtain ⟨xf0, xf1, xf2, xf3, xf4, xf5, xf6, xf7, xf8, xf9, xf10, xf11, xf12, xf13, xf14, xf15, xf16, xf17, xf18⟩ := id X1
  obtain ⟨yf0, yf1, yf2, yf3, yf4, yf5, yf6, yf7, yf8, yf9, yf10, yf11, yf12, yf13, yf14, yf15, yf16, yf17, yf18⟩ := id Y1
  go_wp2_with fail
  clear xf0 xf1 xf2 xf3 xf4 xf5 xf6 xf7 xf8 xf9 xf10 xf11 xf12 xf13 xf14 xf15 xf16 xf17 xf18 yf0 yf1 yf2 yf3 yf4 yf5 yf6 yf7 yf8 yf9 yf10 yf11 yf12 yf13 yf14 yf15 yf16 yf17 yf18
  refine (rcompare_at a.t b.f c _ hc.out).mono ?_
  rintro e w2 ⟨rfl, hb⟩
  have B2 := Lib.hid (B1.out.up hb)
  have X2 := X1.up hb
  have Y2 := Y1.up hb
  clear hb B1  X1 Y1
  obtain ⟨xf0, xf1, xf2, xf3, xf4, xf5, xf6, xf7, xf8, xf9, xf10, xf11, xf12, xf13, xf14, xf15, xf16, xf17, xf18⟩ := id X2
  obtain ⟨yf0, yf1, yf2, yf3, yf4, yf5, yf6, yf7, yf8, yf9, yf10, yf11, yf12, yf13, yf14, yf15, yf16, yf17, yf18⟩ := id Y2
  go_wp2_with fail
  clear xf0 xf1 xf2 xf3 xf4 xf5 xf6 xf7 xf8 xf9 xf10 xf11 xf12 xf13 xf14 xf15 xf16 xf17 xf18 yf0 yf1 yf2 yf3 yf4 yf5 yf6 yf7 yf8 yf9 yf10 yf11 yf12 yf13 yf14 yf15 yf16 yf17 yf18
  refine (rcompare_at b.t a.f d _ hd.out).mono ?_
  rintro e w3 ⟨rfl, hb⟩
  have B3 := Lib.hid (B2.out.up hb)
  have X3 := X2.up hb
  have Y3 := Y2.up hb
  clear hb B2  X2 Y2
  obtain ⟨xf0, xf1, xf2, xf3, xf4, xf5, xf6, xf7, xf8, xf9, xf10, xf11, xf12, xf13, xf14, xf15, xf16, xf17, xf18⟩ := id X3
  obtain ⟨yf0, yf1, yf2, yf3, yf4, yf5, yf6, yf7, yf8, yf9, yf10, yf11, yf12, yf13, yf14, yf15, yf16, yf17, yf18⟩ := id Y3
  go_wp2_with fail
  clear xf0 xf1 xf2 xf3 xf4 xf5 xf6 xf7 xf8 xf9 xf10 xf11 xf12 xf13 xf14 xf15 xf16 xf17 xf18 yf0 yf1 yf2 yf3 yf4 yf5 yf6 yf7 yf8 yf9 yf10 yf11 yf12 yf13 yf14 yf15 yf16 yf17 yf18
  refine (rcompare_at a.t b.f c _ hc.out).mono ?_
  rintro e w4 ⟨rfl, hb⟩
  have B4 := Lib.hid (B3.out.up hb)
  have X4 := X3.up hb
  have Y4 := Y3.up hb
  clear hb B3  X3 Y3
  obtain ⟨xf0, xf1, xf2, xf3, xf4, xf5, xf6, xf7, xf8, xf9, xf10, xf11, xf12, xf13, xf14, xf15, xf16, xf17, xf18⟩ := id X4
  obtain ⟨yf0, yf1, yf2, yf3, yf4, yf5, yf6, yf7, yf8, yf9, yf10, yf11, yf12, yf13, yf14, yf15, yf16, yf17, yf18⟩ := id Y4
  go_wp2_with fail
  clear xf0 xf1 xf2 xf3 xf4 xf5 xf6 xf7 xf8 xf9 xf10 xf11 xf12 xf13 xf14 xf15 xf16 xf17 xf18 yf0 yf1 yf2 yf3 yf4 yf5 yf6 yf7 yf8 yf9 yf10 yf11 yf12 yf13 yf14 yf15 yf16 yf17 yf18
  refine (rcompare_at b.t a.f d _ hd.out).mono ?_
  rintro e w5 ⟨rfl, hb⟩
  have B5 := Lib.hid (B4.out.up hb)
  have X5 := X4.up hb
  have Y5 := Y4.up hb
  clear hb B4  X4 Y4
  obtain ⟨xf0, xf1, xf2, xf3, xf4, xf5, xf6, xf7, xf8, xf9, xf10, xf11, xf12, xf13, xf14, xf15, xf16, xf17, xf18⟩ := id X5
  obtain ⟨yf0, yf1, yf2, yf3, yf4, yf5, yf6, yf7, yf8, yf9, yf10, yf11, yf12, yf13, yf14, yf15, yf16, yf17, yf18⟩ := id Y5
  go_wp2_with fail
  clear xf0 xf1 xf2 xf3 xf4 xf5 xf6 xf7 xf8 xf9 xf10 xf11 xf12 xf13 xf14 xf15 xf16 xf17 xf18 yf0 yf1 yf2 yf3 yf4 yf5 yf6 yf7 yf8 yf9 yf10 yf11 yf12 yf13 yf14 yf15 yf16 yf17 yf18
  refine (rgroup_at a.k x _ hx.out).mono ?_
  rintro e w6 ⟨rfl, hb⟩
  have B6 := Lib.hid (B5.out.up hb)
  have X6 := X5.up hb
  have Y6 := Y5.up hb
  clear hb B5  X5 Y5
  obtain ⟨xf0, xf1, xf2, xf3, xf4, xf5, xf6, xf7, xf8, xf9, xf10, xf11, xf12, xf13, xf14, xf15, xf16, xf17, xf18⟩ := id X6
  obtain ⟨yf0, yf1, yf2, yf3, yf4, yf5, yf6, yf7, yf8, yf9, yf10, yf11, yf12, yf13, yf14, yf15, yf16, yf17, yf18⟩ := id Y6
  go_wp2_with fail
  go_ret
  exact ⟨rfl, B6.out.out⟩
set_option maxRecDepth 100000 in
set_option maxHeartbeats 2000000 in
theorem rconf_eo (a b : Sp) (c d x : Int) (w : World) (hg : rgd a b = true) (hc : cmpP a.t b.f = c) (hd : cmpP b.t a.f = d) (hx : rg a.k = x) (h0 : 0 < c) (h1 : d = 0) (h2 : x ≠ 1) (h3 : x ≠ 3) (h4 : x ≠ 5) :
    Calls Tryd.prog 20 #[.agg #[.int .i64 a.k, .int .i64 a.f.m, .int .i64 a.f.a, .int .i64 a.f.s, .int .i64 a.f.v, .int .i64 a.t.m, .int .i64 a.t.a, .int .i64 a.t.s, .int .i64 a.t.v], .agg #[.int .i64 b.k, .int .i64 b.f.m, .int .i64 b.f.a, .int .i64 b.f.s, .int .i64 b.f.v, .int .i64 b.t.m, .int .i64 b.t.a, .int .i64 b.t.s, .int .i64 b.t.v]] w fun e w' => e = .returned (.bool false) ∧ Below w.heap.size w w' := by
  replace hg := Lib.hid hg
  replace hc := Lib.hid hc
  replace hd := Lib.hid hd
  replace hx := Lib.hid hx
  have q0 : decide (c ≤ 0) = false := decide_eq_false (by omega)
  have q1 : decide (c < 0) = false := decide_eq_false (by omega)
  have q2 : decide (d ≤ 0) = true := decide_eq_true (by omega)
  have q3 : decide (d < 0) = false := decide_eq_false (by omega)
  have z0 : (x == 1) = false := by simpa using h2
  have z1 : (x == 3) = false := by simpa using h3
  have z2 : (x == 5) = false := by simpa using h4
  clear h0 h1 h2 h3 h4
  have B0 := Lib.hid (((Bel.refl w).alloc (.cells #[.int .i64 a.k, .int .i64 a.f.m, .int .i64 a.f.a, .int .i64 a.f.s, .int .i64 a.f.v, .int .i64 a.t.m, .int .i64 a.t.a, .int .i64 a.t.s, .int .i64 a.t.v] 25)).alloc (.cells #[.int .i64 b.k, .int .i64 b.f.m, .int .i64 b.f.a, .int .i64 b.f.s, .int .i64 b.f.v, .int .i64 b.t.m, .int .i64 b.t.a, .int .i64 b.t.s, .int .i64 b.t.v] 25))
  have X0 := (Non.new w (.int .i64 a.k) (.int .i64 a.f.m) (.int .i64 a.f.a) (.int .i64 a.f.s) (.int .i64 a.f.v) (.int .i64 a.t.m) (.int .i64 a.t.a) (.int .i64 a.t.s) (.int .i64 a.t.v) 25 (w.heap.size) (by simp)).alloc (.cells #[.int .i64 b.k, .int .i64 b.f.m, .int .i64 b.f.a, .int .i64 b.f.s, .int .i64 b.f.v, .int .i64 b.t.m, .int .i64 b.t.a, .int .i64 b.t.s, .int .i64 b.t.v] 25)
  have Y0 := Non.new (w.alloc (.cells #[.int .i64 a.k, .int .i64 a.f.m, .int .i64 a.f.a, .int .i64 a.f.s, .int .i64 a.f.v, .int .i64 a.t.m, .int .i64 a.t.a, .int .i64 a.t.s, .int .i64 a.t.v] 25)) (.int .i64 b.k) (.int .i64 b.f.m) (.int .i64 b.f.a) (.int .i64 b.f.s) (.int .i64 b.f.v) (.int .i64 b.t.m) (.int .i64 b.t.a) (.int .i64 b.t.s) (.int .i64 b.t.v) 25 (w.heap.size + 1) (by simp)
  go_enter Tryd.func20, Tryd.ntmps20
  obtain ⟨xf0, xf1, xf2, xf3, xf4, xf5, xf6, xf7, xf8, xf9, xf10, xf11, xf12, xf13, xf14, xf15, xf16, xf17, xf18⟩ := id X0
  obtain ⟨yf0, yf1, yf2, yf3, yf4, yf5, yf6, yf7, yf8, yf9, yf10, yf11, yf12, yf13, yf14, yf15, yf16, yf17, yf18⟩ := id Y0
  go_wp2_with fail
  clear xf0 xf1 xf2 xf3 xf4 xf5 xf6 xf7 xf8 xf9 xf10 xf11 xf12 xf13 xf14 xf15 xf16 xf17 xf18 yf0 yf1 yf2 yf3 yf4 yf5 yf6 yf7 yf8 yf9 yf10 yf11 yf12 yf13 yf14 yf15 yf16 yf17 yf18
  refine (grouped_at a b true _ hg.out).mono ?_
  rintro e w1 ⟨rfl, hb⟩
  have B1 := Lib.hid (B0.out.up hb)
  have X1 := X0.up hb
  have Y1 := Y0.up hb
  clear hb B0  X0 Y0
  obtain ⟨xf0, xf1, xf2, xf3, xf4, xf5, xf6, xf7, xf8, xf9, xf10, xf11, xf12, xf13, xf14, xf15, xf16, xf17, xf18⟩ := id X1
  obtain ⟨yf0, yf1, yf2, yf3, yf4, yf5, yf6, yf7, yf8, yf9, yf10, yf11, yf12, yf13, yf14, yf15, yf16, yf17, yf18⟩ := id Y1
  go_wp2_with fail
  clear xf0 xf1 xf2 xf3 xf4 xf5 xf6 xf7 xf8 xf9 xf10 xf11 xf12 xf13 xf14 xf15 xf16 xf17 xf18 yf0 yf1 yf2 yf3 yf4 yf5 yf6 yf7 yf8 yf9 yf10 yf11 yf12 yf13 yf14 yf15 yf16 yf17 yf18
  refine (rcompare_at a.t b.f c _ hc.out).mono ?_
  rintro e w2 ⟨rfl, hb⟩
  have B2 := Lib.hid (B1.out.up hb)
  have X2 := X1.up hb
  have Y2 := Y1.up hb
  clear hb B1  X1 Y1
  obtain ⟨xf0, xf1, xf2, xf3, xf4, xf5, xf6, xf7, xf8, xf9, xf10, xf11, xf12, xf13, xf14, xf15, xf16, xf17, xf18⟩ := id X2
  obtain ⟨yf0, yf1, yf2, yf3, yf4, yf5, yf6, yf7, yf8, yf9, yf10, yf11, yf12, yf13, yf14, yf15, yf16, yf17, yf18⟩ := id Y2
  go_wp2_with fail
  clear xf0 xf1 xf2 xf3 xf4 xf5 xf6 xf7 xf8 xf9 xf10 xf11 xf12 xf13 xf14 xf15 xf16 xf17 xf18 yf0 yf1 yf2 yf3 yf4 yf5 yf6 yf7 yf8 yf9 yf10 yf11 yf12 yf13 yf14 yf15 yf16 yf17 yf18
  refine (rcompare_at b.t a.f d _ hd.out).mono ?_
  rintro e w3 ⟨rfl, hb⟩
  have B3 := Lib.hid (B2.out.up hb)
  have X3 := X2.up hb
  have Y3 := Y2.up hb
  clear hb B2  X2 Y2
  obtain ⟨xf0, xf1, xf2, xf3, xf4, xf5, xf6, xf7, xf8, xf9, xf10, xf11, xf12, xf13, xf14, xf15, xf16, xf17, xf18⟩ := id X3
  obtain ⟨yf0, yf1, yf2, yf3, yf4, yf5, yf6, yf7, yf8, yf9, yf10, yf11, yf12, yf13, yf14, yf15, yf16, yf17, yf18⟩ := id Y3
  go_wp2_with fail
  clear xf0 xf1 xf2 xf3 xf4 xf5 xf6 xf7 xf8 xf9 xf10 xf11 xf12 xf13 xf14 xf15 xf16 xf17 xf18 yf0 yf1 yf2 yf3 yf4 yf5 yf6 yf7 yf8 yf9 yf10 yf11 yf12 yf13 yf14 yf15 yf16 yf17 yf18
  refine (rcompare_at a.t b.f c _ hc.out).mono ?_
  rintro e w4 ⟨rfl, hb⟩
  have B4 := Lib.hid (B3.out.up hb)
  have X4 := X3.up hb
  have Y4 := Y3.up hb
  clear hb B3  X3 Y3
  obtain ⟨xf0, xf1, xf2, xf3, xf4, xf5, xf6, xf7, xf8, xf9, xf10, xf11, xf12, xf13, xf14, xf15, xf16, xf17, xf18⟩ := id X4
  obtain ⟨yf0, yf1, yf2, yf3, yf4, yf5, yf6, yf7, yf8, yf9, yf10, yf11, yf12, yf13, yf14, yf15, yf16, yf17, yf18⟩ := id Y4
  go_wp2_with fail
  clear xf0 xf1 xf2 xf3 xf4 xf5 xf6 xf7 xf8 xf9 xf10 xf11 xf12 xf13 xf14 xf15 xf16 xf17 xf18 yf0 yf1 yf2 yf3 yf4 yf5 yf6 yf7 yf8 yf9 yf10 yf11 yf12 yf13 yf14 yf15 yf16 yf17 yf18
  refine (rcompare_at b.t a.f d _ hd.out).mono ?_
  rintro e w5 ⟨rfl, hb⟩
  have B5 := Lib.hid (B4.out.up hb)
  have X5 := X4.up hb
  have Y5 := Y4.up hb
  clear hb B4  X4 Y4
  obtain ⟨xf0, xf1, xf2, xf3, xf4, xf5, xf6, xf7, xf8, xf9, xf10, xf11, xf12, xf13, xf14, xf15, xf16, xf17, xf18⟩ := id X5
  obtain ⟨yf0, yf1, yf2, yf3, yf4, yf5, yf6, yf7, yf8, yf9, yf10, yf11, yf12, yf13, yf14, yf15, yf16, yf17, yf18⟩ := id Y5
  go_wp2_with fail
  clear xf0 xf1 xf2 xf3 xf4 xf5 xf6 xf7 xf8 xf9 xf10 xf11 xf12 xf13 xf14 xf15 xf16 xf17 xf18 yf0 yf1 yf2 yf3 yf4 yf5 yf6 yf7 yf8 yf9 yf10 yf11 yf12 yf13 yf14 yf15 yf16 yf17 yf18
  refine (rgroup_at a.k x _ hx.out).mono ?_
  rintro e w6 ⟨rfl, hb⟩
  have B6 := Lib.hid (B5.out.up hb)
  have X6 := X5.up hb
  have Y6 := Y5.up hb
  clear hb B5  X5 Y5
  obtain ⟨xf0, xf1, xf2, xf3, xf4, xf5, xf6, xf7, xf8, xf9, xf10, xf11, xf12, xf13, xf14, xf15, xf16, xf17, xf18⟩ := id X6
  obtain ⟨yf0, yf1, yf2, yf3, yf4, yf5, yf6, yf7, yf8, yf9, yf10, yf11, yf12, yf13, yf14, yf15, yf16, yf17, yf18⟩ := id Y6
  go_wp2_with fail
  go_ret
  exact ⟨rfl, B6.out.out⟩
set_option maxRecDepth 100000 in
set_option maxHeartbeats 2000000 in
theorem rconf_f1 (a b : Sp) (c d x : Int) (u v : Bool) (w : World) (hg : rgd a b = true) (hc : cmpP a.t b.f = c) (hd : cmpP b.t a.f = d) (hx : rg a.k = x) (hu : wth a b = u) (hv : wth b a = v) (h0 : 0 < c) (h1 : 0 < d) (h2 : x = 1) :
    Calls Tryd.prog 20 #[.agg #[.int .i64 a.k, .int .i64 a.f.m, .int .i64 a.f.a, .int .i64 a.f.s, .int .i64 a.f.v, .int .i64 a.t.m, .int .i64 a.t.a, .int .i64 a.t.s, .int .i64 a.t.v], .agg #[.int .i64 b.k, .int .i64 b.f.m, .int .i64 b.f.a, .int .i64 b.f.s, .int .i64 b.f.v, .int .i64 b.t.m, .int .i64 b.t.a, .int .i64 b.t.s, .int .i64 b.t.v]] w fun e w' => e = .returned (.bool (u == v)) ∧ Below w.heap.size w w' := by
  replace hu := Lib.hid hu
  replace hv := Lib.hid hv
  replace hg := Lib.hid hg
  replace hc := Lib.hid hc
  replace hd := Lib.hid hd
  replace hx := Lib.hid hx
  have q0 : decide (c ≤ 0) = false := decide_eq_false (by omega)
  have q1 : decide (c < 0) = false := decide_eq_false (by omega)
  have q2 : decide (d ≤ 0) = false := decide_eq_false (by omega)
  have q3 : decide (d < 0) = false := decide_eq_false (by omega)
  have z0 : (x == 1) = true := by simpa using h2
  clear h0 h1 h2
  have B0 := Lib.hid (((Bel.refl w).alloc (.cells #[.int .i64 a.k, .int .i64 a.f.m, .int .i64 a.f.a, .int .i64 a.f.s, .int .i64 a.f.v, .int .i64 a.t.m, .int .i64 a.t.a, .int .i64 a.t.s, .int .i64 a.t.v] 25)).alloc (.cells #[.int .i64 b.k, .int .i64 b.f.m, .int .i64 b.f.a, .int .i64 b.f.s, .int .i64 b.f.v, .int .i64 b.t.m, .int .i64 b.t.a, .int .i64 b.t.s, .int .i64 b.t.v] 25))
  have X0 := (Non.new w (.int .i64 a.k) (.int .i64 a.f.m) (.int .i64 a.f.a) (.int .i64 a.f.s) (.int .i64 a.f.v) (.int .i64 a.t.m) (.int .i64 a.t.a) (.int .i64 a.t.s) (.int .i64 a.t.v) 25 (w.heap.size) (by simp)).alloc (.cells #[.int .i64 b.k, .int .i64 b.f.m, .int .i64 b.f.a, .int .i64 b.f.s, .int .i64 b.f.v, .int .i64 b.t.m, .int .i64 b.t.a, .int .i64 b.t.s, .int .i64 b.t.v] 25)
  have Y0 := Non.new (w.alloc (.cells #[.int .i64 a.k, .int .i64 a.f.m, .int .i64 a.f.a, .int .i64 a.f.s, .int .i64 a.f.v, .int .i64 a.t.m, .int .i64 a.t.a, .int .i64 a.t.s, .int .i64 a.t.v] 25)) (.int .i64 b.k) (.int .i64 b.f.m) (.int .i64 b.f.a) (.int .i64 b.f.s) (.int .i64 b.f.v) (.int .i64 b.t.m) (.int .i64 b.t.a) (.int .i64 b.t.s) (.int .i64 b.t.v) 25 (w.heap.size + 1) (by simp)
  go_enter Tryd.func20, Tryd.ntmps20
  obtain ⟨xf0, xf1, xf2, xf3, xf4, xf5, xf6, xf7, xf8, xf9, xf10, xf11, xf12, xf13, xf14, xf15, xf16, xf17, xf18⟩ := id X0
  obtain ⟨yf0, yf1, yf2, yf3, yf4, yf5, yf6, yf7, yf8, yf9, yf10, yf11, yf12, yf13, yf14, yf15, yf16, yf17, yf18⟩ := id Y0
  go_wp2_with fail
  clear xf0 xf1 xf2 xf3 xf4 xf5 xf6 xf7 xf8 xf9 xf10 xf11 xf12 xf13 xf14 xf15 xf16 xf17 xf18 yf0 yf1 yf2 yf3 yf4 yf5 yf6 yf7 yf8 yf9 yf10 yf11 yf12 yf13 yf14 yf15 yf16 yf17 yf18
  refine (grouped_at a b true _ hg.out).mono ?_
  rintro e w1 ⟨rfl, hb⟩
  have B1 := Lib.hid (B0.out.up hb)
  have X1 := X0.up hb
  have Y1 := Y0.up hb
  clear hb B0  X0 Y0
  obtain ⟨xf0, xf1, xf2, xf3, xf4, xf5, xf6, xf7, xf8, xf9, xf10, xf11, xf12, xf13, xf14, xf15, xf16, xf17, xf18⟩ := id X1
  obtain ⟨yf0, yf1, yf2, yf3, yf4, yf5, yf6, yf7, yf8, yf9, yf10, yf11, yf12, yf13, yf14, yf15, yf16, yf17, yf18⟩ := id Y1
  go_wp2_with fail
  clear xf0 xf1 xf2 xf3 xf4 xf5 xf6 xf7 xf8 xf9 xf10 xf11 xf12 xf13 xf14 xf15 xf16 xf17 xf18 yf0 yf1 yf2 yf3 yf4 yf5 yf6 yf7 yf8 yf9 yf10 yf11 yf12 yf13 yf14 yf15 yf16 yf17 yf18
  refine (rcompare_at a.t b.f c _ hc.out).mono ?_
  rintro e w2 ⟨rfl, hb⟩
  have B2 := Lib.hid (B1.out.up hb)
  have X2 := X1.up hb
  have Y2 := Y1.up hb
  clear hb B1  X1 Y1
  obtain ⟨xf0, xf1, xf2, xf3, xf4, xf5, xf6, xf7, xf8, xf9, xf10, xf11, xf12, xf13, xf14, xf15, xf16, xf17, xf18⟩ := id X2
  obtain ⟨yf0, yf1, yf2, yf3, yf4, yf5, yf6, yf7, yf8, yf9, yf10, yf11, yf12, yf13, yf14, yf15, yf16, yf17, yf18⟩ := id Y2
  go_wp2_with fail
  clear xf0 xf1 xf2 xf3 xf4 xf5 xf6 xf7 xf8 xf9 xf10 xf11 xf12 xf13 xf14 xf15 xf16 xf17 xf18 yf0 yf1 yf2 yf3 yf4 yf5 yf6 yf7 yf8 yf9 yf10 yf11 yf12 yf13 yf14 yf15 yf16 yf17 yf18
  refine (rcompare_at b.t a.f d _ hd.out).mono ?_
  rintro e w3 ⟨rfl, hb⟩
  have B3 := Lib.hid (B2.out.up hb)
  have X3 := X2.up hb
  have Y3 := Y2.up hb
  clear hb B2  X2 Y2
  obtain ⟨xf0, xf1, xf2, xf3, xf4, xf5, xf6, xf7, xf8, xf9, xf10, xf11, xf12, xf13, xf14, xf15, xf16, xf17, xf18⟩ := id X3
  obtain ⟨yf0, yf1, yf2, yf3, yf4, yf5, yf6, yf7, yf8, yf9, yf10, yf11, yf12, yf13, yf14, yf15, yf16, yf17, yf18⟩ := id Y3
  go_wp2_with fail
  clear xf0 xf1 xf2 xf3 xf4 xf5 xf6 xf7 xf8 xf9 xf10 xf11 xf12 xf13 xf14 xf15 xf16 xf17 xf18 yf0 yf1 yf2 yf3 yf4 yf5 yf6 yf7 yf8 yf9 yf10 yf11 yf12 yf13 yf14 yf15 yf16 yf17 yf18
  refine (rcompare_at a.t b.f c _ hc.out).mono ?_
  rintro e w4 ⟨rfl, hb⟩
  have B4 := Lib.hid (B3.out.up hb)
  have X4 := X3.up hb
  have Y4 := Y3.up hb
  clear hb B3  X3 Y3
  obtain ⟨xf0, xf1, xf2, xf3, xf4, xf5, xf6, xf7, xf8, xf9, xf10, xf11, xf12, xf13, xf14, xf15, xf16, xf17, xf18⟩ := id X4
  obtain ⟨yf0, yf1, yf2, yf3, yf4, yf5, yf6, yf7, yf8, yf9, yf10, yf11, yf12, yf13, yf14, yf15, yf16, yf17, yf18⟩ := id Y4
  go_wp2_with fail
  clear xf0 xf1 xf2 xf3 xf4 xf5 xf6 xf7 xf8 xf9 xf10 xf11 xf12 xf13 xf14 xf15 xf16 xf17 xf18 yf0 yf1 yf2 yf3 yf4 yf5 yf6 yf7 yf8 yf9 yf10 yf11 yf12 yf13 yf14 yf15 yf16 yf17 yf18
  refine (rcompare_at b.t a.f d _ hd.out).mono ?_
  rintro e w5 ⟨rfl, hb⟩
  have B5 := Lib.hid (B4.out.up hb)
  have X5 := X4.up hb
  have Y5 := Y4.up hb
  clear hb B4  X4 Y4
  obtain ⟨xf0, xf1, xf2, xf3, xf4, xf5, xf6, xf7, xf8, xf9, xf10, xf11, xf12, xf13, xf14, xf15, xf16, xf17, xf18⟩ := id X5
  obtain ⟨yf0, yf1, yf2, yf3, yf4, yf5, yf6, yf7, yf8, yf9, yf10, yf11, yf12, yf13, yf14, yf15, yf16, yf17, yf18⟩ := id Y5
  go_wp2_with fail
  clear xf0 xf1 xf2 xf3 xf4 xf5 xf6 xf7 xf8 xf9 xf10 xf11 xf12 xf13 xf14 xf15 xf16 xf17 xf18 yf0 yf1 yf2 yf3 yf4 yf5 yf6 yf7 yf8 yf9 yf10 yf11 yf12 yf13 yf14 yf15 yf16 yf17 yf18
  refine (rgroup_at a.k x _ hx.out).mono ?_
  rintro e w6 ⟨rfl, hb⟩
  have B6 := Lib.hid (B5.out.up hb)
  have X6 := X5.up hb
  have Y6 := Y5.up hb
  clear hb B5  X5 Y5
  obtain ⟨xf0, xf1, xf2, xf3, xf4, xf5, xf6, xf7, xf8, xf9, xf10, xf11, xf12, xf13, xf14, xf15, xf16, xf17, xf18⟩ := id X6
  obtain ⟨yf0, yf1, yf2, yf3, yf4, yf5, yf6, yf7, yf8, yf9, yf10, yf11, yf12, yf13, yf14, yf15, yf16, yf17, yf18⟩ := id Y6
  go_wp2_with fail
  clear xf0 xf1 xf2 xf3 xf4 xf5 xf6 xf7 xf8 xf9 xf10 xf11 xf12 xf13 xf14 xf15 xf16 xf17 xf18 yf0 yf1 yf2 yf3 yf4 yf5 yf6 yf7 yf8 yf9 yf10 yf11 yf12 yf13 yf14 yf15 yf16 yf17 yf18
  refine Qt.regionAll (by kernel_rfl) (by kernel_rfl) ?_
  intro T f_ F hne
  have RB := Lib.hid (fun g => B6.out.up (F.below g))
  have RX := fun g => X6.up (F.below g)
  have RX0 := fun g => (RX g).c0
  have RX1 := fun g => (RX g).c1
  have RX2 := fun g => (RX g).c2
  have RX3 := fun g => (RX g).c3
  have RX4 := fun g => (RX g).c4
  have RX5 := fun g => (RX g).c5
  have RX6 := fun g => (RX g).c6
  have RX7 := fun g => (RX g).c7
  have RX8 := fun g => (RX g).c8
  have RY := fun g => Y6.up (F.below g)
  have RY0 := fun g => (RY g).c0
  have RY1 := fun g => (RY g).c1
  have RY2 := fun g => (RY g).c2
  have RY3 := fun g => (RY g).c3
  have RY4 := fun g => (RY g).c4
  have RY5 := fun g => (RY g).c5
  have RY6 := fun g => (RY g).c6
  have RY7 := fun g => (RY g).c7
  have RY8 := fun g => (RY g).c8
  repeat (go_big_quiet_step (first | (go_at_call 26; with_reducible exact F.call (rwithin_at a b u _ hu.out)) | (go_at_call 26; with_reducible exact F.call (rwithin_at b a v _ hv.out))))
  refine wpQuiet_nil ?_
  rintro _ ⟨gT, rfl⟩
  have B7 := Lib.hid (RB.out gT)
  have X7 := RX gT
  have Y7 := RY gT
  clear F RB hne RX RX0 RX1 RX2 RX3 RX4 RX5 RX6 RX7 RX8 RY RY0 RY1 RY2 RY3 RY4 RY5 RY6 RY7 RY8 B6 X6 Y6
  generalize f_ gT = w7 at *
  clear f_
  obtain ⟨xf0, xf1, xf2, xf3, xf4, xf5, xf6, xf7, xf8, xf9, xf10, xf11, xf12, xf13, xf14, xf15, xf16, xf17, xf18⟩ := id X7
  obtain ⟨yf0, yf1, yf2, yf3, yf4, yf5, yf6, yf7, yf8, yf9, yf10, yf11, yf12, yf13, yf14, yf15, yf16, yf17, yf18⟩ := id Y7
  go_wp2_with fail
  go_ret
  exact ⟨rfl, B7.out.out⟩
set_option maxRecDepth 100000 in
set_option maxHeartbeats 2000000 in
theorem rconf_f3 (a b : Sp) (c d x : Int) (w : World) (hg : rgd a b = true) (hc : cmpP a.t b.f = c) (hd : cmpP b.t a.f = d) (hx : rg a.k = x) (h0 : 0 < c) (h1 : 0 < d) (h2 : x = 3) :
    Calls Tryd.prog 20 #[.agg #[.int .i64 a.k, .int .i64 a.f.m, .int .i64 a.f.a, .int .i64 a.f.s, .int .i64 a.f.v, .int .i64 a.t.m, .int .i64 a.t.a, .int .i64 a.t.s, .int .i64 a.t.v], .agg #[.int .i64 b.k, .int .i64 b.f.m, .int .i64 b.f.a, .int .i64 b.f.s, .int .i64 b.f.v, .int .i64 b.t.m, .int .i64 b.t.a, .int .i64 b.t.s, .int .i64 b.t.v]] w fun e w' => e = .returned (.bool true) ∧ Below w.heap.size w w' := by
  replace hg := Lib.hid hg
  replace hc := Lib.hid hc
  replace hd := Lib.hid hd
  replace hx := Lib.hid hx
  have q0 : decide (c ≤ 0) = false := decide_eq_false (by omega)
  have q1 : decide (c < 0) = false := decide_eq_false (by omega)
  have q2 : decide (d ≤ 0) = false := decide_eq_false (by omega)
  have q3 : decide (d < 0) = false := decide_eq_false (by omega)
  have z0 : (x == 1) = false := by simp [h2]
  have z1 : (x == 3) = true := by simpa using h2
  clear h0 h1 h2
  have B0 := Lib.hid (((Bel.refl w).alloc (.cells #[.int .i64 a.k, .int .i64 a.f.m, .int .i64 a.f.a, .int .i64 a.f.s, .int .i64 a.f.v, .int .i64 a.t.m, .int .i64 a.t.a, .int .i64 a.t.s, .int .i64 a.t.v] 25)).alloc (.cells #[.int .i64 b.k, .int .i64 b.f.m, .int .i64 b.f.a, .int .i64 b.f.s, .int .i64 b.f.v, .int .i64 b.t.m, .int .i64 b.t.a, .int .i64 b.t.s, .int .i64 b.t.v] 25))
  have X0 := (Non.new w (.int .i64 a.k) (.int .i64 a.f.m) (.int .i64 a.f.a) (.int .i64 a.f.s) (.int .i64 a.f.v) (.int .i64 a.t.m) (.int .i64 a.t.a) (.int .i64 a.t.s) (.int .i64 a.t.v) 25 (w.heap.size) (by simp)).alloc (.cells #[.int .i64 b.k, .int .i64 b.f.m, .int .i64 b.f.a, .int .i64 b.f.s, .int .i64 b.f.v, .int .i64 b.t.m, .int .i64 b.t.a, .int .i64 b.t.s, .int .i64 b.t.v] 25)
  have Y0 := Non.new (w.alloc (.cells #[.int .i64 a.k, .int .i64 a.f.m, .int .i64 a.f.a, .int .i64 a.f.s, .int .i64 a.f.v, .int .i64 a.t.m, .int .i64 a.t.a, .int .i64 a.t.s, .int .i64 a.t.v] 25)) (.int .i64 b.k) (.int .i64 b.f.m) (.int .i64 b.f.a) (.int .i64 b.f.s) (.int .i64 b.f.v) (.int .i64 b.t.m) (.int .i64 b.t.a) (.int .i64 b.t.s) (.int .i64 b.t.v) 25 (w.heap.size + 1) (by simp)
  go_enter Tryd.func20, Tryd.ntmps20
  obtain ⟨xf0, xf1, xf2, xf3, xf4, xf5, xf6, xf7, xf8, xf9, xf10, xf11, xf12, xf13, xf14, xf15, xf16, xf17, xf18⟩ := id X0
  obtain ⟨yf0, yf1, yf2, yf3, yf4, yf5, yf6, yf7, yf8, yf9, yf10, yf11, yf12, yf13, yf14, yf15, yf16, yf17, yf18⟩ := id Y0
  go_wp2_with fail
  clear xf0 xf1 xf2 xf3 xf4 xf5 xf6 xf7 xf8 xf9 xf10 xf11 xf12 xf13 xf14 xf15 xf16 xf17 xf18 yf0 yf1 yf2 yf3 yf4 yf5 yf6 yf7 yf8 yf9 yf10 yf11 yf12 yf13 yf14 yf15 yf16 yf17 yf18
  refine (grouped_at a b true _ hg.out).mono ?_
  rintro e w1 ⟨rfl, hb⟩
  have B1 := Lib.hid (B0.out.up hb)
  have X1 := X0.up hb
  have Y1 := Y0.up hb
  clear hb B0  X0 Y0
  obtain ⟨xf0, xf1, xf2, xf3, xf4, xf5, xf6, xf7, xf8, xf9, xf10, xf11, xf12, xf13, xf14, xf15, xf16, xf17, xf18⟩ := id X1
  obtain ⟨yf0, yf1, yf2, yf3, yf4, yf5, yf6, yf7, yf8, yf9, yf10, yf11, yf12, yf13, yf14, yf15, yf16, yf17, yf18⟩ := id Y1
  go_wp2_with fail
  clear xf0 xf1 xf2 xf3 xf4 xf5 xf6 xf7 xf8 xf9 xf10 xf11 xf12 xf13 xf14 xf15 xf16 xf17 xf18 yf0 yf1 yf2 yf3 yf4 yf5 yf6 yf7 yf8 yf9 yf10 yf11 yf12 yf13 yf14 yf15 yf16 yf17 yf18
  refine (rcompare_at a.t b.f c _ hc.out).mono ?_
  rintro e w2 ⟨rfl, hb⟩
  have B2 := Lib.hid (B1.out.up hb)
  have X2 := X1.up hb
  have Y2 := Y1.up hb
  clear hb B1  X1 Y1
  obtain ⟨xf0, xf1, xf2, xf3, xf4, xf5, xf6, xf7, xf8, xf9, xf10, xf11, xf12, xf13, xf14, xf15, xf16, xf17, xf18⟩ := id X2
  obtain ⟨yf0, yf1, yf2, yf3, yf4, yf5, yf6, yf7, yf8, yf9, yf10, yf11, yf12, yf13, yf14, yf15, yf16, yf17, yf18⟩ := id Y2
  go_wp2_with fail
  clear xf0 xf1 xf2 xf3 xf4 xf5 xf6 xf7 xf8 xf9 xf10 xf11 xf12 xf13 xf14 xf15 xf16 xf17 xf18 yf0 yf1 yf2 yf3 yf4 yf5 yf6 yf7 yf8 yf9 yf10 yf11 yf12 yf13 yf14 yf15 yf16 yf17 yf18
  refine (rcompare_at b.t a.f d _ hd.out).mono ?_
  rintro e w3 ⟨rfl, hb⟩
  have B3 := Lib.hid (B2.out.up hb)
  have X3 := X2.up hb
  have Y3 := Y2.up hb
  clear hb B2  X2 Y2
  obtain ⟨xf0, xf1, xf2, xf3, xf4, xf5, xf6, xf7, xf8, xf9, xf10, xf11, xf12, xf13, xf14, xf15, xf16, xf17, xf18⟩ := id X3
  obtain ⟨yf0, yf1, yf2, yf3, yf4, yf5, yf6, yf7, yf8, yf9, yf10, yf11, yf12, yf13, yf14, yf15, yf16, yf17, yf18⟩ := id Y3
  go_wp2_with fail
  clear xf0 xf1 xf2 xf3 xf4 xf5 xf6 xf7 xf8 xf9 xf10 xf11 xf12 xf13 xf14 xf15 xf16 xf17 xf18 yf0 yf1 yf2 yf3 yf4 yf5 yf6 yf7 yf8 yf9 yf10 yf11 yf12 yf13 yf14 yf15 yf16 yf17 yf18
  refine (rcompare_at a.t b.f c _ hc.out).mono ?_
  rintro e w4 ⟨rfl, hb⟩
  have B4 := Lib.hid (B3.out.up hb)
  have X4 := X3.up hb
  have Y4 := Y3.up hb
  clear hb B3  X3 Y3
  obtain ⟨xf0, xf1, xf2, xf3, xf4, xf5, xf6, xf7, xf8, xf9, xf10, xf11, xf12, xf13, xf14, xf15, xf16, xf17, xf18⟩ := id X4
  obtain ⟨yf0, yf1, yf2, yf3, yf4, yf5, yf6, yf7, yf8, yf9, yf10, yf11, yf12, yf13, yf14, yf15, yf16, yf17, yf18⟩ := id Y4
  go_wp2_with fail
  clear xf0 xf1 xf2 xf3 xf4 xf5 xf6 xf7 xf8 xf9 xf10 xf11 xf12 xf13 xf14 xf15 xf16 xf17 xf18 yf0 yf1 yf2 yf3 yf4 yf5 yf6 yf7 yf8 yf9 yf10 yf11 yf12 yf13 yf14 yf15 yf16 yf17 yf18
  refine (rcompare_at b.t a.f d _ hd.out).mono ?_
  rintro e w5 ⟨rfl, hb⟩
  have B5 := Lib.hid (B4.out.up hb)
  have X5 := X4.up hb
  have Y5 := Y4.up hb
  clear hb B4  X4 Y4
  obtain ⟨xf0, xf1, xf2, xf3, xf4, xf5, xf6, xf7, xf8, xf9, xf10, xf11, xf12, xf13, xf14, xf15, xf16, xf17, xf18⟩ := id X5
  obtain ⟨yf0, yf1, yf2, yf3, yf4, yf5, yf6, yf7, yf8, yf9, yf10, yf11, yf12, yf13, yf14, yf15, yf16, yf17, yf18⟩ := id Y5
  go_wp2_with fail
  clear xf0 xf1 xf2 xf3 xf4 xf5 xf6 xf7 xf8 xf9 xf10 xf11 xf12 xf13 xf14 xf15 xf16 xf17 xf18 yf0 yf1 yf2 yf3 yf4 yf5 yf6 yf7 yf8 yf9 yf10 yf11 yf12 yf13 yf14 yf15 yf16 yf17 yf18
  refine (rgroup_at a.k x _ hx.out).mono ?_
  rintro e w6 ⟨rfl, hb⟩
  have B6 := Lib.hid (B5.out.up hb)
  have X6 := X5.up hb
  have Y6 := Y5.up hb
  clear hb B5  X5 Y5
  obtain ⟨xf0, xf1, xf2, xf3, xf4, xf5, xf6, xf7, xf8, xf9, xf10, xf11, xf12, xf13, xf14, xf15, xf16, xf17, xf18⟩ := id X6
  obtain ⟨yf0, yf1, yf2, yf3, yf4, yf5, yf6, yf7, yf8, yf9, yf10, yf11, yf12, yf13, yf14, yf15, yf16, yf17, yf18⟩ := id Y6
  go_wp2_with fail
  go_ret
  exact ⟨rfl, B6.out.out⟩
set_option maxRecDepth 100000 in
set_option maxHeartbeats 2000000 in
theorem rconf_f5 (a b : Sp) (c d x : Int) (w : World) (hg : rgd a b = true) (hc : cmpP a.t b.f = c) (hd : cmpP b.t a.f = d) (hx : rg a.k = x) (h0 : 0 < c) (h1 : 0 < d) (h2 : x = 5) :
    Calls Tryd.prog 20 #[.agg #[.int .i64 a.k, .int .i64 a.f.m, .int .i64 a.f.a, .int .i64 a.f.s, .int .i64 a.f.v, .int .i64 a.t.m, .int .i64 a.t.a, .int .i64 a.t.s, .int .i64 a.t.v], .agg #[.int .i64 b.k, .int .i64 b.f.m, .int .i64 b.f.a, .int .i64 b.f.s, .int .i64 b.f.v, .int .i64 b.t.m, .int .i64 b.t.a, .int .i64 b.t.s, .int .i64 b.t.v]] w fun e w' => e = .returned (.bool true) ∧ Below w.heap.size w w' := by
  replace hg := Lib.hid hg
  replace hc := Lib.hid hc
  replace hd := Lib.hid hd
  replace hx := Lib.hid hx
  have q0 : decide (c ≤ 0) = false := decide_eq_false (by omega)
  have q1 : decide (c < 0) = false := decide_eq_false (by omega)
  have q2 : decide (d ≤ 0) = false := decide_eq_false (by omega)
  have q3 : decide (d < 0) = false := decide_eq_false (by omega)
  have z0 : (x == 1) = false := by simp [h2]
  have z1 : (x == 3) = false := by simp [h2]
  have z2 : (x == 5) = true := by simpa using h2
  clear h0 h1 h2
  have B0 := Lib.hid (((Bel.refl w).alloc (.cells #[.int .i64 a.k, .int .i64 a.f.m, .int .i64 a.f.a, .int .i64 a.f.s, .int .i64 a.f.v, .int .i64 a.t.m, .int .i64 a.t.a, .int .i64 a.t.s, .int .i64 a.t.v] 25)).alloc (.cells #[.int .i64 b.k, .int .i64 b.f.m, .int .i64 b.f.a, .int .i64 b.f.s, .int .i64 b.f.v, .int .i64 b.t.m, .int .i64 b.t.a, .int .i64 b.t.s, .int .i64 b.t.v] 25))
  have X0 := (Non.new w (.int .i64 a.k) (.int .i64 a.f.m) (.int .i64 a.f.a) (.int .i64 a.f.s) (.int .i64 a.f.v) (.int .i64 a.t.m) (.int .i64 a.t.a) (.int .i64 a.t.s) (.int .i64 a.t.v) 25 (w.heap.size) (by simp)).alloc (.cells #[.int .i64 b.k, .int .i64 b.f.m, .int .i64 b.f.a, .int .i64 b.f.s, .int .i64 b.f.v, .int .i64 b.t.m, .int .i64 b.t.a, .int .i64 b.t.s, .int .i64 b.t.v] 25)
  have Y0 := Non.new (w.alloc (.cells #[.int .i64 a.k, .int .i64 a.f.m, .int .i64 a.f.a, .int .i64 a.f.s, .int .i64 a.f.v, .int .i64 a.t.m, .int .i64 a.t.a, .int .i64 a.t.s, .int .i64 a.t.v] 25)) (.int .i64 b.k) (.int .i64 b.f.m) (.int .i64 b.f.a) (.int .i64 b.f.s) (.int .i64 b.f.v) (.int .i64 b.t.m) (.int .i64 b.t.a) (.int .i64 b.t.s) (.int .i64 b.t.v) 25 (w.heap.size + 1) (by simp)
  go_enter Tryd.func20, Tryd.ntmps20
  obtain ⟨xf0, xf1, xf2, xf3, xf4, xf5, xf6, xf7, xf8, xf9, xf10, xf11, xf12, xf13, xf14, xf15, xf16, xf17, xf18⟩ := id X0
  obtain ⟨yf0, yf1, yf2, yf3, yf4, yf5, yf6, yf7, yf8, yf9, yf10, yf11, yf12, yf13, yf14, yf15, yf16, yf17, yf18⟩ := id Y0
  go_wp2_with fail
  clear xf0 xf1 xf2 xf3 xf4 xf5 xf6 xf7 xf8 xf9 xf10 xf11 xf12 xf13 xf14 xf15 xf16 xf17 xf18 yf0 yf1 yf2 yf3 yf4 yf5 yf6 yf7 yf8 yf9 yf10 yf11 yf12 yf13 yf14 yf15 yf16 yf17 yf18
  refine (grouped_at a b true _ hg.out).mono ?_
  rintro e w1 ⟨rfl, hb⟩
  have B1 := Lib.hid (B0.out.up hb)
  have X1 := X0.up hb
  have Y1 := Y0.up hb
  clear hb B0  X0 Y0
  obtain ⟨xf0, xf1, xf2, xf3, xf4, xf5, xf6, xf7, xf8, xf9, xf10, xf11, xf12, xf13, xf14, xf15, xf16, xf17, xf18⟩ := id X1
  obtain ⟨yf0, yf1, yf2, yf3, yf4, yf5, yf6, yf7, yf8, yf9, yf10, yf11, yf12, yf13, yf14, yf15, yf16, yf17, yf18⟩ := id Y1
  go_wp2_with fail
  clear xf0 xf1 xf2 xf3 xf4 xf5 xf6 xf7 xf8 xf9 xf10 xf11 xf12 xf13 xf14 xf15 xf16 xf17 xf18 yf0 yf1 yf2 yf3 yf4 yf5 yf6 yf7 yf8 yf9 yf10 yf11 yf12 yf13 yf14 yf15 yf16 yf17 yf18
  refine (rcompare_at a.t b.f c _ hc.out).mono ?_
  rintro e w2 ⟨rfl, hb⟩
  have B2 := Lib.hid (B1.out.up hb)
  have X2 := X1.up hb
  have Y2 := Y1.up hb
  clear hb B1  X1 Y1
  obtain ⟨xf0, xf1, xf2, xf3, xf4, xf5, xf6, xf7, xf8, xf9, xf10, xf11, xf12, xf13, xf14, xf15, xf16, xf17, xf18⟩ := id X2
  obtain ⟨yf0, yf1, yf2, yf3, yf4, yf5, yf6, yf7, yf8, yf9, yf10, yf11, yf12, yf13, yf14, yf15, yf16, yf17, yf18⟩ := id Y2
  go_wp2_with fail
  clear xf0 xf1 xf2 xf3 xf4 xf5 xf6 xf7 xf8 xf9 xf10 xf11 xf12 xf13 xf14 xf15 xf16 xf17 xf18 yf0 yf1 yf2 yf3 yf4 yf5 yf6 yf7 yf8 yf9 yf10 yf11 yf12 yf13 yf14 yf15 yf16 yf17 yf18
  refine (rcompare_at b.t a.f d _ hd.out).mono ?_
  rintro e w3 ⟨rfl, hb⟩
  have B3 := Lib.hid (B2.out.up hb)
  have X3 := X2.up hb
  have Y3 := Y2.up hb
  clear hb B2  X2 Y2
  obtain ⟨xf0, xf1, xf2, xf3, xf4, xf5, xf6, xf7, xf8, xf9, xf10, xf11, xf12, xf13, xf14, xf15, xf16, xf17, xf18⟩ := id X3
  obtain ⟨yf0, yf1, yf2, yf3, yf4, yf5, yf6, yf7, yf8, yf9, yf10, yf11, yf12, yf13, yf14, yf15, yf16, yf17, yf18⟩ := id Y3
  go_wp2_with fail
  clear xf0 xf1 xf2 xf3 xf4 xf5 xf6 xf7 xf8 xf9 xf10 xf11 xf12 xf13 xf14 xf15 xf16 xf17 xf18 yf0 yf1 yf2 yf3 yf4 yf5 yf6 yf7 yf8 yf9 yf10 yf11 yf12 yf13 yf14 yf15 yf16 yf17 yf18
  refine (rcompare_at a.t b.f c _ hc.out).mono ?_
  rintro e w4 ⟨rfl, hb⟩
  have B4 := Lib.hid (B3.out.up hb)
  have X4 := X3.up hb
  have Y4 := Y3.up hb
  clear hb B3  X3 Y3
  obtain ⟨xf0, xf1, xf2, xf3, xf4, xf5, xf6, xf7, xf8, xf9, xf10, xf11, xf12, xf13, xf14, xf15, xf16, xf17, xf18⟩ := id X4
  obtain ⟨yf0, yf1, yf2, yf3, yf4, yf5, yf6, yf7, yf8, yf9, yf10, yf11, yf12, yf13, yf14, yf15, yf16, yf17, yf18⟩ := id Y4
  go_wp2_with fail
  clear xf0 xf1 xf2 xf3 xf4 xf5 xf6 xf7 xf8 xf9 xf10 xf11 xf12 xf13 xf14 xf15 xf16 xf17 xf18 yf0 yf1 yf2 yf3 yf4 yf5 yf6 yf7 yf8 yf9 yf10 yf11 yf12 yf13 yf14 yf15 yf16 yf17 yf18
  refine (rcompare_at b.t a.f d _ hd.out).mono ?_
  rintro e w5 ⟨rfl, hb⟩
  have B5 := Lib.hid (B4.out.up hb)
  have X5 := X4.up hb
  have Y5 := Y4.up hb
  clear hb B4  X4 Y4
  obtain ⟨xf0, xf1, xf2, xf3, xf4, xf5, xf6, xf7, xf8, xf9, xf10, xf11, xf12, xf13, xf14, xf15, xf16, xf17, xf18⟩ := id X5
  obtain ⟨yf0, yf1, yf2, yf3, yf4, yf5, yf6, yf7, yf8, yf9, yf10, yf11, yf12, yf13, yf14, yf15, yf16, yf17, yf18⟩ := id Y5
  go_wp2_with fail
  clear xf0 xf1 xf2 xf3 xf4 xf5 xf6 xf7 xf8 xf9 xf10 xf11 xf12 xf13 xf14 xf15 xf16 xf17 xf18 yf0 yf1 yf2 yf3 yf4 yf5 yf6 yf7 yf8 yf9 yf10 yf11 yf12 yf13 yf14 yf15 yf16 yf17 yf18
  refine (rgroup_at a.k x _ hx.out).mono ?_
  rintro e w6 ⟨rfl, hb⟩
  have B6 := Lib.hid (B5.out.up hb)
  have X6 := X5.up hb
  have Y6 := Y5.up hb
  clear hb B5  X5 Y5
  obtain ⟨xf0, xf1, xf2, xf3, xf4, xf5, xf6, xf7, xf8, xf9, xf10, xf11, xf12, xf13, xf14, xf15, xf16, xf17, xf18⟩ := id X6
  obtain ⟨yf0, yf1, yf2, yf3, yf4, yf5, yf6, yf7, yf8, yf9, yf10, yf11, yf12, yf13, yf14, yf15, yf16, yf17, yf18⟩ := id Y6
  go_wp2_with fail
  go_ret
  exact ⟨rfl, B6.out.out⟩
set_option maxRecDepth 100000 in
set_option maxHeartbeats 2000000 in
theorem rconf_fo (a b : Sp) (c d x : Int) (w : World) (hg : rgd a b = true) (hc : cmpP a.t b.f = c) (hd : cmpP b.t a.f = d) (hx : rg a.k = x) (h0 : 0 < c) (h1 : 0 < d) (h2 : x ≠ 1) (h3 : x ≠ 3) (h4 : x ≠ 5) :
    Calls Tryd.prog 20 #[.agg #[.int .i64 a.k, .int .i64 a.f.m, .int .i64 a.f.a, .int .i64 a.f.s, .int .i64 a.f.v, .int .i64 a.t.m, .int .i64 a.t.a, .int .i64 a.t.s, .int .i64 a.t.v], .agg #[.int .i64 b.k, .int .i64 b.f.m, .int .i64 b.f.a, .int .i64 b.f.s, .int .i64 b.f.v, .int .i64 b.t.m, .int .i64 b.t.a, .int .i64 b.t.s, .int .i64 b.t.v]] w fun e w' => e = .returned (.bool true) ∧ Below w.heap.size w w' := by
  replace hg := Lib.hid hg
  replace hc := Lib.hid hc
  replace hd := Lib.hid hd
  replace hx := Lib.hid hx
  have q0 : decide (c ≤ 0) = false := decide_eq_false (by omega)
  have q1 : decide (c < 0) = false := decide_eq_false (by omega)
  have q2 : decide (d ≤ 0) = false := decide_eq_false (by omega)
  have q3 : decide (d < 0) = false := decide_eq_false (by omega)
  have z0 : (x == 1) = false := by simpa using h2
  have z1 : (x == 3) = false := by simpa using h3
  have z2 : (x == 5) = false := by simpa using h4
  clear h0 h1 h2 h3 h4
  have B0 := Lib.hid (((Bel.refl w).alloc (.cells #[.int .i64 a.k, .int .i64 a.f.m, .int .i64 a.f.a, .int .i64 a.f.s, .int .i64 a.f.v, .int .i64 a.t.m, .int .i64 a.t.a, .int .i64 a.t.s, .int .i64 a.t.v] 25)).alloc (.cells #[.int .i64 b.k, .int .i64 b.f.m, .int .i64 b.f.a, .int .i64 b.f.s, .int .i64 b.f.v, .int .i64 b.t.m, .int .i64 b.t.a, .int .i64 b.t.s, .int .i64 b.t.v] 25))
  have X0 := (Non.new w (.int .i64 a.k) (.int .i64 a.f.m) (.int .i64 a.f.a) (.int .i64 a.f.s) (.int .i64 a.f.v) (.int .i64 a.t.m) (.int .i64 a.t.a) (.int .i64 a.t.s) (.int .i64 a.t.v) 25 (w.heap.size) (by simp)).alloc (.cells #[.int .i64 b.k, .int .i64 b.f.m, .int .i64 b.f.a, .int .i64 b.f.s, .int .i64 b.f.v, .int .i64 b.t.m, .int .i64 b.t.a, .int .i64 b.t.s, .int .i64 b.t.v] 25)
  have Y0 := Non.new (w.alloc (.cells #[.int .i64 a.k, .int .i64 a.f.m, .int .i64 a.f.a, .int .i64 a.f.s, .int .i64 a.f.v, .int .i64 a.t.m, .int .i64 a.t.a, .int .i64 a.t.s, .int .i64 a.t.v] 25)) (.int .i64 b.k) (.int .i64 b.f.m) (.int .i64 b.f.a) (.int .i64 b.f.s) (.int .i64 b.f.v) (.int .i64 b.t.m) (.int .i64 b.t.a) (.int .i64 b.t.s) (.int .i64 b.t.v) 25 (w.heap.size + 1) (by simp)
  go_enter Tryd.func20, Tryd.ntmps20
  obtain ⟨xf0, xf1, xf2, xf3, xf4, xf5, xf6, xf7, xf8, xf9, xf10, xf11, xf12, xf13, xf14, xf15, xf16, xf17, xf18⟩ := id X0
  obtain ⟨yf0, yf1, yf2, yf3, yf4, yf5, yf6, yf7, yf8, yf9, yf10, yf11, yf12, yf13, yf14, yf15, yf16, yf17, yf18⟩ := id Y0
  go_wp2_with fail
  clear xf0 xf1 xf2 xf3 xf4 xf5 xf6 xf7 xf8 xf9 xf10 xf11 xf12 xf13 xf14 xf15 xf16 xf17 xf18 yf0 yf1 yf2 yf3 yf4 yf5 yf6 yf7 yf8 yf9 yf10 yf11 yf12 yf13 yf14 yf15 yf16 yf17 yf18
  refine (grouped_at a b true _ hg.out).mono ?_
  rintro e w1 ⟨rfl, hb⟩
  have B1 := Lib.hid (B0.out.up hb)
  have X1 := X0.up hb
  have Y1 := Y0.up hb
  clear hb B0  X0 Y0
  obtain ⟨xf0, xf1, xf2, xf3, xf4, xf5, xf6, xf7, xf8, xf9, xf10, xf11, xf12, xf13, xf14, xf15, xf16, xf17, xf18⟩ := id X1
  obtain ⟨yf0, yf1, yf2, yf3, yf4, yf5, yf6, yf7, yf8, yf9, yf10, yf11, yf12, yf13, yf14, yf15, yf16, yf17, yf18⟩ := id Y1
  go_wp2_with fail
  clear xf0 xf1 xf2 xf3 xf4 xf5 xf6 xf7 xf8 xf9 xf10 xf11 xf12 xf13 xf14 xf15 xf16 xf17 xf18 yf0 yf1 yf2 yf3 yf4 yf5 yf6 yf7 yf8 yf9 yf10 yf11 yf12 yf13 yf14 yf15 yf16 yf17 yf18
  refine (rcompare_at a.t b.f c _ hc.out).mono ?_
  rintro e w2 ⟨rfl, hb⟩
  have B2 := Lib.hid (B1.out.up hb)
  have X2 := X1.up hb
  have Y2 := Y1.up hb
  clear hb B1  X1 Y1
  obtain ⟨xf0, xf1, xf2, xf3, xf4, xf5, xf6, xf7, xf8, xf9, xf10, xf11, xf12, xf13, xf14, xf15, xf16, xf17, xf18⟩ := id X2
  obtain ⟨yf0, yf1, yf2, yf3, yf4, yf5, yf6, yf7, yf8, yf9, yf10, yf11, yf12, yf13, yf14, yf15, yf16, yf17, yf18⟩ := id Y2
  go_wp2_with fail
  clear xf0 xf1 xf2 xf3 xf4 xf5 xf6 xf7 xf8 xf9 xf10 xf11 xf12 xf13 xf14 xf15 xf16 xf17 xf18 yf0 yf1 yf2 yf3 yf4 yf5 yf6 yf7 yf8 yf9 yf10 yf11 yf12 yf13 yf14 yf15 yf16 yf17 yf18
  refine (rcompare_at b.t a.f d _ hd.out).mono ?_
  rintro e w3 ⟨rfl, hb⟩
  have B3 := Lib.hid (B2.out.up hb)
  have X3 := X2.up hb
  have Y3 := Y2.up hb
  clear hb B2  X2 Y2
  obtain ⟨xf0, xf1, xf2, xf3, xf4, xf5, xf6, xf7, xf8, xf9, xf10, xf11, xf12, xf13, xf14, xf15, xf16, xf17, xf18⟩ := id X3
  obtain ⟨yf0, yf1, yf2, yf3, yf4, yf5, yf6, yf7, yf8, yf9, yf10, yf11, yf12, yf13, yf14, yf15, yf16, yf17, yf18⟩ := id Y3
  go_wp2_with fail
  clear xf0 xf1 xf2 xf3 xf4 xf5 xf6 xf7 xf8 xf9 xf10 xf11 xf12 xf13 xf14 xf15 xf16 xf17 xf18 yf0 yf1 yf2 yf3 yf4 yf5 yf6 yf7 yf8 yf9 yf10 yf11 yf12 yf13 yf14 yf15 yf16 yf17 yf18
  refine (rcompare_at a.t b.f c _ hc.out).mono ?_
  rintro e w4 ⟨rfl, hb⟩
  have B4 := Lib.hid (B3.out.up hb)
  have X4 := X3.up hb
  have Y4 := Y3.up hb
  clear hb B3  X3 Y3
  obtain ⟨xf0, xf1, xf2, xf3, xf4, xf5, xf6, xf7, xf8, xf9, xf10, xf11, xf12, xf13, xf14, xf15, xf16, xf17, xf18⟩ := id X4
  obtain ⟨yf0, yf1, yf2, yf3, yf4, yf5, yf6, yf7, yf8, yf9, yf10, yf11, yf12, yf13, yf14, yf15, yf16, yf17, yf18⟩ := id Y4
  go_wp2_with fail
  clear xf0 xf1 xf2 xf3 xf4 xf5 xf6 xf7 xf8 xf9 xf10 xf11 xf12 xf13 xf14 xf15 xf16 xf17 xf18 yf0 yf1 yf2 yf3 yf4 yf5 yf6 yf7 yf8 yf9 yf10 yf11 yf12 yf13 yf14 yf15 yf16 yf17 yf18
  refine (rcompare_at b.t a.f d _ hd.out).mono ?_
  rintro e w5 ⟨rfl, hb⟩
  have B5 := Lib.hid (B4.out.up hb)
  have X5 := X4.up hb
  have Y5 := Y4.up hb
  clear hb B4  X4 Y4
  obtain ⟨xf0, xf1, xf2, xf3, xf4, xf5, xf6, xf7, xf8, xf9, xf10, xf11, xf12, xf13, xf14, xf15, xf16, xf17, xf18⟩ := id X5
  obtain ⟨yf0, yf1, yf2, yf3, yf4, yf5, yf6, yf7, yf8, yf9, yf10, yf11, yf12, yf13, yf14, yf15, yf16, yf17, yf18⟩ := id Y5
  go_wp2_with fail
  clear xf0 xf1 xf2 xf3 xf4 xf5 xf6 xf7 xf8 xf9 xf10 xf11 xf12 xf13 xf14 xf15 xf16 xf17 xf18 yf0 yf1 yf2 yf3 yf4 yf5 yf6 yf7 yf8 yf9 yf10 yf11 yf12 yf13 yf14 yf15 yf16 yf17 yf18
  refine (rgroup_at a.k x _ hx.out).mono ?_
  rintro e w6 ⟨rfl, hb⟩
  have B6 := Lib.hid (B5.out.up hb)
  have X6 := X5.up hb
  have Y6 := Y5.up hb
  clear hb B5  X5 Y5
  obtain ⟨xf0, xf1, xf2, xf3, xf4, xf5, xf6, xf7, xf8, xf9, xf10, xf11, xf12, xf13, xf14, xf15, xf16, xf17, xf18⟩ := id X6
  obtain ⟨yf0, yf1, yf2, yf3, yf4, yf5, yf6, yf7, yf8, yf9, yf10, yf11, yf12, yf13, yf14, yf15, yf16, yf17, yf18⟩ := id Y6
  go_wp2_with fail
  go_ret
  exact ⟨rfl, B6.out.out⟩
theorem rcf_at (a b : Sp) (r : Bool) (w : World) (h : cf a b = r) : Calls Tryd.prog 20 #[.agg #[.int .i64 a.k, .int .i64 a.f.m, .int .i64 a.f.a, .int .i64 a.f.s, .int .i64 a.f.v, .int .i64 a.t.m, .int .i64 a.t.a, .int .i64 a.t.s, .int .i64 a.t.v], .agg #[.int .i64 b.k, .int .i64 b.f.m, .int .i64 b.f.a, .int .i64 b.f.s, .int .i64 b.f.v, .int .i64 b.t.m, .int .i64 b.t.a, .int .i64 b.t.s, .int .i64 b.t.v]] w fun e w' => e = .returned (.bool r) ∧ Below w.heap.size w w' := by
  subst h
  have hcf : cf a b = (rgd a b && exc a.k a b) := by rw [rgd_ok]; unfold cf; cases isK a.k <;> simp
  cases hg : rgd a b
  · rw [show cf a b = false from by rw [hcf, hg]; rfl]; exact rconf_n a b w hg
  rw [hcf, hg, Bool.true_and]
  obtain ⟨c, hc⟩ : ∃ c, cmpP a.t b.f = c := ⟨_, rfl⟩
  obtain ⟨d, hd⟩ : ∃ d, cmpP b.t a.f = d := ⟨_, rfl⟩
  obtain ⟨x, hx⟩ : ∃ x, rg a.k = x := ⟨_, rfl⟩
  have hne : rg a.k ≠ 0 := fun e => by simp [rgd, e] at hg
  obtain ⟨k1, k2⟩ := rg_kind hne
  rw [hx] at k1 k2
  have ho : ovl a b = (decide (0 < c) && decide (0 < d)) := by unfold ovl; rw [hc, hd]
  have ht : tch a b = (decide (0 ≤ c) && decide (0 ≤ d)) := by unfold tch; rw [hc, hd]
  by_cases h1 : x = 1
  · have e1 : exc a.k a b = (ovl a b && (wth a b == wth b a)) := by unfold exc; rw [if_pos (k1.1 h1)]; rfl
    rw [e1, ho]
    rcases Int.lt_trichotomy c 0 with g0 | g0 | g0
    · rw [show (decide (0 < c) && decide (0 < d) && (wth a b == wth b a)) = false from by rw [decide_eq_false (show ¬ 0 < c by omega)]; simp]; exact rconf_a1 a b c d x w hg hc hd hx g0 h1
    · by_cases g1 : d < 0
      · rw [show (decide (0 < c) && decide (0 < d) && (wth a b == wth b a)) = false from by rw [decide_eq_false (show ¬ 0 < c by omega)]; simp]; exact rconf_b1 a b c d x w hg hc hd hx g0 g1 h1
      · rw [show (decide (0 < c) && decide (0 < d) && (wth a b == wth b a)) = false from by rw [decide_eq_false (show ¬ 0 < c by omega)]; simp]; exact rconf_c1 a b c d x w hg hc hd hx g0 g1 h1
    · rcases Int.lt_trichotomy d 0 with g1 | g1 | g1
      · rw [show (decide (0 < c) && decide (0 < d) && (wth a b == wth b a)) = false from by rw [decide_eq_false (show ¬ 0 < d by omega)]; simp]; exact rconf_d1 a b c d x w hg hc hd hx g0 g1 h1
      · rw [show (decide (0 < c) && decide (0 < d) && (wth a b == wth b a)) = false from by rw [decide_eq_false (show ¬ 0 < d by omega)]; simp]; exact rconf_e1 a b c d x w hg hc hd hx g0 g1 h1
      · rw [show (decide (0 < c) && decide (0 < d) && (wth a b == wth b a)) = (wth a b == wth b a) from by rw [decide_eq_true (show 0 < c by omega), decide_eq_true (show 0 < d by omega)]; simp]; exact rconf_f1 a b c d x _ _ w hg hc hd hx rfl rfl g0 g1 h1
  · have a1 : a.k ≠ 1 := fun e => h1 (k1.2 e)
    by_cases h35 : x = 3 ∨ x = 5
    · have e1 : exc a.k a b = tch a b := by unfold exc; rw [if_neg a1, if_pos (k2.1 h35)]
      rw [e1, ht]
      rcases h35 with h3 | h5
      · skip
        rcases Int.lt_trichotomy c 0 with g0 | g0 | g0
        · rw [show (decide (0 ≤ c) && decide (0 ≤ d)) = false from by rw [decide_eq_false (show ¬ 0 ≤ c by omega)]; simp]; exact rconf_a3 a b c d x w hg hc hd hx g0 h3
        · by_cases g1 : d < 0
          · rw [show (decide (0 ≤ c) && decide (0 ≤ d)) = false from by rw [decide_eq_false (show ¬ 0 ≤ d by omega)]; simp]; exact rconf_b3 a b c d x w hg hc hd hx g0 g1 h3
          · rw [show (decide (0 ≤ c) && decide (0 ≤ d)) = true from by rw [decide_eq_true (show 0 ≤ c by omega), decide_eq_true (show 0 ≤ d by omega)]; simp]; exact rconf_c3 a b c d x w hg hc hd hx g0 g1 h3
        · rcases Int.lt_trichotomy d 0 with g1 | g1 | g1
          · rw [show (decide (0 ≤ c) && decide (0 ≤ d)) = false from by rw [decide_eq_false (show ¬ 0 ≤ d by omega)]; simp]; exact rconf_d3 a b c d x w hg hc hd hx g0 g1 h3
          · rw [show (decide (0 ≤ c) && decide (0 ≤ d)) = true from by rw [decide_eq_true (show 0 ≤ c by omega), decide_eq_true (show 0 ≤ d by omega)]; simp]; exact rconf_e3 a b c d x w hg hc hd hx g0 g1 h3
          · rw [show (decide (0 ≤ c) && decide (0 ≤ d)) = true from by rw [decide_eq_true (show 0 ≤ c by omega), decide_eq_true (show 0 ≤ d by omega)]; simp]; exact rconf_f3 a b c d x w hg hc hd hx g0 g1 h3
      · skip
        rcases Int.lt_trichotomy c 0 with g0 | g0 | g0
        · rw [show (decide (0 ≤ c) && decide (0 ≤ d)) = false from by rw [decide_eq_false (show ¬ 0 ≤ c by omega)]; simp]; exact rconf_a5 a b c d x w hg hc hd hx g0 h5
        · by_cases g1 : d < 0
          · rw [show (decide (0 ≤ c) && decide (0 ≤ d)) = false from by rw [decide_eq_false (show ¬ 0 ≤ d by omega)]; simp]; exact rconf_b5 a b c d x w hg hc hd hx g0 g1 h5
          · rw [show (decide (0 ≤ c) && decide (0 ≤ d)) = true from by rw [decide_eq_true (show 0 ≤ c by omega), decide_eq_true (show 0 ≤ d by omega)]; simp]; exact rconf_c5 a b c d x w hg hc hd hx g0 g1 h5
        · rcases Int.lt_trichotomy d 0 with g1 | g1 | g1
          · rw [show (decide (0 ≤ c) && decide (0 ≤ d)) = false from by rw [decide_eq_false (show ¬ 0 ≤ d by omega)]; simp]; exact rconf_d5 a b c d x w hg hc hd hx g0 g1 h5
          · rw [show (decide (0 ≤ c) && decide (0 ≤ d)) = true from by rw [decide_eq_true (show 0 ≤ c by omega), decide_eq_true (show 0 ≤ d by omega)]; simp]; exact rconf_e5 a b c d x w hg hc hd hx g0 g1 h5
          · rw [show (decide (0 ≤ c) && decide (0 ≤ d)) = true from by rw [decide_eq_true (show 0 ≤ c by omega), decide_eq_true (show 0 ≤ d by omega)]; simp]; exact rconf_f5 a b c d x w hg hc hd hx g0 g1 h5
    · have e1 : exc a.k a b = ovl a b := by unfold exc; rw [if_neg a1, if_neg (fun e => h35 (k2.2 e))]
      rw [e1, ho]
      rcases Int.lt_trichotomy c 0 with g0 | g0 | g0
      · rw [show (decide (0 < c) && decide (0 < d)) = false from by rw [decide_eq_false (show ¬ 0 < c by omega)]; simp]; exact rconf_ao a b c d x w hg hc hd hx g0 h1 (fun e => h35 (.inl e)) (fun e => h35 (.inr e))
      · by_cases g1 : d < 0
        · rw [show (decide (0 < c) && decide (0 < d)) = false from by rw [decide_eq_false (show ¬ 0 < c by omega)]; simp]; exact rconf_bo a b c d x w hg hc hd hx g0 g1 h1 (fun e => h35 (.inl e)) (fun e => h35 (.inr e))
        · rw [show (decide (0 < c) && decide (0 < d)) = false from by rw [decide_eq_false (show ¬ 0 < c by omega)]; simp]; exact rconf_co a b c d x w hg hc hd hx g0 g1 h1 (fun e => h35 (.inl e)) (fun e => h35 (.inr e))
      · rcases Int.lt_trichotomy d 0 with g1 | g1 | g1
        · rw [show (decide (0 < c) && decide (0 < d)) = false from by rw [decide_eq_false (show ¬ 0 < d by omega)]; simp]; exact rconf_do a b c d x w hg hc hd hx g0 g1 h1 (fun e => h35 (.inl e)) (fun e => h35 (.inr e))
        · rw [show (decide (0 < c) && decide (0 < d)) = false from by rw [decide_eq_false (show ¬ 0 < d by omega)]; simp]; exact rconf_eo a b c d x w hg hc hd hx g0 g1 h1 (fun e => h35 (.inl e)) (fun e => h35 (.inr e))
        · rw [show (decide (0 < c) && decide (0 < d)) = true from by rw [decide_eq_true (show 0 < c by omega), decide_eq_true (show 0 < d by omega)]; simp]; exact rconf_fo a b c d x w hg hc hd hx g0 g1 h1 (fun e => h35 (.inl e)) (fun e => h35 (.inr e))
end Go.Proofs.YtabafabebodojaaDoor
