/- Spans: overlap, touch, within. -/
import Derived.Test.YtabafabebodojaaDoorSc
namespace Go.Proofs.YtabafabebodojaaDoor
open Go.RowKit
set_option linter.unusedVariables false
set_option linter.unusedSimpArgs false

set_option maxRecDepth 100000 in
set_option maxHeartbeats 2000000 in
theorem overlap_0 (a b : Sp) (c d : Int) (w : World) (hc : cmpP a.t b.f = c) (hd : cmpP b.t a.f = d) (h0 : 0 < c) (h1 : 0 < d) :
    Calls Tryd.prog 61 #[.agg #[.int .i64 a.k, .int .i64 a.f.m, .int .i64 a.f.a, .int .i64 a.f.s, .int .i64 a.f.v, .int .i64 a.t.m, .int .i64 a.t.a, .int .i64 a.t.s, .int .i64 a.t.v], .agg #[.int .i64 b.k, .int .i64 b.f.m, .int .i64 b.f.a, .int .i64 b.f.s, .int .i64 b.f.v, .int .i64 b.t.m, .int .i64 b.t.a, .int .i64 b.t.s, .int .i64 b.t.v]] w fun e w' => e = .returned (.bool true) ∧ Below w.heap.size w w' := by
  replace hc := Lib.hid hc
  replace hd := Lib.hid hd
  have g0 : decide (0 < c) = true := decide_eq_true h0
  have g1 : decide (0 < d) = true := decide_eq_true h1
  have B0 := Lib.hid (((Bel.refl w).alloc (.cells #[.int .i64 a.k, .int .i64 a.f.m, .int .i64 a.f.a, .int .i64 a.f.s, .int .i64 a.f.v, .int .i64 a.t.m, .int .i64 a.t.a, .int .i64 a.t.s, .int .i64 a.t.v] 31)).alloc (.cells #[.int .i64 b.k, .int .i64 b.f.m, .int .i64 b.f.a, .int .i64 b.f.s, .int .i64 b.f.v, .int .i64 b.t.m, .int .i64 b.t.a, .int .i64 b.t.s, .int .i64 b.t.v] 31))
  have X0 := (Non.new w (.int .i64 a.k) (.int .i64 a.f.m) (.int .i64 a.f.a) (.int .i64 a.f.s) (.int .i64 a.f.v) (.int .i64 a.t.m) (.int .i64 a.t.a) (.int .i64 a.t.s) (.int .i64 a.t.v) 31 (w.heap.size) (by simp)).alloc (.cells #[.int .i64 b.k, .int .i64 b.f.m, .int .i64 b.f.a, .int .i64 b.f.s, .int .i64 b.f.v, .int .i64 b.t.m, .int .i64 b.t.a, .int .i64 b.t.s, .int .i64 b.t.v] 31)
  have Y0 := Non.new (w.alloc (.cells #[.int .i64 a.k, .int .i64 a.f.m, .int .i64 a.f.a, .int .i64 a.f.s, .int .i64 a.f.v, .int .i64 a.t.m, .int .i64 a.t.a, .int .i64 a.t.s, .int .i64 a.t.v] 31)) (.int .i64 b.k) (.int .i64 b.f.m) (.int .i64 b.f.a) (.int .i64 b.f.s) (.int .i64 b.f.v) (.int .i64 b.t.m) (.int .i64 b.t.a) (.int .i64 b.t.s) (.int .i64 b.t.v) 31 (w.heap.size + 1) (by simp)
  go_enter Tryd.func61, Tryd.ntmps61
  obtain ⟨xf0, xf1, xf2, xf3, xf4, xf5, xf6, xf7, xf8, xf9, xf10, xf11, xf12, xf13, xf14, xf15, xf16, xf17, xf18⟩ := id X0
  obtain ⟨yf0, yf1, yf2, yf3, yf4, yf5, yf6, yf7, yf8, yf9, yf10, yf11, yf12, yf13, yf14, yf15, yf16, yf17, yf18⟩ := id Y0
  go_wp2_with fail
  clear xf0 xf1 xf2 xf3 xf4 xf5 xf6 xf7 xf8 xf9 xf10 xf11 xf12 xf13 xf14 xf15 xf16 xf17 xf18 yf0 yf1 yf2 yf3 yf4 yf5 yf6 yf7 yf8 yf9 yf10 yf11 yf12 yf13 yf14 yf15 yf16 yf17 yf18
  refine (compare_at a.t b.f c _ hc.out).mono ?_
  rintro e w1 ⟨rfl, hb⟩
  have B1 := Lib.hid (B0.out.up hb)
  have X1 := X0.up hb
  have Y1 := Y0.up hb
  clear hb B0  X0 Y0
  obtain ⟨xf0, xf1, xf2, xf3, xf4, xf5, xf6, xf7, xf8, xf9, xf10, xf11, xf12, xf13, xf14, xf15, xf16, xf17, xf18⟩ := id X1
  obtain ⟨yf0, yf1, yf2, yf3, yf4, yf5, yf6, yf7, yf8, yf9, yf10, yf11, yf12, yf13, yf14, yf15, yf16, yf17, yf18⟩ := id Y1
  go_wp2_with fail
  clear xf0 xf1 xf2 xf3 xf4 xf5 xf6 xf7 xf8 xf9 xf10 xf11 xf12 xf13 xf14 xf15 xf16 xf17 xf18 yf0 yf1 yf2 yf3 yf4 yf5 yf6 yf7 yf8 yf9 yf10 yf11 yf12 yf13 yf14 yf15 yf16 yf17 yf18
  refine (compare_at b.t a.f d _ hd.out).mono ?_
  rintro e w2 ⟨rfl, hb⟩
  have B2 := Lib.hid (B1.out.up hb)
  have X2 := X1.up hb
  have Y2 := Y1.up hb
  clear hb B1  X1 Y1
  obtain ⟨xf0, xf1, xf2, xf3, xf4, xf5, xf6, xf7, xf8, xf9, xf10, xf11, xf12, xf13, xf14, xf15, xf16, xf17, xf18⟩ := id X2
  obtain ⟨yf0, yf1, yf2, yf3, yf4, yf5, yf6, yf7, yf8, yf9, yf10, yf11, yf12, yf13, yf14, yf15, yf16, yf17, yf18⟩ := id Y2
  go_wp2_with fail
  go_ret
  exact ⟨rfl, B2.out.out⟩
set_option maxRecDepth 100000 in
set_option maxHeartbeats 2000000 in
theorem overlap_1 (a b : Sp) (c d : Int) (w : World) (hc : cmpP a.t b.f = c) (hd : cmpP b.t a.f = d) (h0 : ¬ 0 < c) :
    Calls Tryd.prog 61 #[.agg #[.int .i64 a.k, .int .i64 a.f.m, .int .i64 a.f.a, .int .i64 a.f.s, .int .i64 a.f.v, .int .i64 a.t.m, .int .i64 a.t.a, .int .i64 a.t.s, .int .i64 a.t.v], .agg #[.int .i64 b.k, .int .i64 b.f.m, .int .i64 b.f.a, .int .i64 b.f.s, .int .i64 b.f.v, .int .i64 b.t.m, .int .i64 b.t.a, .int .i64 b.t.s, .int .i64 b.t.v]] w fun e w' => e = .returned (.bool false) ∧ Below w.heap.size w w' := by
  replace hc := Lib.hid hc
  replace hd := Lib.hid hd
  have g0 : decide (0 < c) = false := decide_eq_false h0
  have B0 := Lib.hid (((Bel.refl w).alloc (.cells #[.int .i64 a.k, .int .i64 a.f.m, .int .i64 a.f.a, .int .i64 a.f.s, .int .i64 a.f.v, .int .i64 a.t.m, .int .i64 a.t.a, .int .i64 a.t.s, .int .i64 a.t.v] 31)).alloc (.cells #[.int .i64 b.k, .int .i64 b.f.m, .int .i64 b.f.a, .int .i64 b.f.s, .int .i64 b.f.v, .int .i64 b.t.m, .int .i64 b.t.a, .int .i64 b.t.s, .int .i64 b.t.v] 31))
  have X0 := (Non.new w (.int .i64 a.k) (.int .i64 a.f.m) (.int .i64 a.f.a) (.int .i64 a.f.s) (.int .i64 a.f.v) (.int .i64 a.t.m) (.int .i64 a.t.a) (.int .i64 a.t.s) (.int .i64 a.t.v) 31 (w.heap.size) (by simp)).alloc (.cells #[.int .i64 b.k, .int .i64 b.f.m, .int .i64 b.f.a, .int .i64 b.f.s, .int .i64 b.f.v, .int .i64 b.t.m, .int .i64 b.t.a, .int .i64 b.t.s, .int .i64 b.t.v] 31)
  have Y0 := Non.new (w.alloc (.cells #[.int .i64 a.k, .int .i64 a.f.m, .int .i64 a.f.a, .int .i64 a.f.s, .int .i64 a.f.v, .int .i64 a.t.m, .int .i64 a.t.a, .int .i64 a.t.s, .int .i64 a.t.v] 31)) (.int .i64 b.k) (.int .i64 b.f.m) (.int .i64 b.f.a) (.int .i64 b.f.s) (.int .i64 b.f.v) (.int .i64 b.t.m) (.int .i64 b.t.a) (.int .i64 b.t.s) (.int .i64 b.t.v) 31 (w.heap.size + 1) (by simp)
  go_enter Tryd.func61, Tryd.ntmps61
  obtain ⟨xf0, xf1, xf2, xf3, xf4, xf5, xf6, xf7, xf8, xf9, xf10, xf11, xf12, xf13, xf14, xf15, xf16, xf17, xf18⟩ := id X0
  obtain ⟨yf0, yf1, yf2, yf3, yf4, yf5, yf6, yf7, yf8, yf9, yf10, yf11, yf12, yf13, yf14, yf15, yf16, yf17, yf18⟩ := id Y0
  go_wp2_with fail
  clear xf0 xf1 xf2 xf3 xf4 xf5 xf6 xf7 xf8 xf9 xf10 xf11 xf12 xf13 xf14 xf15 xf16 xf17 xf18 yf0 yf1 yf2 yf3 yf4 yf5 yf6 yf7 yf8 yf9 yf10 yf11 yf12 yf13 yf14 yf15 yf16 yf17 yf18
  refine (compare_at a.t b.f c _ hc.out).mono ?_
  rintro e w1 ⟨rfl, hb⟩
  have B1 := Lib.hid (B0.out.up hb)
  have X1 := X0.up hb
  have Y1 := Y0.up hb
  clear hb B0  X0 Y0
  obtain ⟨xf0, xf1, xf2, xf3, xf4, xf5, xf6, xf7, xf8, xf9, xf10, xf11, xf12, xf13, xf14, xf15, xf16, xf17, xf18⟩ := id X1
  obtain ⟨yf0, yf1, yf2, yf3, yf4, yf5, yf6, yf7, yf8, yf9, yf10, yf11, yf12, yf13, yf14, yf15, yf16, yf17, yf18⟩ := id Y1
  go_wp2_with fail
  go_ret
  exact ⟨rfl, B1.out.out⟩
set_option maxRecDepth 100000 in
set_option maxHeartbeats 2000000 in
theorem overlap_2 (a b : Sp) (c d : Int) (w : World) (hc : cmpP a.t b.f = c) (hd : cmpP b.t a.f = d) (h0 : 0 < c) (h1 : ¬ 0 < d) :
    Calls Tryd.prog 61 #[.agg #[.int .i64 a.k, .int .i64 a.f.m, .int .i64 a.f.a, .int .i64 a.f.s, .int .i64 a.f.v, .int .i64 a.t.m, .int .i64 a.t.a, .int .i64 a.t.s, .int .i64 a.t.v], .agg #[.int .i64 b.k, .int .i64 b.f.m, .int .i64 b.f.a, .int .i64 b.f.s, .int .i64 b.f.v, .int .i64 b.t.m, .int .i64 b.t.a, .int .i64 b.t.s, .int .i64 b.t.v]] w fun e w' => e = .returned (.bool false) ∧ Below w.heap.size w w' := by
  replace hc := Lib.hid hc
  replace hd := Lib.hid hd
  have g0 : decide (0 < c) = true := decide_eq_true h0
  have g1 : decide (0 < d) = false := decide_eq_false h1
  have B0 := Lib.hid (((Bel.refl w).alloc (.cells #[.int .i64 a.k, .int .i64 a.f.m, .int .i64 a.f.a, .int .i64 a.f.s, .int .i64 a.f.v, .int .i64 a.t.m, .int .i64 a.t.a, .int .i64 a.t.s, .int .i64 a.t.v] 31)).alloc (.cells #[.int .i64 b.k, .int .i64 b.f.m, .int .i64 b.f.a, .int .i64 b.f.s, .int .i64 b.f.v, .int .i64 b.t.m, .int .i64 b.t.a, .int .i64 b.t.s, .int .i64 b.t.v] 31))
  have X0 := (Non.new w (.int .i64 a.k) (.int .i64 a.f.m) (.int .i64 a.f.a) (.int .i64 a.f.s) (.int .i64 a.f.v) (.int .i64 a.t.m) (.int .i64 a.t.a) (.int .i64 a.t.s) (.int .i64 a.t.v) 31 (w.heap.size) (by simp)).alloc (.cells #[.int .i64 b.k, .int .i64 b.f.m, .int .i64 b.f.a, .int .i64 b.f.s, .int .i64 b.f.v, .int .i64 b.t.m, .int .i64 b.t.a, .int .i64 b.t.s, .int .i64 b.t.v] 31)
  have Y0 := Non.new (w.alloc (.cells #[.int .i64 a.k, .int .i64 a.f.m, .int .i64 a.f.a, .int .i64 a.f.s, .int .i64 a.f.v, .int .i64 a.t.m, .int .i64 a.t.a, .int .i64 a.t.s, .int .i64 a.t.v] 31)) (.int .i64 b.k) (.int .i64 b.f.m) (.int .i64 b.f.a) (.int .i64 b.f.s) (.int .i64 b.f.v) (.int .i64 b.t.m) (.int .i64 b.t.a) (.int .i64 b.t.s) (.int .i64 b.t.v) 31 (w.heap.size + 1) (by simp)
  go_enter Tryd.func61, Tryd.ntmps61
  obtain ⟨xf0, xf1, xf2, xf3, xf4, xf5, xf6, xf7, xf8, xf9, xf10, xf11, xf12, xf13, xf14, xf15, xf16, xf17, xf18⟩ := id X0
  obtain ⟨yf0, yf1, yf2, yf3, yf4, yf5, yf6, yf7, yf8, yf9, yf10, yf11, yf12, yf13, yf14, yf15, yf16, yf17, yf18⟩ := id Y0
  go_wp2_with fail
  clear xf0 xf1 xf2 xf3 xf4 xf5 xf6 xf7 xf8 xf9 xf10 xf11 xf12 xf13 xf14 xf15 xf16 xf17 xf18 yf0 yf1 yf2 yf3 yf4 yf5 yf6 yf7 yf8 yf9 yf10 yf11 yf12 yf13 yf14 yf15 yf16 yf17 yf18
  refine (compare_at a.t b.f c _ hc.out).mono ?_
  rintro e w1 ⟨rfl, hb⟩
  have B1 := Lib.hid (B0.out.up hb)
  have X1 := X0.up hb
  have Y1 := Y0.up hb
  clear hb B0  X0 Y0
  obtain ⟨xf0, xf1, xf2, xf3, xf4, xf5, xf6, xf7, xf8, xf9, xf10, xf11, xf12, xf13, xf14, xf15, xf16, xf17, xf18⟩ := id X1
  obtain ⟨yf0, yf1, yf2, yf3, yf4, yf5, yf6, yf7, yf8, yf9, yf10, yf11, yf12, yf13, yf14, yf15, yf16, yf17, yf18⟩ := id Y1
  go_wp2_with fail
  clear xf0 xf1 xf2 xf3 xf4 xf5 xf6 xf7 xf8 xf9 xf10 xf11 xf12 xf13 xf14 xf15 xf16 xf17 xf18 yf0 yf1 yf2 yf3 yf4 yf5 yf6 yf7 yf8 yf9 yf10 yf11 yf12 yf13 yf14 yf15 yf16 yf17 yf18
  refine (compare_at b.t a.f d _ hd.out).mono ?_
  rintro e w2 ⟨rfl, hb⟩
  have B2 := Lib.hid (B1.out.up hb)
  have X2 := X1.up hb
  have Y2 := Y1.up hb
  clear hb B1  X1 Y1
  obtain ⟨xf0, xf1, xf2, xf3, xf4, xf5, xf6, xf7, xf8, xf9, xf10, xf11, xf12, xf13, xf14, xf15, xf16, xf17, xf18⟩ := id X2
  obtain ⟨yf0, yf1, yf2, yf3, yf4, yf5, yf6, yf7, yf8, yf9, yf10, yf11, yf12, yf13, yf14, yf15, yf16, yf17, yf18⟩ := id Y2
  go_wp2_with fail
  go_ret
  exact ⟨rfl, B2.out.out⟩
theorem overlap_at (a b : Sp) (r : Bool) (w : World) (h : ovl a b = r) : Calls Tryd.prog 61 #[.agg #[.int .i64 a.k, .int .i64 a.f.m, .int .i64 a.f.a, .int .i64 a.f.s, .int .i64 a.f.v, .int .i64 a.t.m, .int .i64 a.t.a, .int .i64 a.t.s, .int .i64 a.t.v], .agg #[.int .i64 b.k, .int .i64 b.f.m, .int .i64 b.f.a, .int .i64 b.f.s, .int .i64 b.f.v, .int .i64 b.t.m, .int .i64 b.t.a, .int .i64 b.t.s, .int .i64 b.t.v]] w fun e w' => e = .returned (.bool r) ∧ Below w.heap.size w w' := by
  subst h
  obtain ⟨c, hc⟩ : ∃ c, cmpP a.t b.f = c := ⟨_, rfl⟩
  obtain ⟨d, hd⟩ : ∃ d, cmpP b.t a.f = d := ⟨_, rfl⟩
  by_cases h0 : 0 < c
  · by_cases h1 : 0 < d
    · rw [show ovl a b = true from by simp [ovl, hc, hd, h0, h1]]; exact overlap_0 a b c d w hc hd h0 h1
    · rw [show ovl a b = false from by simp [ovl, hc, hd, h0]; omega]; exact overlap_2 a b c d w hc hd h0 h1
  · rw [show ovl a b = false from by simp [ovl, hc, hd]; omega]; exact overlap_1 a b c d w hc hd h0
set_option maxRecDepth 100000 in
set_option maxHeartbeats 2000000 in
theorem touch_0 (a b : Sp) (c d : Int) (w : World) (hc : cmpP a.t b.f = c) (hd : cmpP b.t a.f = d) (h0 : 0 ≤ c) (h1 : 0 ≤ d) :
    Calls Tryd.prog 62 #[.agg #[.int .i64 a.k, .int .i64 a.f.m, .int .i64 a.f.a, .int .i64 a.f.s, .int .i64 a.f.v, .int .i64 a.t.m, .int .i64 a.t.a, .int .i64 a.t.s, .int .i64 a.t.v], .agg #[.int .i64 b.k, .int .i64 b.f.m, .int .i64 b.f.a, .int .i64 b.f.s, .int .i64 b.f.v, .int .i64 b.t.m, .int .i64 b.t.a, .int .i64 b.t.s, .int .i64 b.t.v]] w fun e w' => e = .returned (.bool true) ∧ Below w.heap.size w w' := by
  replace hc := Lib.hid hc
  replace hd := Lib.hid hd
  have g0 : decide (0 ≤ c) = true := decide_eq_true h0
  have g1 : decide (0 ≤ d) = true := decide_eq_true h1
  have B0 := Lib.hid (((Bel.refl w).alloc (.cells #[.int .i64 a.k, .int .i64 a.f.m, .int .i64 a.f.a, .int .i64 a.f.s, .int .i64 a.f.v, .int .i64 a.t.m, .int .i64 a.t.a, .int .i64 a.t.s, .int .i64 a.t.v] 31)).alloc (.cells #[.int .i64 b.k, .int .i64 b.f.m, .int .i64 b.f.a, .int .i64 b.f.s, .int .i64 b.f.v, .int .i64 b.t.m, .int .i64 b.t.a, .int .i64 b.t.s, .int .i64 b.t.v] 31))
  have X0 := (Non.new w (.int .i64 a.k) (.int .i64 a.f.m) (.int .i64 a.f.a) (.int .i64 a.f.s) (.int .i64 a.f.v) (.int .i64 a.t.m) (.int .i64 a.t.a) (.int .i64 a.t.s) (.int .i64 a.t.v) 31 (w.heap.size) (by simp)).alloc (.cells #[.int .i64 b.k, .int .i64 b.f.m, .int .i64 b.f.a, .int .i64 b.f.s, .int .i64 b.f.v, .int .i64 b.t.m, .int .i64 b.t.a, .int .i64 b.t.s, .int .i64 b.t.v] 31)
  have Y0 := Non.new (w.alloc (.cells #[.int .i64 a.k, .int .i64 a.f.m, .int .i64 a.f.a, .int .i64 a.f.s, .int .i64 a.f.v, .int .i64 a.t.m, .int .i64 a.t.a, .int .i64 a.t.s, .int .i64 a.t.v] 31)) (.int .i64 b.k) (.int .i64 b.f.m) (.int .i64 b.f.a) (.int .i64 b.f.s) (.int .i64 b.f.v) (.int .i64 b.t.m) (.int .i64 b.t.a) (.int .i64 b.t.s) (.int .i64 b.t.v) 31 (w.heap.size + 1) (by simp)
  go_enter Tryd.func62, Tryd.ntmps62
  obtain ⟨xf0, xf1, xf2, xf3, xf4, xf5, xf6, xf7, xf8, xf9, xf10, xf11, xf12, xf13, xf14, xf15, xf16, xf17, xf18⟩ := id X0
  obtain ⟨yf0, yf1, yf2, yf3, yf4, yf5, yf6, yf7, yf8, yf9, yf10, yf11, yf12, yf13, yf14, yf15, yf16, yf17, yf18⟩ := id Y0
  go_wp2_with fail
  clear xf0 xf1 xf2 xf3 xf4 xf5 xf6 xf7 xf8 xf9 xf10 xf11 xf12 xf13 xf14 xf15 xf16 xf17 xf18 yf0 yf1 yf2 yf3 yf4 yf5 yf6 yf7 yf8 yf9 yf10 yf11 yf12 yf13 yf14 yf15 yf16 yf17 yf18
  refine (compare_at a.t b.f c _ hc.out).mono ?_
  rintro e w1 ⟨rfl, hb⟩
  have B1 := Lib.hid (B0.out.up hb)
  have X1 := X0.up hb
  have Y1 := Y0.up hb
  clear hb B0  X0 Y0
  obtain ⟨xf0, xf1, xf2, xf3, xf4, xf5, xf6, xf7, xf8, xf9, xf10, xf11, xf12, xf13, xf14, xf15, xf16, xf17, xf18⟩ := id X1
  obtain ⟨yf0, yf1, yf2, yf3, yf4, yf5, yf6, yf7, yf8, yf9, yf10, yf11, yf12, yf13, yf14, yf15, yf16, yf17, yf18⟩ := id Y1
  go_wp2_with fail
  clear xf0 xf1 xf2 xf3 xf4 xf5 xf6 xf7 xf8 xf9 xf10 xf11 xf12 xf13 xf14 xf15 xf16 xf17 xf18 yf0 yf1 yf2 yf3 yf4 yf5 yf6 yf7 yf8 yf9 yf10 yf11 yf12 yf13 yf14 yf15 yf16 yf17 yf18
  refine (compare_at b.t a.f d _ hd.out).mono ?_
  rintro e w2 ⟨rfl, hb⟩
  have B2 := Lib.hid (B1.out.up hb)
  have X2 := X1.up hb
  have Y2 := Y1.up hb
  clear hb B1  X1 Y1
  obtain ⟨xf0, xf1, xf2, xf3, xf4, xf5, xf6, xf7, xf8, xf9, xf10, xf11, xf12, xf13, xf14, xf15, xf16, xf17, xf18⟩ := id X2
  obtain ⟨yf0, yf1, yf2, yf3, yf4, yf5, yf6, yf7, yf8, yf9, yf10, yf11, yf12, yf13, yf14, yf15, yf16, yf17, yf18⟩ := id Y2
  go_wp2_with fail
  go_ret
  exact ⟨rfl, B2.out.out⟩
set_option maxRecDepth 100000 in
set_option maxHeartbeats 2000000 in
theorem touch_1 (a b : Sp) (c d : Int) (w : World) (hc : cmpP a.t b.f = c) (hd : cmpP b.t a.f = d) (h0 : ¬ 0 ≤ c) :
    Calls Tryd.prog 62 #[.agg #[.int .i64 a.k, .int .i64 a.f.m, .int .i64 a.f.a, .int .i64 a.f.s, .int .i64 a.f.v, .int .i64 a.t.m, .int .i64 a.t.a, .int .i64 a.t.s, .int .i64 a.t.v], .agg #[.int .i64 b.k, .int .i64 b.f.m, .int .i64 b.f.a, .int .i64 b.f.s, .int .i64 b.f.v, .int .i64 b.t.m, .int .i64 b.t.a, .int .i64 b.t.s, .int .i64 b.t.v]] w fun e w' => e = .returned (.bool false) ∧ Below w.heap.size w w' := by
  replace hc := Lib.hid hc
  replace hd := Lib.hid hd
  have g0 : decide (0 ≤ c) = false := decide_eq_false h0
  have B0 := Lib.hid (((Bel.refl w).alloc (.cells #[.int .i64 a.k, .int .i64 a.f.m, .int .i64 a.f.a, .int .i64 a.f.s, .int .i64 a.f.v, .int .i64 a.t.m, .int .i64 a.t.a, .int .i64 a.t.s, .int .i64 a.t.v] 31)).alloc (.cells #[.int .i64 b.k, .int .i64 b.f.m, .int .i64 b.f.a, .int .i64 b.f.s, .int .i64 b.f.v, .int .i64 b.t.m, .int .i64 b.t.a, .int .i64 b.t.s, .int .i64 b.t.v] 31))
  have X0 := (Non.new w (.int .i64 a.k) (.int .i64 a.f.m) (.int .i64 a.f.a) (.int .i64 a.f.s) (.int .i64 a.f.v) (.int .i64 a.t.m) (.int .i64 a.t.a) (.int .i64 a.t.s) (.int .i64 a.t.v) 31 (w.heap.size) (by simp)).alloc (.cells #[.int .i64 b.k, .int .i64 b.f.m, .int .i64 b.f.a, .int .i64 b.f.s, .int .i64 b.f.v, .int .i64 b.t.m, .int .i64 b.t.a, .int .i64 b.t.s, .int .i64 b.t.v] 31)
  have Y0 := Non.new (w.alloc (.cells #[.int .i64 a.k, .int .i64 a.f.m, .int .i64 a.f.a, .int .i64 a.f.s, .int .i64 a.f.v, .int .i64 a.t.m, .int .i64 a.t.a, .int .i64 a.t.s, .int .i64 a.t.v] 31)) (.int .i64 b.k) (.int .i64 b.f.m) (.int .i64 b.f.a) (.int .i64 b.f.s) (.int .i64 b.f.v) (.int .i64 b.t.m) (.int .i64 b.t.a) (.int .i64 b.t.s) (.int .i64 b.t.v) 31 (w.heap.size + 1) (by simp)
  go_enter Tryd.func62, Tryd.ntmps62
  obtain ⟨xf0, xf1, xf2, xf3, xf4, xf5, xf6, xf7, xf8, xf9, xf10, xf11, xf12, xf13, xf14, xf15, xf16, xf17, xf18⟩ := id X0
  obtain ⟨yf0, yf1, yf2, yf3, yf4, yf5, yf6, yf7, yf8, yf9, yf10, yf11, yf12, yf13, yf14, yf15, yf16, yf17, yf18⟩ := id Y0
  go_wp2_with fail
  clear xf0 xf1 xf2 xf3 xf4 xf5 xf6 xf7 xf8 xf9 xf10 xf11 xf12 xf13 xf14 xf15 xf16 xf17 xf18 yf0 yf1 yf2 yf3 yf4 yf5 yf6 yf7 yf8 yf9 yf10 yf11 yf12 yf13 yf14 yf15 yf16 yf17 yf18
  refine (compare_at a.t b.f c _ hc.out).mono ?_
  rintro e w1 ⟨rfl, hb⟩
  have B1 := Lib.hid (B0.out.up hb)
  have X1 := X0.up hb
  have Y1 := Y0.up hb
  clear hb B0  X0 Y0
  obtain ⟨xf0, xf1, xf2, xf3, xf4, xf5, xf6, xf7, xf8, xf9, xf10, xf11, xf12, xf13, xf14, xf15, xf16, xf17, xf18⟩ := id X1
  obtain ⟨yf0, yf1, yf2, yf3, yf4, yf5, yf6, yf7, yf8, yf9, yf10, yf11, yf12, yf13, yf14, yf15, yf16, yf17, yf18⟩ := id Y1
  go_wp2_with fail
  go_ret
  exact ⟨rfl, B1.out.out⟩
set_option maxRecDepth 100000 in
set_option maxHeartbeats 2000000 in
theorem touch_2 (a b : Sp) (c d : Int) (w : World) (hc : cmpP a.t b.f = c) (hd : cmpP b.t a.f = d) (h0 : 0 ≤ c) (h1 : ¬ 0 ≤ d) :
    Calls Tryd.prog 62 #[.agg #[.int .i64 a.k, .int .i64 a.f.m, .int .i64 a.f.a, .int .i64 a.f.s, .int .i64 a.f.v, .int .i64 a.t.m, .int .i64 a.t.a, .int .i64 a.t.s, .int .i64 a.t.v], .agg #[.int .i64 b.k, .int .i64 b.f.m, .int .i64 b.f.a, .int .i64 b.f.s, .int .i64 b.f.v, .int .i64 b.t.m, .int .i64 b.t.a, .int .i64 b.t.s, .int .i64 b.t.v]] w fun e w' => e = .returned (.bool false) ∧ Below w.heap.size w w' := by
  replace hc := Lib.hid hc
  replace hd := Lib.hid hd
  have g0 : decide (0 ≤ c) = true := decide_eq_true h0
  have g1 : decide (0 ≤ d) = false := decide_eq_false h1
  have B0 := Lib.hid (((Bel.refl w).alloc (.cells #[.int .i64 a.k, .int .i64 a.f.m, .int .i64 a.f.a, .int .i64 a.f.s, .int .i64 a.f.v, .int .i64 a.t.m, .int .i64 a.t.a, .int .i64 a.t.s, .int .i64 a.t.v] 31)).alloc (.cells #[.int .i64 b.k, .int .i64 b.f.m, .int .i64 b.f.a, .int .i64 b.f.s, .int .i64 b.f.v, .int .i64 b.t.m, .int .i64 b.t.a, .int .i64 b.t.s, .int .i64 b.t.v] 31))
  have X0 := (Non.new w (.int .i64 a.k) (.int .i64 a.f.m) (.int .i64 a.f.a) (.int .i64 a.f.s) (.int .i64 a.f.v) (.int .i64 a.t.m) (.int .i64 a.t.a) (.int .i64 a.t.s) (.int .i64 a.t.v) 31 (w.heap.size) (by simp)).alloc (.cells #[.int .i64 b.k, .int .i64 b.f.m, .int .i64 b.f.a, .int .i64 b.f.s, .int .i64 b.f.v, .int .i64 b.t.m, .int .i64 b.t.a, .int .i64 b.t.s, .int .i64 b.t.v] 31)
  have Y0 := Non.new (w.alloc (.cells #[.int .i64 a.k, .int .i64 a.f.m, .int .i64 a.f.a, .int .i64 a.f.s, .int .i64 a.f.v, .int .i64 a.t.m, .int .i64 a.t.a, .int .i64 a.t.s, .int .i64 a.t.v] 31)) (.int .i64 b.k) (.int .i64 b.f.m) (.int .i64 b.f.a) (.int .i64 b.f.s) (.int .i64 b.f.v) (.int .i64 b.t.m) (.int .i64 b.t.a) (.int .i64 b.t.s) (.int .i64 b.t.v) 31 (w.heap.size + 1) (by simp)
  go_enter Tryd.func62, Tryd.ntmps62
  obtain ⟨xf0, xf1, xf2, xf3, xf4, xf5, xf6, xf7, xf8, xf9, xf10, xf11, xf12, xf13, xf14, xf15, xf16, xf17, xf18⟩ := id X0
  obtain ⟨yf0, yf1, yf2, yf3, yf4, yf5, yf6, yf7, yf8, yf9, yf10, yf11, yf12, yf13, yf14, yf15, yf16, yf17, yf18⟩ := id Y0
  go_wp2_with fail
  clear xf0 xf1 xf2 xf3 xf4 xf5 xf6 xf7 xf8 xf9 xf10 xf11 xf12 xf13 xf14 xf15 xf16 xf17 xf18 yf0 yf1 yf2 yf3 yf4 yf5 yf6 yf7 yf8 yf9 yf10 yf11 yf12 yf13 yf14 yf15 yf16 yf17 yf18
  refine (compare_at a.t b.f c _ hc.out).mono ?_
  rintro e w1 ⟨rfl, hb⟩
  have B1 := Lib.hid (B0.out.up hb)
  have X1 := X0.up hb
  have Y1 := Y0.up hb
  clear hb B0  X0 Y0
  obtain ⟨xf0, xf1, xf2, xf3, xf4, xf5, xf6, xf7, xf8, xf9, xf10, xf11, xf12, xf13, xf14, xf15, xf16, xf17, xf18⟩ := id X1
  obtain ⟨yf0, yf1, yf2, yf3, yf4, yf5, yf6, yf7, yf8, yf9, yf10, yf11, yf12, yf13, yf14, yf15, yf16, yf17, yf18⟩ := id Y1
  go_wp2_with fail
  clear xf0 xf1 xf2 xf3 xf4 xf5 xf6 xf7 xf8 xf9 xf10 xf11 xf12 xf13 xf14 xf15 xf16 xf17 xf18 yf0 yf1 yf2 yf3 yf4 yf5 yf6 yf7 yf8 yf9 yf10 yf11 yf12 yf13 yf14 yf15 yf16 yf17 yf18
  refine (compare_at b.t a.f d _ hd.out).mono ?_
  rintro e w2 ⟨rfl, hb⟩
  have B2 := Lib.hid (B1.out.up hb)
  have X2 := X1.up hb
  have Y2 := Y1.up hb
  clear hb B1  X1 Y1
  obtain ⟨xf0, xf1, xf2, xf3, xf4, xf5, xf6, xf7, xf8, xf9, xf10, xf11, xf12, xf13, xf14, xf15, xf16, xf17, xf18⟩ := id X2
  obtain ⟨yf0, yf1, yf2, yf3, yf4, yf5, yf6, yf7, yf8, yf9, yf10, yf11, yf12, yf13, yf14, yf15, yf16, yf17, yf18⟩ := id Y2
  go_wp2_with fail
  go_ret
  exact ⟨rfl, B2.out.out⟩
theorem touch_at (a b : Sp) (r : Bool) (w : World) (h : tch a b = r) : Calls Tryd.prog 62 #[.agg #[.int .i64 a.k, .int .i64 a.f.m, .int .i64 a.f.a, .int .i64 a.f.s, .int .i64 a.f.v, .int .i64 a.t.m, .int .i64 a.t.a, .int .i64 a.t.s, .int .i64 a.t.v], .agg #[.int .i64 b.k, .int .i64 b.f.m, .int .i64 b.f.a, .int .i64 b.f.s, .int .i64 b.f.v, .int .i64 b.t.m, .int .i64 b.t.a, .int .i64 b.t.s, .int .i64 b.t.v]] w fun e w' => e = .returned (.bool r) ∧ Below w.heap.size w w' := by
  subst h
  obtain ⟨c, hc⟩ : ∃ c, cmpP a.t b.f = c := ⟨_, rfl⟩
  obtain ⟨d, hd⟩ : ∃ d, cmpP b.t a.f = d := ⟨_, rfl⟩
  by_cases h0 : 0 ≤ c
  · by_cases h1 : 0 ≤ d
    · rw [show tch a b = true from by simp [tch, hc, hd, h0, h1]]; exact touch_0 a b c d w hc hd h0 h1
    · rw [show tch a b = false from by simp [tch, hc, hd, h0]; omega]; exact touch_2 a b c d w hc hd h0 h1
  · rw [show tch a b = false from by simp [tch, hc, hd]; omega]; exact touch_1 a b c d w hc hd h0
set_option maxRecDepth 100000 in
set_option maxHeartbeats 2000000 in
theorem within_0 (a b : Sp) (c d : Int) (w : World) (hc : cmpP a.f b.f = c) (hd : cmpP a.t b.t = d) (h0 : 0 ≤ c) (h1 : d ≤ 0) :
    Calls Tryd.prog 66 #[.agg #[.int .i64 a.k, .int .i64 a.f.m, .int .i64 a.f.a, .int .i64 a.f.s, .int .i64 a.f.v, .int .i64 a.t.m, .int .i64 a.t.a, .int .i64 a.t.s, .int .i64 a.t.v], .agg #[.int .i64 b.k, .int .i64 b.f.m, .int .i64 b.f.a, .int .i64 b.f.s, .int .i64 b.f.v, .int .i64 b.t.m, .int .i64 b.t.a, .int .i64 b.t.s, .int .i64 b.t.v]] w fun e w' => e = .returned (.bool true) ∧ Below w.heap.size w w' := by
  replace hc := Lib.hid hc
  replace hd := Lib.hid hd
  have g0 : decide (0 ≤ c) = true := decide_eq_true h0
  have g1 : decide (d ≤ 0) = true := decide_eq_true h1
  have B0 := Lib.hid (((Bel.refl w).alloc (.cells #[.int .i64 a.k, .int .i64 a.f.m, .int .i64 a.f.a, .int .i64 a.f.s, .int .i64 a.f.v, .int .i64 a.t.m, .int .i64 a.t.a, .int .i64 a.t.s, .int .i64 a.t.v] 31)).alloc (.cells #[.int .i64 b.k, .int .i64 b.f.m, .int .i64 b.f.a, .int .i64 b.f.s, .int .i64 b.f.v, .int .i64 b.t.m, .int .i64 b.t.a, .int .i64 b.t.s, .int .i64 b.t.v] 31))
  have X0 := (Non.new w (.int .i64 a.k) (.int .i64 a.f.m) (.int .i64 a.f.a) (.int .i64 a.f.s) (.int .i64 a.f.v) (.int .i64 a.t.m) (.int .i64 a.t.a) (.int .i64 a.t.s) (.int .i64 a.t.v) 31 (w.heap.size) (by simp)).alloc (.cells #[.int .i64 b.k, .int .i64 b.f.m, .int .i64 b.f.a, .int .i64 b.f.s, .int .i64 b.f.v, .int .i64 b.t.m, .int .i64 b.t.a, .int .i64 b.t.s, .int .i64 b.t.v] 31)
  have Y0 := Non.new (w.alloc (.cells #[.int .i64 a.k, .int .i64 a.f.m, .int .i64 a.f.a, .int .i64 a.f.s, .int .i64 a.f.v, .int .i64 a.t.m, .int .i64 a.t.a, .int .i64 a.t.s, .int .i64 a.t.v] 31)) (.int .i64 b.k) (.int .i64 b.f.m) (.int .i64 b.f.a) (.int .i64 b.f.s) (.int .i64 b.f.v) (.int .i64 b.t.m) (.int .i64 b.t.a) (.int .i64 b.t.s) (.int .i64 b.t.v) 31 (w.heap.size + 1) (by simp)
  go_enter Tryd.func66, Tryd.ntmps66
  obtain ⟨xf0, xf1, xf2, xf3, xf4, xf5, xf6, xf7, xf8, xf9, xf10, xf11, xf12, xf13, xf14, xf15, xf16, xf17, xf18⟩ := id X0
  obtain ⟨yf0, yf1, yf2, yf3, yf4, yf5, yf6, yf7, yf8, yf9, yf10, yf11, yf12, yf13, yf14, yf15, yf16, yf17, yf18⟩ := id Y0
  go_wp2_with fail
  clear xf0 xf1 xf2 xf3 xf4 xf5 xf6 xf7 xf8 xf9 xf10 xf11 xf12 xf13 xf14 xf15 xf16 xf17 xf18 yf0 yf1 yf2 yf3 yf4 yf5 yf6 yf7 yf8 yf9 yf10 yf11 yf12 yf13 yf14 yf15 yf16 yf17 yf18
  refine (compare_at a.f b.f c _ hc.out).mono ?_
  rintro e w1 ⟨rfl, hb⟩
  have B1 := Lib.hid (B0.out.up hb)
  have X1 := X0.up hb
  have Y1 := Y0.up hb
  clear hb B0  X0 Y0
  obtain ⟨xf0, xf1, xf2, xf3, xf4, xf5, xf6, xf7, xf8, xf9, xf10, xf11, xf12, xf13, xf14, xf15, xf16, xf17, xf18⟩ := id X1
  obtain ⟨yf0, yf1, yf2, yf3, yf4, yf5, yf6, yf7, yf8, yf9, yf10, yf11, yf12, yf13, yf14, yf15, yf16, yf17, yf18⟩ := id Y1
  go_wp2_with fail
  clear xf0 xf1 xf2 xf3 xf4 xf5 xf6 xf7 xf8 xf9 xf10 xf11 xf12 xf13 xf14 xf15 xf16 xf17 xf18 yf0 yf1 yf2 yf3 yf4 yf5 yf6 yf7 yf8 yf9 yf10 yf11 yf12 yf13 yf14 yf15 yf16 yf17 yf18
  refine (compare_at a.t b.t d _ hd.out).mono ?_
  rintro e w2 ⟨rfl, hb⟩
  have B2 := Lib.hid (B1.out.up hb)
  have X2 := X1.up hb
  have Y2 := Y1.up hb
  clear hb B1  X1 Y1
  obtain ⟨xf0, xf1, xf2, xf3, xf4, xf5, xf6, xf7, xf8, xf9, xf10, xf11, xf12, xf13, xf14, xf15, xf16, xf17, xf18⟩ := id X2
  obtain ⟨yf0, yf1, yf2, yf3, yf4, yf5, yf6, yf7, yf8, yf9, yf10, yf11, yf12, yf13, yf14, yf15, yf16, yf17, yf18⟩ := id Y2
  go_wp2_with fail
  go_ret
  exact ⟨rfl, B2.out.out⟩
set_option maxRecDepth 100000 in
set_option maxHeartbeats 2000000 in
theorem within_1 (a b : Sp) (c d : Int) (w : World) (hc : cmpP a.f b.f = c) (hd : cmpP a.t b.t = d) (h0 : ¬ 0 ≤ c) :
    Calls Tryd.prog 66 #[.agg #[.int .i64 a.k, .int .i64 a.f.m, .int .i64 a.f.a, .int .i64 a.f.s, .int .i64 a.f.v, .int .i64 a.t.m, .int .i64 a.t.a, .int .i64 a.t.s, .int .i64 a.t.v], .agg #[.int .i64 b.k, .int .i64 b.f.m, .int .i64 b.f.a, .int .i64 b.f.s, .int .i64 b.f.v, .int .i64 b.t.m, .int .i64 b.t.a, .int .i64 b.t.s, .int .i64 b.t.v]] w fun e w' => e = .returned (.bool false) ∧ Below w.heap.size w w' := by
  replace hc := Lib.hid hc
  replace hd := Lib.hid hd
  have g0 : decide (0 ≤ c) = false := decide_eq_false h0
  have B0 := Lib.hid (((Bel.refl w).alloc (.cells #[.int .i64 a.k, .int .i64 a.f.m, .int .i64 a.f.a, .int .i64 a.f.s, .int .i64 a.f.v, .int .i64 a.t.m, .int .i64 a.t.a, .int .i64 a.t.s, .int .i64 a.t.v] 31)).alloc (.cells #[.int .i64 b.k, .int .i64 b.f.m, .int .i64 b.f.a, .int .i64 b.f.s, .int .i64 b.f.v, .int .i64 b.t.m, .int .i64 b.t.a, .int .i64 b.t.s, .int .i64 b.t.v] 31))
  have X0 := (Non.new w (.int .i64 a.k) (.int .i64 a.f.m) (.int .i64 a.f.a) (.int .i64 a.f.s) (.int .i64 a.f.v) (.int .i64 a.t.m) (.int .i64 a.t.a) (.int .i64 a.t.s) (.int .i64 a.t.v) 31 (w.heap.size) (by simp)).alloc (.cells #[.int .i64 b.k, .int .i64 b.f.m, .int .i64 b.f.a, .int .i64 b.f.s, .int .i64 b.f.v, .int .i64 b.t.m, .int .i64 b.t.a, .int .i64 b.t.s, .int .i64 b.t.v] 31)
  have Y0 := Non.new (w.alloc (.cells #[.int .i64 a.k, .int .i64 a.f.m, .int .i64 a.f.a, .int .i64 a.f.s, .int .i64 a.f.v, .int .i64 a.t.m, .int .i64 a.t.a, .int .i64 a.t.s, .int .i64 a.t.v] 31)) (.int .i64 b.k) (.int .i64 b.f.m) (.int .i64 b.f.a) (.int .i64 b.f.s) (.int .i64 b.f.v) (.int .i64 b.t.m) (.int .i64 b.t.a) (.int .i64 b.t.s) (.int .i64 b.t.v) 31 (w.heap.size + 1) (by simp)
  go_enter Tryd.func66, Tryd.ntmps66
  obtain ⟨xf0, xf1, xf2, xf3, xf4, xf5, xf6, xf7, xf8, xf9, xf10, xf11, xf12, xf13, xf14, xf15, xf16, xf17, xf18⟩ := id X0
  obtain ⟨yf0, yf1, yf2, yf3, yf4, yf5, yf6, yf7, yf8, yf9, yf10, yf11, yf12, yf13, yf14, yf15, yf16, yf17, yf18⟩ := id Y0
  go_wp2_with fail
  clear xf0 xf1 xf2 xf3 xf4 xf5 xf6 xf7 xf8 xf9 xf10 xf11 xf12 xf13 xf14 xf15 xf16 xf17 xf18 yf0 yf1 yf2 yf3 yf4 yf5 yf6 yf7 yf8 yf9 yf10 yf11 yf12 yf13 yf14 yf15 yf16 yf17 yf18
  refine (compare_at a.f b.f c _ hc.out).mono ?_
  rintro e w1 ⟨rfl, hb⟩
  have B1 := Lib.hid (B0.out.up hb)
  have X1 := X0.up hb
  have Y1 := Y0.up hb
  clear hb B0  X0 Y0
  obtain ⟨xf0, xf1, xf2, xf3, xf4, xf5, xf6, xf7, xf8, xf9, xf10, xf11, xf12, xf13, xf14, xf15, xf16, xf17, xf18⟩ := id X1
  obtain ⟨yf0, yf1, yf2, yf3, yf4, yf5, yf6, yf7, yf8, yf9, yf10, yf11, yf12, yf13, yf14, yf15, yf16, yf17, yf18⟩ := id Y1
  go_wp2_with fail
  go_ret
  exact ⟨rfl, B1.out.out⟩
set_option maxRecDepth 100000 in
set_option maxHeartbeats 2000000 in
theorem within_2 (a b : Sp) (c d : Int) (w : World) (hc : cmpP a.f b.f = c) (hd : cmpP a.t b.t = d) (h0 : 0 ≤ c) (h1 : ¬ d ≤ 0) :
    Calls Tryd.prog 66 #[.agg #[.int .i64 a.k, .int .i64 a.f.m, .int .i64 a.f.a, .int .i64 a.f.s, .int .i64 a.f.v, .int .i64 a.t.m, .int .i64 a.t.a, .int .i64 a.t.s, .int .i64 a.t.v], .agg #[.int .i64 b.k, .int .i64 b.f.m, .int .i64 b.f.a, .int .i64 b.f.s, .int .i64 b.f.v, .int .i64 b.t.m, .int .i64 b.t.a, .int .i64 b.t.s, .int .i64 b.t.v]] w fun e w' => e = .returned (.bool false) ∧ Below w.heap.size w w' := by
  replace hc := Lib.hid hc
  replace hd := Lib.hid hd
  have g0 : decide (0 ≤ c) = true := decide_eq_true h0
  have g1 : decide (d ≤ 0) = false := decide_eq_false h1
  have B0 := Lib.hid (((Bel.refl w).alloc (.cells #[.int .i64 a.k, .int .i64 a.f.m, .int .i64 a.f.a, .int .i64 a.f.s, .int .i64 a.f.v, .int .i64 a.t.m, .int .i64 a.t.a, .int .i64 a.t.s, .int .i64 a.t.v] 31)).alloc (.cells #[.int .i64 b.k, .int .i64 b.f.m, .int .i64 b.f.a, .int .i64 b.f.s, .int .i64 b.f.v, .int .i64 b.t.m, .int .i64 b.t.a, .int .i64 b.t.s, .int .i64 b.t.v] 31))
  have X0 := (Non.new w (.int .i64 a.k) (.int .i64 a.f.m) (.int .i64 a.f.a) (.int .i64 a.f.s) (.int .i64 a.f.v) (.int .i64 a.t.m) (.int .i64 a.t.a) (.int .i64 a.t.s) (.int .i64 a.t.v) 31 (w.heap.size) (by simp)).alloc (.cells #[.int .i64 b.k, .int .i64 b.f.m, .int .i64 b.f.a, .int .i64 b.f.s, .int .i64 b.f.v, .int .i64 b.t.m, .int .i64 b.t.a, .int .i64 b.t.s, .int .i64 b.t.v] 31)
  have Y0 := Non.new (w.alloc (.cells #[.int .i64 a.k, .int .i64 a.f.m, .int .i64 a.f.a, .int .i64 a.f.s, .int .i64 a.f.v, .int .i64 a.t.m, .int .i64 a.t.a, .int .i64 a.t.s, .int .i64 a.t.v] 31)) (.int .i64 b.k) (.int .i64 b.f.m) (.int .i64 b.f.a) (.int .i64 b.f.s) (.int .i64 b.f.v) (.int .i64 b.t.m) (.int .i64 b.t.a) (.int .i64 b.t.s) (.int .i64 b.t.v) 31 (w.heap.size + 1) (by simp)
  go_enter Tryd.func66, Tryd.ntmps66
  obtain ⟨xf0, xf1, xf2, xf3, xf4, xf5, xf6, xf7, xf8, xf9, xf10, xf11, xf12, xf13, xf14, xf15, xf16, xf17, xf18⟩ := id X0
  obtain ⟨yf0, yf1, yf2, yf3, yf4, yf5, yf6, yf7, yf8, yf9, yf10, yf11, yf12, yf13, yf14, yf15, yf16, yf17, yf18⟩ := id Y0
  go_wp2_with fail
  clear xf0 xf1 xf2 xf3 xf4 xf5 xf6 xf7 xf8 xf9 xf10 xf11 xf12 xf13 xf14 xf15 xf16 xf17 xf18 yf0 yf1 yf2 yf3 yf4 yf5 yf6 yf7 yf8 yf9 yf10 yf11 yf12 yf13 yf14 yf15 yf16 yf17 yf18
  refine (compare_at a.f b.f c _ hc.out).mono ?_
  rintro e w1 ⟨rfl, hb⟩
  have B1 := Lib.hid (B0.out.up hb)
  have X1 := X0.up hb
  have Y1 := Y0.up hb
  clear hb B0  X0 Y0
  obtain ⟨xf0, xf1, xf2, xf3, xf4, xf5, xf6, xf7, xf8, xf9, xf10, xf11, xf12, xf13, xf14, xf15, xf16, xf17, xf18⟩ := id X1
  obtain ⟨yf0, yf1, yf2, yf3, yf4, yf5, yf6, yf7, yf8, yf9, yf10, yf11, yf12, yf13, yf14, yf15, yf16, yf17, yf18⟩ := id Y1
  go_wp2_with fail
  clear xf0 xf1 xf2 xf3 xf4 xf5 xf6 xf7 xf8 xf9 xf10 xf11 xf12 xf13 xf14 xf15 xf16 xf17 xf18 yf0 yf1 yf2 yf3 yf4 yf5 yf6 yf7 yf8 yf9 yf10 yf11 yf12 yf13 yf14 yf15 yf16 yf17 yf18
  refine (compare_at a.t b.t d _ hd.out).mono ?_
  rintro e w2 ⟨rfl, hb⟩
  have B2 := Lib.hid (B1.out.up hb)
  have X2 := X1.up hb
  have Y2 := Y1.up hb
  clear hb B1  X1 Y1
  obtain ⟨xf0, xf1, xf2, xf3, xf4, xf5, xf6, xf7, xf8, xf9, xf10, xf11, xf12, xf13, xf14, xf15, xf16, xf17, xf18⟩ := id X2
  obtain ⟨yf0, yf1, yf2, yf3, yf4, yf5, yf6, yf7, yf8, yf9, yf10, yf11, yf12, yf13, yf14, yf15, yf16, yf17, yf18⟩ := id Y2
  go_wp2_with fail
  go_ret
  exact ⟨rfl, B2.out.out⟩
theorem within_at (a b : Sp) (r : Bool) (w : World) (h : wth a b = r) : Calls Tryd.prog 66 #[.agg #[.int .i64 a.k, .int .i64 a.f.m, .int .i64 a.f.a, .int .i64 a.f.s, .int .i64 a.f.v, .int .i64 a.t.m, .int .i64 a.t.a, .int .i64 a.t.s, .int .i64 a.t.v], .agg #[.int .i64 b.k, .int .i64 b.f.m, .int .i64 b.f.a, .int .i64 b.f.s, .int .i64 b.f.v, .int .i64 b.t.m, .int .i64 b.t.a, .int .i64 b.t.s, .int .i64 b.t.v]] w fun e w' => e = .returned (.bool r) ∧ Below w.heap.size w w' := by
  subst h
  obtain ⟨c, hc⟩ : ∃ c, cmpP a.f b.f = c := ⟨_, rfl⟩
  obtain ⟨d, hd⟩ : ∃ d, cmpP a.t b.t = d := ⟨_, rfl⟩
  by_cases h0 : 0 ≤ c
  · by_cases h1 : d ≤ 0
    · rw [show wth a b = true from by simp [wth, hc, hd, h0, h1]]; exact within_0 a b c d w hc hd h0 h1
    · rw [show wth a b = false from by simp [wth, hc, hd, h0]; omega]; exact within_2 a b c d w hc hd h0 h1
  · rw [show wth a b = false from by simp [wth, hc, hd]; omega]; exact within_1 a b c d w hc hd h0
end Go.Proofs.YtabafabebodojaaDoor
