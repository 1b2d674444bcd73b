/- Spans: the reference's Covers. -/
import Derived.Test.YtabafabebodojaaDoorNa1
import Derived.Test.YtabafabebodojaaDoorSg
namespace Go.Proofs.YtabafabebodojaaDoor
open Go.RowKit
set_option linter.unusedVariables false
set_option linter.unusedSimpArgs false

set_option maxRecDepth 100000 in
set_option maxHeartbeats 2000000 in
theorem rcov_s (s : Sp) (p : Pl) (w : World) (h0 : s.f.s ≠ p.s) :
    Calls Tryd.prog 25 #[.agg #[.int .i64 s.k, .int .i64 s.f.m, .int .i64 s.f.a, .int .i64 s.f.s, .int .i64 s.f.v, .int .i64 s.t.m, .int .i64 s.t.a, .int .i64 s.t.s, .int .i64 s.t.v], .agg #[.int .i64 p.m, .int .i64 p.a, .int .i64 p.s, .int .i64 p.v]] w fun e w' => e = .returned (.bool false) ∧ Below w.heap.size w w' := by
  have n0 : (s.f.s != p.s) = true := by simpa using h0
  clear h0
  have B0 := Lib.hid (((Bel.refl w).alloc (.cells #[.int .i64 s.k, .int .i64 s.f.m, .int .i64 s.f.a, .int .i64 s.f.s, .int .i64 s.f.v, .int .i64 s.t.m, .int .i64 s.t.a, .int .i64 s.t.s, .int .i64 s.t.v] 25)).alloc (.cells #[.int .i64 p.m, .int .i64 p.a, .int .i64 p.s, .int .i64 p.v] 23))
  have X0 := (Non.new w (.int .i64 s.k) (.int .i64 s.f.m) (.int .i64 s.f.a) (.int .i64 s.f.s) (.int .i64 s.f.v) (.int .i64 s.t.m) (.int .i64 s.t.a) (.int .i64 s.t.s) (.int .i64 s.t.v) 25 (w.heap.size) (by simp)).alloc (.cells #[.int .i64 p.m, .int .i64 p.a, .int .i64 p.s, .int .i64 p.v] 23)
  have Y0 := Quad.new (w.alloc (.cells #[.int .i64 s.k, .int .i64 s.f.m, .int .i64 s.f.a, .int .i64 s.f.s, .int .i64 s.f.v, .int .i64 s.t.m, .int .i64 s.t.a, .int .i64 s.t.s, .int .i64 s.t.v] 25)) (.int .i64 p.m) (.int .i64 p.a) (.int .i64 p.s) (.int .i64 p.v) 23 (w.heap.size + 1) (by simp)
  go_enter Tryd.func25, Tryd.ntmps25
  obtain ⟨xf0, xf1, xf2, xf3, xf4, xf5, xf6, xf7, xf8, xf9, xf10, xf11, xf12, xf13, xf14, xf15, xf16, xf17, xf18⟩ := id X0
  obtain ⟨yf0, yf1, yf2, yf3, yf4, yf5, yf6, yf7, yf8⟩ := id Y0
  go_wp2_with fail
  go_ret
  exact ⟨rfl, B0.out.out⟩
set_option maxRecDepth 100000 in
set_option maxHeartbeats 2000000 in
theorem rcov_v1 (s : Sp) (p : Pl) (w : World) (h0 : s.f.s = p.s) (h1 : s.k = 1) (h3 : s.f.v ≠ p.v) :
    Calls Tryd.prog 25 #[.agg #[.int .i64 s.k, .int .i64 s.f.m, .int .i64 s.f.a, .int .i64 s.f.s, .int .i64 s.f.v, .int .i64 s.t.m, .int .i64 s.t.a, .int .i64 s.t.s, .int .i64 s.t.v], .agg #[.int .i64 p.m, .int .i64 p.a, .int .i64 p.s, .int .i64 p.v]] w fun e w' => e = .returned (.bool false) ∧ Below w.heap.size w w' := by
  have n0 : (s.f.s != p.s) = false := by simpa using h0
  clear h0
  have hq : s.k ≤ 1 := by omega
  have e1 : (s.k == 1) = true := by simpa using h1
  clear h1
  have n3 : (s.f.v != p.v) = true := by simpa using h3
  clear h3
  have B0 := Lib.hid (((Bel.refl w).alloc (.cells #[.int .i64 s.k, .int .i64 s.f.m, .int .i64 s.f.a, .int .i64 s.f.s, .int .i64 s.f.v, .int .i64 s.t.m, .int .i64 s.t.a, .int .i64 s.t.s, .int .i64 s.t.v] 25)).alloc (.cells #[.int .i64 p.m, .int .i64 p.a, .int .i64 p.s, .int .i64 p.v] 23))
  have X0 := (Non.new w (.int .i64 s.k) (.int .i64 s.f.m) (.int .i64 s.f.a) (.int .i64 s.f.s) (.int .i64 s.f.v) (.int .i64 s.t.m) (.int .i64 s.t.a) (.int .i64 s.t.s) (.int .i64 s.t.v) 25 (w.heap.size) (by simp)).alloc (.cells #[.int .i64 p.m, .int .i64 p.a, .int .i64 p.s, .int .i64 p.v] 23)
  have Y0 := Quad.new (w.alloc (.cells #[.int .i64 s.k, .int .i64 s.f.m, .int .i64 s.f.a, .int .i64 s.f.s, .int .i64 s.f.v, .int .i64 s.t.m, .int .i64 s.t.a, .int .i64 s.t.s, .int .i64 s.t.v] 25)) (.int .i64 p.m) (.int .i64 p.a) (.int .i64 p.s) (.int .i64 p.v) 23 (w.heap.size + 1) (by simp)
  go_enter Tryd.func25, Tryd.ntmps25
  obtain ⟨xf0, xf1, xf2, xf3, xf4, xf5, xf6, xf7, xf8, xf9, xf10, xf11, xf12, xf13, xf14, xf15, xf16, xf17, xf18⟩ := id X0
  obtain ⟨yf0, yf1, yf2, yf3, yf4, yf5, yf6, yf7, yf8⟩ := id Y0
  go_wp2_with fail
  go_ret
  exact ⟨rfl, B0.out.out⟩
set_option maxRecDepth 100000 in
set_option maxHeartbeats 2000000 in
theorem rcov_v7 (s : Sp) (p : Pl) (w : World) (h0 : s.f.s = p.s) (h1 : s.k = 7) (h3 : s.f.v ≠ p.v) :
    Calls Tryd.prog 25 #[.agg #[.int .i64 s.k, .int .i64 s.f.m, .int .i64 s.f.a, .int .i64 s.f.s, .int .i64 s.f.v, .int .i64 s.t.m, .int .i64 s.t.a, .int .i64 s.t.s, .int .i64 s.t.v], .agg #[.int .i64 p.m, .int .i64 p.a, .int .i64 p.s, .int .i64 p.v]] w fun e w' => e = .returned (.bool false) ∧ Below w.heap.size w w' := by
  have n0 : (s.f.s != p.s) = false := by simpa using h0
  clear h0
  have e8 : (s.k == 1) = false := by simp [h1]
  have e1 : (s.k == 7) = true := by simpa using h1
  clear h1
  have n3 : (s.f.v != p.v) = true := by simpa using h3
  clear h3
  have B0 := Lib.hid (((Bel.refl w).alloc (.cells #[.int .i64 s.k, .int .i64 s.f.m, .int .i64 s.f.a, .int .i64 s.f.s, .int .i64 s.f.v, .int .i64 s.t.m, .int .i64 s.t.a, .int .i64 s.t.s, .int .i64 s.t.v] 25)).alloc (.cells #[.int .i64 p.m, .int .i64 p.a, .int .i64 p.s, .int .i64 p.v] 23))
  have X0 := (Non.new w (.int .i64 s.k) (.int .i64 s.f.m) (.int .i64 s.f.a) (.int .i64 s.f.s) (.int .i64 s.f.v) (.int .i64 s.t.m) (.int .i64 s.t.a) (.int .i64 s.t.s) (.int .i64 s.t.v) 25 (w.heap.size) (by simp)).alloc (.cells #[.int .i64 p.m, .int .i64 p.a, .int .i64 p.s, .int .i64 p.v] 23)
  have Y0 := Quad.new (w.alloc (.cells #[.int .i64 s.k, .int .i64 s.f.m, .int .i64 s.f.a, .int .i64 s.f.s, .int .i64 s.f.v, .int .i64 s.t.m, .int .i64 s.t.a, .int .i64 s.t.s, .int .i64 s.t.v] 25)) (.int .i64 p.m) (.int .i64 p.a) (.int .i64 p.s) (.int .i64 p.v) 23 (w.heap.size + 1) (by simp)
  go_enter Tryd.func25, Tryd.ntmps25
  obtain ⟨xf0, xf1, xf2, xf3, xf4, xf5, xf6, xf7, xf8, xf9, xf10, xf11, xf12, xf13, xf14, xf15, xf16, xf17, xf18⟩ := id X0
  obtain ⟨yf0, yf1, yf2, yf3, yf4, yf5, yf6, yf7, yf8⟩ := id Y0
  go_wp2_with fail
  go_ret
  exact ⟨rfl, B0.out.out⟩
set_option maxRecDepth 100000 in
set_option maxHeartbeats 2000000 in
theorem rcov_a10 (s : Sp) (p : Pl) (c d : Int) (w : World) (hc : cmpP s.f p = c) (hd : cmpP p s.t = d) (h0 : s.f.s = p.s) (h1 : s.k = 1) (h3 : s.f.v = p.v) (g0 : ¬ c ≤ 0) :
    Calls Tryd.prog 25 #[.agg #[.int .i64 s.k, .int .i64 s.f.m, .int .i64 s.f.a, .int .i64 s.f.s, .int .i64 s.f.v, .int .i64 s.t.m, .int .i64 s.t.a, .int .i64 s.t.s, .int .i64 s.t.v], .agg #[.int .i64 p.m, .int .i64 p.a, .int .i64 p.s, .int .i64 p.v]] w fun e w' => e = .returned (.bool false) ∧ Below w.heap.size w w' := by
  replace hc := Lib.hid hc
  replace hd := Lib.hid hd
  have n0 : (s.f.s != p.s) = false := by simpa using h0
  clear h0
  have hq : s.k ≤ 1 := by omega
  have e1 : (s.k == 1) = true := by simpa using h1
  clear h1
  have n3 : (s.f.v != p.v) = false := by simpa using h3
  clear h3
  have q0 : decide (c ≤ 0) = false := decide_eq_false g0
  have B0 := Lib.hid (((Bel.refl w).alloc (.cells #[.int .i64 s.k, .int .i64 s.f.m, .int .i64 s.f.a, .int .i64 s.f.s, .int .i64 s.f.v, .int .i64 s.t.m, .int .i64 s.t.a, .int .i64 s.t.s, .int .i64 s.t.v] 25)).alloc (.cells #[.int .i64 p.m, .int .i64 p.a, .int .i64 p.s, .int .i64 p.v] 23))
  have X0 := (Non.new w (.int .i64 s.k) (.int .i64 s.f.m) (.int .i64 s.f.a) (.int .i64 s.f.s) (.int .i64 s.f.v) (.int .i64 s.t.m) (.int .i64 s.t.a) (.int .i64 s.t.s) (.int .i64 s.t.v) 25 (w.heap.size) (by simp)).alloc (.cells #[.int .i64 p.m, .int .i64 p.a, .int .i64 p.s, .int .i64 p.v] 23)
  have Y0 := Quad.new (w.alloc (.cells #[.int .i64 s.k, .int .i64 s.f.m, .int .i64 s.f.a, .int .i64 s.f.s, .int .i64 s.f.v, .int .i64 s.t.m, .int .i64 s.t.a, .int .i64 s.t.s, .int .i64 s.t.v] 25)) (.int .i64 p.m) (.int .i64 p.a) (.int .i64 p.s) (.int .i64 p.v) 23 (w.heap.size + 1) (by simp)
  go_enter Tryd.func25, Tryd.ntmps25
  obtain ⟨xf0, xf1, xf2, xf3, xf4, xf5, xf6, xf7, xf8, xf9, xf10, xf11, xf12, xf13, xf14, xf15, xf16, xf17, xf18⟩ := id X0
  obtain ⟨yf0, yf1, yf2, yf3, yf4, yf5, yf6, yf7, yf8⟩ := id Y0
  go_wp2_with fail
  clear xf0 xf1 xf2 xf3 xf4 xf5 xf6 xf7 xf8 xf9 xf10 xf11 xf12 xf13 xf14 xf15 xf16 xf17 xf18 yf0 yf1 yf2 yf3 yf4 yf5 yf6 yf7 yf8
  refine (rcompare_at s.f p c _ hc.out).mono ?_
  rintro e w1 ⟨rfl, hb⟩
  have B1 := Lib.hid (B0.out.up hb)
  have X1 := X0.up hb
  have Y1 := Y0.up hb
  clear hb B0  X0 Y0
  obtain ⟨xf0, xf1, xf2, xf3, xf4, xf5, xf6, xf7, xf8, xf9, xf10, xf11, xf12, xf13, xf14, xf15, xf16, xf17, xf18⟩ := id X1
  obtain ⟨yf0, yf1, yf2, yf3, yf4, yf5, yf6, yf7, yf8⟩ := id Y1
  go_wp2_with fail
  go_ret
  exact ⟨rfl, B1.out.out⟩
set_option maxRecDepth 100000 in
set_option maxHeartbeats 2000000 in
theorem rcov_a11 (s : Sp) (p : Pl) (c d : Int) (w : World) (hc : cmpP s.f p = c) (hd : cmpP p s.t = d) (h0 : s.f.s = p.s) (h1 : s.k = 1) (h3 : s.f.v = p.v) (g0 : c ≤ 0) (g1 : ¬ d ≤ 0) :
    Calls Tryd.prog 25 #[.agg #[.int .i64 s.k, .int .i64 s.f.m, .int .i64 s.f.a, .int .i64 s.f.s, .int .i64 s.f.v, .int .i64 s.t.m, .int .i64 s.t.a, .int .i64 s.t.s, .int .i64 s.t.v], .agg #[.int .i64 p.m, .int .i64 p.a, .int .i64 p.s, .int .i64 p.v]] w fun e w' => e = .returned (.bool false) ∧ Below w.heap.size w w' := by
  replace hc := Lib.hid hc
  replace hd := Lib.hid hd
  have n0 : (s.f.s != p.s) = false := by simpa using h0
  clear h0
  have hq : s.k ≤ 1 := by omega
  have e1 : (s.k == 1) = true := by simpa using h1
  clear h1
  have n3 : (s.f.v != p.v) = false := by simpa using h3
  clear h3
  have q0 : decide (c ≤ 0) = true := decide_eq_true g0
  have q1 : decide (d ≤ 0) = false := decide_eq_false g1
  have B0 := Lib.hid (((Bel.refl w).alloc (.cells #[.int .i64 s.k, .int .i64 s.f.m, .int .i64 s.f.a, .int .i64 s.f.s, .int .i64 s.f.v, .int .i64 s.t.m, .int .i64 s.t.a, .int .i64 s.t.s, .int .i64 s.t.v] 25)).alloc (.cells #[.int .i64 p.m, .int .i64 p.a, .int .i64 p.s, .int .i64 p.v] 23))
  have X0 := (Non.new w (.int .i64 s.k) (.int .i64 s.f.m) (.int .i64 s.f.a) (.int .i64 s.f.s) (.int .i64 s.f.v) (.int .i64 s.t.m) (.int .i64 s.t.a) (.int .i64 s.t.s) (.int .i64 s.t.v) 25 (w.heap.size) (by simp)).alloc (.cells #[.int .i64 p.m, .int .i64 p.a, .int .i64 p.s, .int .i64 p.v] 23)
  have Y0 := Quad.new (w.alloc (.cells #[.int .i64 s.k, .int .i64 s.f.m, .int .i64 s.f.a, .int .i64 s.f.s, .int .i64 s.f.v, .int .i64 s.t.m, .int .i64 s.t.a, .int .i64 s.t.s, .int .i64 s.t.v] 25)) (.int .i64 p.m) (.int .i64 p.a) (.int .i64 p.s) (.int .i64 p.v) 23 (w.heap.size + 1) (by simp)
  go_enter Tryd.func25, Tryd.ntmps25
  obtain ⟨xf0, xf1, xf2, xf3, xf4, xf5, xf6, xf7, xf8, xf9, xf10, xf11, xf12, xf13, xf14, xf15, xf16, xf17, xf18⟩ := id X0
  obtain ⟨yf0, yf1, yf2, yf3, yf4, yf5, yf6, yf7, yf8⟩ := id Y0
  go_wp2_with fail
  clear xf0 xf1 xf2 xf3 xf4 xf5 xf6 xf7 xf8 xf9 xf10 xf11 xf12 xf13 xf14 xf15 xf16 xf17 xf18 yf0 yf1 yf2 yf3 yf4 yf5 yf6 yf7 yf8
  refine (rcompare_at s.f p c _ hc.out).mono ?_
  rintro e w1 ⟨rfl, hb⟩
  have B1 := Lib.hid (B0.out.up hb)
  have X1 := X0.up hb
  have Y1 := Y0.up hb
  clear hb B0  X0 Y0
  obtain ⟨xf0, xf1, xf2, xf3, xf4, xf5, xf6, xf7, xf8, xf9, xf10, xf11, xf12, xf13, xf14, xf15, xf16, xf17, xf18⟩ := id X1
  obtain ⟨yf0, yf1, yf2, yf3, yf4, yf5, yf6, yf7, yf8⟩ := id Y1
  go_wp2_with fail
  clear xf0 xf1 xf2 xf3 xf4 xf5 xf6 xf7 xf8 xf9 xf10 xf11 xf12 xf13 xf14 xf15 xf16 xf17 xf18 yf0 yf1 yf2 yf3 yf4 yf5 yf6 yf7 yf8
  refine (rcompare_at p s.t d _ hd.out).mono ?_
  rintro e w2 ⟨rfl, hb⟩
  have B2 := Lib.hid (B1.out.up hb)
  have X2 := X1.up hb
  have Y2 := Y1.up hb
  clear hb B1  X1 Y1
  obtain ⟨xf0, xf1, xf2, xf3, xf4, xf5, xf6, xf7, xf8, xf9, xf10, xf11, xf12, xf13, xf14, xf15, xf16, xf17, xf18⟩ := id X2
  obtain ⟨yf0, yf1, yf2, yf3, yf4, yf5, yf6, yf7, yf8⟩ := id Y2
  go_wp2_with fail
  go_ret
  exact ⟨rfl, B2.out.out⟩
set_option maxRecDepth 100000 in
set_option maxHeartbeats 2000000 in
theorem rcov_a12 (s : Sp) (p : Pl) (c d : Int) (w : World) (hc : cmpP s.f p = c) (hd : cmpP p s.t = d) (h0 : s.f.s = p.s) (h1 : s.k = 1) (h3 : s.f.v = p.v) (g0 : c ≤ 0) (g1 : d ≤ 0) :
    Calls Tryd.prog 25 #[.agg #[.int .i64 s.k, .int .i64 s.f.m, .int .i64 s.f.a, .int .i64 s.f.s, .int .i64 s.f.v, .int .i64 s.t.m, .int .i64 s.t.a, .int .i64 s.t.s, .int .i64 s.t.v], .agg #[.int .i64 p.m, .int .i64 p.a, .int .i64 p.s, .int .i64 p.v]] w fun e w' => e = .returned (.bool true) ∧ Below w.heap.size w w' := by
  replace hc := Lib.hid hc
  replace hd := Lib.hid hd
  have n0 : (s.f.s != p.s) = false := by simpa using h0
  clear h0
  have hq : s.k ≤ 1 := by omega
  have e1 : (s.k == 1) = true := by simpa using h1
  clear h1
  have n3 : (s.f.v != p.v) = false := by simpa using h3
  clear h3
  have q0 : decide (c ≤ 0) = true := decide_eq_true g0
  have q1 : decide (d ≤ 0) = true := decide_eq_true g1
  have B0 := Lib.hid (((Bel.refl w).alloc (.cells #[.int .i64 s.k, .int .i64 s.f.m, .int .i64 s.f.a, .int .i64 s.f.s, .int .i64 s.f.v, .int .i64 s.t.m, .int .i64 s.t.a, .int .i64 s.t.s, .int .i64 s.t.v] 25)).alloc (.cells #[.int .i64 p.m, .int .i64 p.a, .int .i64 p.s, .int .i64 p.v] 23))
  have X0 := (Non.new w (.int .i64 s.k) (.int .i64 s.f.m) (.int .i64 s.f.a) (.int .i64 s.f.s) (.int .i64 s.f.v) (.int .i64 s.t.m) (.int .i64 s.t.a) (.int .i64 s.t.s) (.int .i64 s.t.v) 25 (w.heap.size) (by simp)).alloc (.cells #[.int .i64 p.m, .int .i64 p.a, .int .i64 p.s, .int .i64 p.v] 23)
  have Y0 := Quad.new (w.alloc (.cells #[.int .i64 s.k, .int .i64 s.f.m, .int .i64 s.f.a, .int .i64 s.f.s, .int .i64 s.f.v, .int .i64 s.t.m, .int .i64 s.t.a, .int .i64 s.t.s, .int .i64 s.t.v] 25)) (.int .i64 p.m) (.int .i64 p.a) (.int .i64 p.s) (.int .i64 p.v) 23 (w.heap.size + 1) (by simp)
  go_enter Tryd.func25, Tryd.ntmps25
  obtain ⟨xf0, xf1, xf2, xf3, xf4, xf5, xf6, xf7, xf8, xf9, xf10, xf11, xf12, xf13, xf14, xf15, xf16, xf17, xf18⟩ := id X0
  obtain ⟨yf0, yf1, yf2, yf3, yf4, yf5, yf6, yf7, yf8⟩ := id Y0
  go_wp2_with fail
  clear xf0 xf1 xf2 xf3 xf4 xf5 xf6 xf7 xf8 xf9 xf10 xf11 xf12 xf13 xf14 xf15 xf16 xf17 xf18 yf0 yf1 yf2 yf3 yf4 yf5 yf6 yf7 yf8
  refine (rcompare_at s.f p c _ hc.out).mono ?_
  rintro e w1 ⟨rfl, hb⟩
  have B1 := Lib.hid (B0.out.up hb)
  have X1 := X0.up hb
  have Y1 := Y0.up hb
  clear hb B0  X0 Y0
  obtain ⟨xf0, xf1, xf2, xf3, xf4, xf5, xf6, xf7, xf8, xf9, xf10, xf11, xf12, xf13, xf14, xf15, xf16, xf17, xf18⟩ := id X1
  obtain ⟨yf0, yf1, yf2, yf3, yf4, yf5, yf6, yf7, yf8⟩ := id Y1
  go_wp2_with fail
  clear xf0 xf1 xf2 xf3 xf4 xf5 xf6 xf7 xf8 xf9 xf10 xf11 xf12 xf13 xf14 xf15 xf16 xf17 xf18 yf0 yf1 yf2 yf3 yf4 yf5 yf6 yf7 yf8
  refine (rcompare_at p s.t d _ hd.out).mono ?_
  rintro e w2 ⟨rfl, hb⟩
  have B2 := Lib.hid (B1.out.up hb)
  have X2 := X1.up hb
  have Y2 := Y1.up hb
  clear hb B1  X1 Y1
  obtain ⟨xf0, xf1, xf2, xf3, xf4, xf5, xf6, xf7, xf8, xf9, xf10, xf11, xf12, xf13, xf14, xf15, xf16, xf17, xf18⟩ := id X2
  obtain ⟨yf0, yf1, yf2, yf3, yf4, yf5, yf6, yf7, yf8⟩ := id Y2
  go_wp2_with fail
  go_ret
  exact ⟨rfl, B2.out.out⟩
set_option maxRecDepth 100000 in
set_option maxHeartbeats 2000000 in
theorem rcov_a70 (s : Sp) (p : Pl) (c d : Int) (w : World) (hc : cmpP s.f p = c) (hd : cmpP p s.t = d) (h0 : s.f.s = p.s) (h1 : s.k = 7) (h3 : s.f.v = p.v) (g0 : ¬ c ≤ 0) :
    Calls Tryd.prog 25 #[.agg #[.int .i64 s.k, .int .i64 s.f.m, .int .i64 s.f.a, .int .i64 s.f.s, .int .i64 s.f.v, .int .i64 s.t.m, .int .i64 s.t.a, .int .i64 s.t.s, .int .i64 s.t.v], .agg #[.int .i64 p.m, .int .i64 p.a, .int .i64 p.s, .int .i64 p.v]] w fun e w' => e = .returned (.bool false) ∧ Below w.heap.size w w' := by
  replace hc := Lib.hid hc
  replace hd := Lib.hid hd
  have n0 : (s.f.s != p.s) = false := by simpa using h0
  clear h0
  have e8 : (s.k == 1) = false := by simp [h1]
  have e1 : (s.k == 7) = true := by simpa using h1
  clear h1
  have n3 : (s.f.v != p.v) = false := by simpa using h3
  clear h3
  have q0 : decide (c ≤ 0) = false := decide_eq_false g0
  have B0 := Lib.hid (((Bel.refl w).alloc (.cells #[.int .i64 s.k, .int .i64 s.f.m, .int .i64 s.f.a, .int .i64 s.f.s, .int .i64 s.f.v, .int .i64 s.t.m, .int .i64 s.t.a, .int .i64 s.t.s, .int .i64 s.t.v] 25)).alloc (.cells #[.int .i64 p.m, .int .i64 p.a, .int .i64 p.s, .int .i64 p.v] 23))
  have X0 := (Non.new w (.int .i64 s.k) (.int .i64 s.f.m) (.int .i64 s.f.a) (.int .i64 s.f.s) (.int .i64 s.f.v) (.int .i64 s.t.m) (.int .i64 s.t.a) (.int .i64 s.t.s) (.int .i64 s.t.v) 25 (w.heap.size) (by simp)).alloc (.cells #[.int .i64 p.m, .int .i64 p.a, .int .i64 p.s, .int .i64 p.v] 23)
  have Y0 := Quad.new (w.alloc (.cells #[.int .i64 s.k, .int .i64 s.f.m, .int .i64 s.f.a, .int .i64 s.f.s, .int .i64 s.f.v, .int .i64 s.t.m, .int .i64 s.t.a, .int .i64 s.t.s, .int .i64 s.t.v] 25)) (.int .i64 p.m) (.int .i64 p.a) (.int .i64 p.s) (.int .i64 p.v) 23 (w.heap.size + 1) (by simp)
  go_enter Tryd.func25, Tryd.ntmps25
  obtain ⟨xf0, xf1, xf2, xf3, xf4, xf5, xf6, xf7, xf8, xf9, xf10, xf11, xf12, xf13, xf14, xf15, xf16, xf17, xf18⟩ := id X0
  obtain ⟨yf0, yf1, yf2, yf3, yf4, yf5, yf6, yf7, yf8⟩ := id Y0
  go_wp2_with fail
  clear xf0 xf1 xf2 xf3 xf4 xf5 xf6 xf7 xf8 xf9 xf10 xf11 xf12 xf13 xf14 xf15 xf16 xf17 xf18 yf0 yf1 yf2 yf3 yf4 yf5 yf6 yf7 yf8
  refine (rcompare_at s.f p c _ hc.out).mono ?_
  rintro e w1 ⟨rfl, hb⟩
  have B1 := Lib.hid (B0.out.up hb)
  have X1 := X0.up hb
  have Y1 := Y0.up hb
  clear hb B0  X0 Y0
  obtain ⟨xf0, xf1, xf2, xf3, xf4, xf5, xf6, xf7, xf8, xf9, xf10, xf11, xf12, xf13, xf14, xf15, xf16, xf17, xf18⟩ := id X1
  obtain ⟨yf0, yf1, yf2, yf3, yf4, yf5, yf6, yf7, yf8⟩ := id Y1
  go_wp2_with fail
  go_ret
  exact ⟨rfl, B1.out.out⟩
set_option maxRecDepth 100000 in
set_option maxHeartbeats 2000000 in
theorem rcov_a71 (s : Sp) (p : Pl) (c d : Int) (w : World) (hc : cmpP s.f p = c) (hd : cmpP p s.t = d) (h0 : s.f.s = p.s) (h1 : s.k = 7) (h3 : s.f.v = p.v) (g0 : c ≤ 0) (g1 : ¬ d ≤ 0) :
    Calls Tryd.prog 25 #[.agg #[.int .i64 s.k, .int .i64 s.f.m, .int .i64 s.f.a, .int .i64 s.f.s, .int .i64 s.f.v, .int .i64 s.t.m, .int .i64 s.t.a, .int .i64 s.t.s, .int .i64 s.t.v], .agg #[.int .i64 p.m, .int .i64 p.a, .int .i64 p.s, .int .i64 p.v]] w fun e w' => e = .returned (.bool false) ∧ Below w.heap.size w w' := by
  replace hc := Lib.hid hc
  replace hd := Lib.hid hd
  have n0 : (s.f.s != p.s) = false := by simpa using h0
  clear h0
  have e8 : (s.k == 1) = false := by simp [h1]
  have e1 : (s.k == 7) = true := by simpa using h1
  clear h1
  have n3 : (s.f.v != p.v) = false := by simpa using h3
  clear h3
  have q0 : decide (c ≤ 0) = true := decide_eq_true g0
  have q1 : decide (d ≤ 0) = false := decide_eq_false g1
  have B0 := Lib.hid (((Bel.refl w).alloc (.cells #[.int .i64 s.k, .int .i64 s.f.m, .int .i64 s.f.a, .int .i64 s.f.s, .int .i64 s.f.v, .int .i64 s.t.m, .int .i64 s.t.a, .int .i64 s.t.s, .int .i64 s.t.v] 25)).alloc (.cells #[.int .i64 p.m, .int .i64 p.a, .int .i64 p.s, .int .i64 p.v] 23))
  have X0 := (Non.new w (.int .i64 s.k) (.int .i64 s.f.m) (.int .i64 s.f.a) (.int .i64 s.f.s) (.int .i64 s.f.v) (.int .i64 s.t.m) (.int .i64 s.t.a) (.int .i64 s.t.s) (.int .i64 s.t.v) 25 (w.heap.size) (by simp)).alloc (.cells #[.int .i64 p.m, .int .i64 p.a, .int .i64 p.s, .int .i64 p.v] 23)
  have Y0 := Quad.new (w.alloc (.cells #[.int .i64 s.k, .int .i64 s.f.m, .int .i64 s.f.a, .int .i64 s.f.s, .int .i64 s.f.v, .int .i64 s.t.m, .int .i64 s.t.a, .int .i64 s.t.s, .int .i64 s.t.v] 25)) (.int .i64 p.m) (.int .i64 p.a) (.int .i64 p.s) (.int .i64 p.v) 23 (w.heap.size + 1) (by simp)
  go_enter Tryd.func25, Tryd.ntmps25
  obtain ⟨xf0, xf1, xf2, xf3, xf4, xf5, xf6, xf7, xf8, xf9, xf10, xf11, xf12, xf13, xf14, xf15, xf16, xf17, xf18⟩ := id X0
  obtain ⟨yf0, yf1, yf2, yf3, yf4, yf5, yf6, yf7, yf8⟩ := id Y0
  go_wp2_with fail
  clear xf0 xf1 xf2 xf3 xf4 xf5 xf6 xf7 xf8 xf9 xf10 xf11 xf12 xf13 xf14 xf15 xf16 xf17 xf18 yf0 yf1 yf2 yf3 yf4 yf5 yf6 yf7 yf8
  refine (rcompare_at s.f p c _ hc.out).mono ?_
  rintro e w1 ⟨rfl, hb⟩
  have B1 := Lib.hid (B0.out.up hb)
  have X1 := X0.up hb
  have Y1 := Y0.up hb
  clear hb B0  X0 Y0
  obtain ⟨xf0, xf1, xf2, xf3, xf4, xf5, xf6, xf7, xf8, xf9, xf10, xf11, xf12, xf13, xf14, xf15, xf16, xf17, xf18⟩ := id X1
  obtain ⟨yf0, yf1, yf2, yf3, yf4, yf5, yf6, yf7, yf8⟩ := id Y1
  go_wp2_with fail
  clear xf0 xf1 xf2 xf3 xf4 xf5 xf6 xf7 xf8 xf9 xf10 xf11 xf12 xf13 xf14 xf15 xf16 xf17 xf18 yf0 yf1 yf2 yf3 yf4 yf5 yf6 yf7 yf8
  refine (rcompare_at p s.t d _ hd.out).mono ?_
  rintro e w2 ⟨rfl, hb⟩
  have B2 := Lib.hid (B1.out.up hb)
  have X2 := X1.up hb
  have Y2 := Y1.up hb
  clear hb B1  X1 Y1
  obtain ⟨xf0, xf1, xf2, xf3, xf4, xf5, xf6, xf7, xf8, xf9, xf10, xf11, xf12, xf13, xf14, xf15, xf16, xf17, xf18⟩ := id X2
  obtain ⟨yf0, yf1, yf2, yf3, yf4, yf5, yf6, yf7, yf8⟩ := id Y2
  go_wp2_with fail
  go_ret
  exact ⟨rfl, B2.out.out⟩
set_option maxRecDepth 100000 in
set_option maxHeartbeats 2000000 in
theorem rcov_a72 (s : Sp) (p : Pl) (c d : Int) (w : World) (hc : cmpP s.f p = c) (hd : cmpP p s.t = d) (h0 : s.f.s = p.s) (h1 : s.k = 7) (h3 : s.f.v = p.v) (g0 : c ≤ 0) (g1 : d ≤ 0) :
    Calls Tryd.prog 25 #[.agg #[.int .i64 s.k, .int .i64 s.f.m, .int .i64 s.f.a, .int .i64 s.f.s, .int .i64 s.f.v, .int .i64 s.t.m, .int .i64 s.t.a, .int .i64 s.t.s, .int .i64 s.t.v], .agg #[.int .i64 p.m, .int .i64 p.a, .int .i64 p.s, .int .i64 p.v]] w fun e w' => e = .returned (.bool true) ∧ Below w.heap.size w w' := by
  replace hc := Lib.hid hc
  replace hd := Lib.hid hd
  have n0 : (s.f.s != p.s) = false := by simpa using h0
  clear h0
  have e8 : (s.k == 1) = false := by simp [h1]
  have e1 : (s.k == 7) = true := by simpa using h1
  clear h1
  have n3 : (s.f.v != p.v) = false := by simpa using h3
  clear h3
  have q0 : decide (c ≤ 0) = true := decide_eq_true g0
  have q1 : decide (d ≤ 0) = true := decide_eq_true g1
  have B0 := Lib.hid (((Bel.refl w).alloc (.cells #[.int .i64 s.k, .int .i64 s.f.m, .int .i64 s.f.a, .int .i64 s.f.s, .int .i64 s.f.v, .int .i64 s.t.m, .int .i64 s.t.a, .int .i64 s.t.s, .int .i64 s.t.v] 25)).alloc (.cells #[.int .i64 p.m, .int .i64 p.a, .int .i64 p.s, .int .i64 p.v] 23))
  have X0 := (Non.new w (.int .i64 s.k) (.int .i64 s.f.m) (.int .i64 s.f.a) (.int .i64 s.f.s) (.int .i64 s.f.v) (.int .i64 s.t.m) (.int .i64 s.t.a) (.int .i64 s.t.s) (.int .i64 s.t.v) 25 (w.heap.size) (by simp)).alloc (.cells #[.int .i64 p.m, .int .i64 p.a, .int .i64 p.s, .int .i64 p.v] 23)
  have Y0 := Quad.new (w.alloc (.cells #[.int .i64 s.k, .int .i64 s.f.m, .int .i64 s.f.a, .int .i64 s.f.s, .int .i64 s.f.v, .int .i64 s.t.m, .int .i64 s.t.a, .int .i64 s.t.s, .int .i64 s.t.v] 25)) (.int .i64 p.m) (.int .i64 p.a) (.int .i64 p.s) (.int .i64 p.v) 23 (w.heap.size + 1) (by simp)
  go_enter Tryd.func25, Tryd.ntmps25
  obtain ⟨xf0, xf1, xf2, xf3, xf4, xf5, xf6, xf7, xf8, xf9, xf10, xf11, xf12, xf13, xf14, xf15, xf16, xf17, xf18⟩ := id X0
  obtain ⟨yf0, yf1, yf2, yf3, yf4, yf5, yf6, yf7, yf8⟩ := id Y0
  go_wp2_with fail
  clear xf0 xf1 xf2 xf3 xf4 xf5 xf6 xf7 xf8 xf9 xf10 xf11 xf12 xf13 xf14 xf15 xf16 xf17 xf18 yf0 yf1 yf2 yf3 yf4 yf5 yf6 yf7 yf8
  refine (rcompare_at s.f p c _ hc.out).mono ?_
  rintro e w1 ⟨rfl, hb⟩
  have B1 := Lib.hid (B0.out.up hb)
  have X1 := X0.up hb
  have Y1 := Y0.up hb
  clear hb B0  X0 Y0
  obtain ⟨xf0, xf1, xf2, xf3, xf4, xf5, xf6, xf7, xf8, xf9, xf10, xf11, xf12, xf13, xf14, xf15, xf16, xf17, xf18⟩ := id X1
  obtain ⟨yf0, yf1, yf2, yf3, yf4, yf5, yf6, yf7, yf8⟩ := id Y1
  go_wp2_with fail
  clear xf0 xf1 xf2 xf3 xf4 xf5 xf6 xf7 xf8 xf9 xf10 xf11 xf12 xf13 xf14 xf15 xf16 xf17 xf18 yf0 yf1 yf2 yf3 yf4 yf5 yf6 yf7 yf8
  refine (rcompare_at p s.t d _ hd.out).mono ?_
  rintro e w2 ⟨rfl, hb⟩
  have B2 := Lib.hid (B1.out.up hb)
  have X2 := X1.up hb
  have Y2 := Y1.up hb
  clear hb B1  X1 Y1
  obtain ⟨xf0, xf1, xf2, xf3, xf4, xf5, xf6, xf7, xf8, xf9, xf10, xf11, xf12, xf13, xf14, xf15, xf16, xf17, xf18⟩ := id X2
  obtain ⟨yf0, yf1, yf2, yf3, yf4, yf5, yf6, yf7, yf8⟩ := id Y2
  go_wp2_with fail
  go_ret
  exact ⟨rfl, B2.out.out⟩
set_option maxRecDepth 100000 in
set_option maxHeartbeats 2000000 in
theorem rcov_o0 (s : Sp) (p : Pl) (c d : Int) (w : World) (hc : cmpP s.f p = c) (hd : cmpP p s.t = d) (h0 : s.f.s = p.s) (h1 : s.k ≠ 1) (h2 : s.k ≠ 7) (g0 : ¬ c ≤ 0) :
    Calls Tryd.prog 25 #[.agg #[.int .i64 s.k, .int .i64 s.f.m, .int .i64 s.f.a, .int .i64 s.f.s, .int .i64 s.f.v, .int .i64 s.t.m, .int .i64 s.t.a, .int .i64 s.t.s, .int .i64 s.t.v], .agg #[.int .i64 p.m, .int .i64 p.a, .int .i64 p.s, .int .i64 p.v]] w fun e w' => e = .returned (.bool false) ∧ Below w.heap.size w w' := by
  replace hc := Lib.hid hc
  replace hd := Lib.hid hd
  have n0 : (s.f.s != p.s) = false := by simpa using h0
  clear h0
  have e1 : (s.k == 1) = false := by simpa using h1
  have e2 : (s.k == 7) = false := by simpa using h2
  clear h1 h2
  have q0 : decide (c ≤ 0) = false := decide_eq_false g0
  have B0 := Lib.hid (((Bel.refl w).alloc (.cells #[.int .i64 s.k, .int .i64 s.f.m, .int .i64 s.f.a, .int .i64 s.f.s, .int .i64 s.f.v, .int .i64 s.t.m, .int .i64 s.t.a, .int .i64 s.t.s, .int .i64 s.t.v] 25)).alloc (.cells #[.int .i64 p.m, .int .i64 p.a, .int .i64 p.s, .int .i64 p.v] 23))
  have X0 := (Non.new w (.int .i64 s.k) (.int .i64 s.f.m) (.int .i64 s.f.a) (.int .i64 s.f.s) (.int .i64 s.f.v) (.int .i64 s.t.m) (.int .i64 s.t.a) (.int .i64 s.t.s) (.int .i64 s.t.v) 25 (w.heap.size) (by simp)).alloc (.cells #[.int .i64 p.m, .int .i64 p.a, .int .i64 p.s, .int .i64 p.v] 23)
  have Y0 := Quad.new (w.alloc (.cells #[.int .i64 s.k, .int .i64 s.f.m, .int .i64 s.f.a, .int .i64 s.f.s, .int .i64 s.f.v, .int .i64 s.t.m, .int .i64 s.t.a, .int .i64 s.t.s, .int .i64 s.t.v] 25)) (.int .i64 p.m) (.int .i64 p.a) (.int .i64 p.s) (.int .i64 p.v) 23 (w.heap.size + 1) (by simp)
  go_enter Tryd.func25, Tryd.ntmps25
  obtain ⟨xf0, xf1, xf2, xf3, xf4, xf5, xf6, xf7, xf8, xf9, xf10, xf11, xf12, xf13, xf14, xf15, xf16, xf17, xf18⟩ := id X0
  obtain ⟨yf0, yf1, yf2, yf3, yf4, yf5, yf6, yf7, yf8⟩ := id Y0
  go_wp2_with fail
  clear xf0 xf1 xf2 xf3 xf4 xf5 xf6 xf7 xf8 xf9 xf10 xf11 xf12 xf13 xf14 xf15 xf16 xf17 xf18 yf0 yf1 yf2 yf3 yf4 yf5 yf6 yf7 yf8
  refine (rcompare_at s.f p c _ hc.out).mono ?_
  rintro e w1 ⟨rfl, hb⟩
  have B1 := Lib.hid (B0.out.up hb)
  have X1 := X0.up hb
  have Y1 := Y0.up hb
  clear hb B0  X0 Y0
  obtain ⟨xf0, xf1, xf2, xf3, xf4, xf5, xf6, xf7, xf8, xf9, xf10, xf11, xf12, xf13, xf14, xf15, xf16, xf17, xf18⟩ := id X1
  obtain ⟨yf0, yf1, yf2, yf3, yf4, yf5, yf6, yf7, yf8⟩ := id Y1
  go_wp2_with fail
  go_ret
  exact ⟨rfl, B1.out.out⟩
set_option maxRecDepth 100000 in
set_option maxHeartbeats 2000000 in
theorem rcov_o1 (s : Sp) (p : Pl) (c d : Int) (w : World) (hc : cmpP s.f p = c) (hd : cmpP p s.t = d) (h0 : s.f.s = p.s) (h1 : s.k ≠ 1) (h2 : s.k ≠ 7) (g0 : c ≤ 0) (g1 : ¬ d ≤ 0) :
    Calls Tryd.prog 25 #[.agg #[.int .i64 s.k, .int .i64 s.f.m, .int .i64 s.f.a, .int .i64 s.f.s, .int .i64 s.f.v, .int .i64 s.t.m, .int .i64 s.t.a, .int .i64 s.t.s, .int .i64 s.t.v], .agg #[.int .i64 p.m, .int .i64 p.a, .int .i64 p.s, .int .i64 p.v]] w fun e w' => e = .returned (.bool false) ∧ Below w.heap.size w w' := by
  replace hc := Lib.hid hc
  replace hd := Lib.hid hd
  have n0 : (s.f.s != p.s) = false := by simpa using h0
  clear h0
  have e1 : (s.k == 1) = false := by simpa using h1
  have e2 : (s.k == 7) = false := by simpa using h2
  clear h1 h2
  have q0 : decide (c ≤ 0) = true := decide_eq_true g0
  have q1 : decide (d ≤ 0) = false := decide_eq_false g1
  have B0 := Lib.hid (((Bel.refl w).alloc (.cells #[.int .i64 s.k, .int .i64 s.f.m, .int .i64 s.f.a, .int .i64 s.f.s, .int .i64 s.f.v, .int .i64 s.t.m, .int .i64 s.t.a, .int .i64 s.t.s, .int .i64 s.t.v] 25)).alloc (.cells #[.int .i64 p.m, .int .i64 p.a, .int .i64 p.s, .int .i64 p.v] 23))
  have X0 := (Non.new w (.int .i64 s.k) (.int .i64 s.f.m) (.int .i64 s.f.a) (.int .i64 s.f.s) (.int .i64 s.f.v) (.int .i64 s.t.m) (.int .i64 s.t.a) (.int .i64 s.t.s) (.int .i64 s.t.v) 25 (w.heap.size) (by simp)).alloc (.cells #[.int .i64 p.m, .int .i64 p.a, .int .i64 p.s, .int .i64 p.v] 23)
  have Y0 := Quad.new (w.alloc (.cells #[.int .i64 s.k, .int .i64 s.f.m, .int .i64 s.f.a, .int .i64 s.f.s, .int .i64 s.f.v, .int .i64 s.t.m, .int .i64 s.t.a, .int .i64 s.t.s, .int .i64 s.t.v] 25)) (.int .i64 p.m) (.int .i64 p.a) (.int .i64 p.s) (.int .i64 p.v) 23 (w.heap.size + 1) (by simp)
  go_enter Tryd.func25, Tryd.ntmps25
  obtain ⟨xf0, xf1, xf2, xf3, xf4, xf5, xf6, xf7, xf8, xf9, xf10, xf11, xf12, xf13, xf14, xf15, xf16, xf17, xf18⟩ := id X0
  obtain ⟨yf0, yf1, yf2, yf3, yf4, yf5, yf6, yf7, yf8⟩ := id Y0
  go_wp2_with fail
  clear xf0 xf1 xf2 xf3 xf4 xf5 xf6 xf7 xf8 xf9 xf10 xf11 xf12 xf13 xf14 xf15 xf16 xf17 xf18 yf0 yf1 yf2 yf3 yf4 yf5 yf6 yf7 yf8
  refine (rcompare_at s.f p c _ hc.out).mono ?_
  rintro e w1 ⟨rfl, hb⟩
  have B1 := Lib.hid (B0.out.up hb)
  have X1 := X0.up hb
  have Y1 := Y0.up hb
  clear hb B0  X0 Y0
  obtain ⟨xf0, xf1, xf2, xf3, xf4, xf5, xf6, xf7, xf8, xf9, xf10, xf11, xf12, xf13, xf14, xf15, xf16, xf17, xf18⟩ := id X1
  obtain ⟨yf0, yf1, yf2, yf3, yf4, yf5, yf6, yf7, yf8⟩ := id Y1
  go_wp2_with fail
  clear xf0 xf1 xf2 xf3 xf4 xf5 xf6 xf7 xf8 xf9 xf10 xf11 xf12 xf13 xf14 xf15 xf16 xf17 xf18 yf0 yf1 yf2 yf3 yf4 yf5 yf6 yf7 yf8
  refine (rcompare_at p s.t d _ hd.out).mono ?_
  rintro e w2 ⟨rfl, hb⟩
  have B2 := Lib.hid (B1.out.up hb)
  have X2 := X1.up hb
  have Y2 := Y1.up hb
  clear hb B1  X1 Y1
  obtain ⟨xf0, xf1, xf2, xf3, xf4, xf5, xf6, xf7, xf8, xf9, xf10, xf11, xf12, xf13, xf14, xf15, xf16, xf17, xf18⟩ := id X2
  obtain ⟨yf0, yf1, yf2, yf3, yf4, yf5, yf6, yf7, yf8⟩ := id Y2
  go_wp2_with fail
  go_ret
  exact ⟨rfl, B2.out.out⟩
set_option maxRecDepth 100000 in
set_option maxHeartbeats 2000000 in
theorem rcov_o2 (s : Sp) (p : Pl) (c d : Int) (w : World) (hc : cmpP s.f p = c) (hd : cmpP p s.t = d) (h0 : s.f.s = p.s) (h1 : s.k ≠ 1) (h2 : s.k ≠ 7) (g0 : c ≤ 0) (g1 : d ≤ 0) :
    Calls Tryd.prog 25 #[.agg #[.int .i64 s.k, .int .i64 s.f.m, .int .i64 s.f.a, .int .i64 s.f.s, .int .i64 s.f.v, .int .i64 s.t.m, .int .i64 s.t.a, .int .i64 s.t.s, .int .i64 s.t.v], .agg #[.int .i64 p.m, .int .i64 p.a, .int .i64 p.s, .int .i64 p.v]] w fun e w' => e = .returned (.bool true) ∧ Below w.heap.size w w' := by
  replace hc := Lib.hid hc
  replace hd := Lib.hid hd
  have n0 : (s.f.s != p.s) = false := by simpa using h0
  clear h0
  have e1 : (s.k == 1) = false := by simpa using h1
  have e2 : (s.k == 7) = false := by simpa using h2
  clear h1 h2
  have q0 : decide (c ≤ 0) = true := decide_eq_true g0
  have q1 : decide (d ≤ 0) = true := decide_eq_true g1
  have B0 := Lib.hid (((Bel.refl w).alloc (.cells #[.int .i64 s.k, .int .i64 s.f.m, .int .i64 s.f.a, .int .i64 s.f.s, .int .i64 s.f.v, .int .i64 s.t.m, .int .i64 s.t.a, .int .i64 s.t.s, .int .i64 s.t.v] 25)).alloc (.cells #[.int .i64 p.m, .int .i64 p.a, .int .i64 p.s, .int .i64 p.v] 23))
  have X0 := (Non.new w (.int .i64 s.k) (.int .i64 s.f.m) (.int .i64 s.f.a) (.int .i64 s.f.s) (.int .i64 s.f.v) (.int .i64 s.t.m) (.int .i64 s.t.a) (.int .i64 s.t.s) (.int .i64 s.t.v) 25 (w.heap.size) (by simp)).alloc (.cells #[.int .i64 p.m, .int .i64 p.a, .int .i64 p.s, .int .i64 p.v] 23)
  have Y0 := Quad.new (w.alloc (.cells #[.int .i64 s.k, .int .i64 s.f.m, .int .i64 s.f.a, .int .i64 s.f.s, .int .i64 s.f.v, .int .i64 s.t.m, .int .i64 s.t.a, .int .i64 s.t.s, .int .i64 s.t.v] 25)) (.int .i64 p.m) (.int .i64 p.a) (.int .i64 p.s) (.int .i64 p.v) 23 (w.heap.size + 1) (by simp)
  go_enter Tryd.func25, Tryd.ntmps25
  obtain ⟨xf0, xf1, xf2, xf3, xf4, xf5, xf6, xf7, xf8, xf9, xf10, xf11, xf12, xf13, xf14, xf15, xf16, xf17, xf18⟩ := id X0
  obtain ⟨yf0, yf1, yf2, yf3, yf4, yf5, yf6, yf7, yf8⟩ := id Y0
  go_wp2_with fail
  clear xf0 xf1 xf2 xf3 xf4 xf5 xf6 xf7 xf8 xf9 xf10 xf11 xf12 xf13 xf14 xf15 xf16 xf17 xf18 yf0 yf1 yf2 yf3 yf4 yf5 yf6 yf7 yf8
  refine (rcompare_at s.f p c _ hc.out).mono ?_
  rintro e w1 ⟨rfl, hb⟩
  have B1 := Lib.hid (B0.out.up hb)
  have X1 := X0.up hb
  have Y1 := Y0.up hb
  clear hb B0  X0 Y0
  obtain ⟨xf0, xf1, xf2, xf3, xf4, xf5, xf6, xf7, xf8, xf9, xf10, xf11, xf12, xf13, xf14, xf15, xf16, xf17, xf18⟩ := id X1
  obtain ⟨yf0, yf1, yf2, yf3, yf4, yf5, yf6, yf7, yf8⟩ := id Y1
  go_wp2_with fail
  clear xf0 xf1 xf2 xf3 xf4 xf5 xf6 xf7 xf8 xf9 xf10 xf11 xf12 xf13 xf14 xf15 xf16 xf17 xf18 yf0 yf1 yf2 yf3 yf4 yf5 yf6 yf7 yf8
  refine (rcompare_at p s.t d _ hd.out).mono ?_
  rintro e w2 ⟨rfl, hb⟩
  have B2 := Lib.hid (B1.out.up hb)
  have X2 := X1.up hb
  have Y2 := Y1.up hb
  clear hb B1  X1 Y1
  obtain ⟨xf0, xf1, xf2, xf3, xf4, xf5, xf6, xf7, xf8, xf9, xf10, xf11, xf12, xf13, xf14, xf15, xf16, xf17, xf18⟩ := id X2
  obtain ⟨yf0, yf1, yf2, yf3, yf4, yf5, yf6, yf7, yf8⟩ := id Y2
  go_wp2_with fail
  go_ret
  exact ⟨rfl, B2.out.out⟩
theorem rcov_at (s : Sp) (p : Pl) (b : Bool) (w : World) (h : cov s p = b) : Calls Tryd.prog 25 #[.agg #[.int .i64 s.k, .int .i64 s.f.m, .int .i64 s.f.a, .int .i64 s.f.s, .int .i64 s.f.v, .int .i64 s.t.m, .int .i64 s.t.a, .int .i64 s.t.s, .int .i64 s.t.v], .agg #[.int .i64 p.m, .int .i64 p.a, .int .i64 p.s, .int .i64 p.v]] w fun e w' => e = .returned (.bool b) ∧ Below w.heap.size w w' := by
  subst h
  have no : ¬ (s.f.s = p.s ∧ (ofV s.k = true → s.f.v = p.v) ∧ cmpP s.f p ≤ 0 ∧ cmpP p s.t ≤ 0) → cov s p = false := fun h => by
    cases e : cov s p
    · rfl
    · exact absurd ((cov_iff s p).1 e) h
  obtain ⟨c, hc⟩ : ∃ c, cmpP s.f p = c := ⟨_, rfl⟩
  obtain ⟨d, hd⟩ : ∃ d, cmpP p s.t = d := ⟨_, rfl⟩
  rw [hc, hd] at no
  have yes : s.f.s = p.s → (ofV s.k = true → s.f.v = p.v) → c ≤ 0 → d ≤ 0 → cov s p = true := fun h1 h2 h3 h4 => (cov_iff s p).2 ⟨h1, h2, by rw [hc]; exact h3, by rw [hd]; exact h4⟩
  by_cases h0 : s.f.s = p.s
  · by_cases h1 : s.k = 1
    · have hv : ofV s.k = true := by simp [ofV, h1]
      by_cases h3 : s.f.v = p.v
      · by_cases g0 : c ≤ 0
        · by_cases g1 : d ≤ 0
          · rw [yes h0 (fun _ => h3) g0 g1]; exact rcov_a12 s p c d w hc hd h0 h1 h3 g0 g1
          · rw [no (fun h => g1 h.2.2.2)]; exact rcov_a11 s p c d w hc hd h0 h1 h3 g0 g1
        · rw [no (fun h => g0 h.2.2.1)]; exact rcov_a10 s p c d w hc hd h0 h1 h3 g0
      · rw [no (fun h => h3 (h.2.1 hv))]; exact rcov_v1 s p w h0 h1 h3
    · by_cases h7 : s.k = 7
      · have hv : ofV s.k = true := by simp [ofV, h7]
        by_cases h3 : s.f.v = p.v
        · by_cases g0 : c ≤ 0
          · by_cases g1 : d ≤ 0
            · rw [yes h0 (fun _ => h3) g0 g1]; exact rcov_a72 s p c d w hc hd h0 h7 h3 g0 g1
            · rw [no (fun h => g1 h.2.2.2)]; exact rcov_a71 s p c d w hc hd h0 h7 h3 g0 g1
          · rw [no (fun h => g0 h.2.2.1)]; exact rcov_a70 s p c d w hc hd h0 h7 h3 g0
        · rw [no (fun h => h3 (h.2.1 hv))]; exact rcov_v7 s p w h0 h7 h3
      · have hv : ofV s.k = false := by simp [ofV, h1, h7]
        by_cases g0 : c ≤ 0
        · by_cases g1 : d ≤ 0
          · rw [yes h0 (fun h => by rw [hv] at h; cases h) g0 g1]; exact rcov_o2 s p c d w hc hd h0 h1 h7 g0 g1
          · rw [no (fun h => g1 h.2.2.2)]; exact rcov_o1 s p c d w hc hd h0 h1 h7 g0 g1
        · rw [no (fun h => g0 h.2.2.1)]; exact rcov_o0 s p c d w hc hd h0 h1 h7 g0
  · rw [no (fun h => h0 h.1)]; exact rcov_s s p w h0
end Go.Proofs.YtabafabebodojaaDoor
