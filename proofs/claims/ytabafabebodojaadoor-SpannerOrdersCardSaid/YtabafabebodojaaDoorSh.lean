/- Spans: the reference's Proper. -/
import Derived.Test.YtabafabebodojaaDoorSg
namespace Go.Proofs.YtabafabebodojaaDoor
open Go.RowKit
set_option linter.unusedVariables false
set_option linter.unusedSimpArgs false

set_option maxRecDepth 100000 in
set_option maxHeartbeats 2000000 in
theorem rproper_k0 (s : Sp) (w : World) (h8 : ¬ 1 ≤ s.k) :
    Calls Tryd.prog 16 #[.agg #[.int .i64 s.k, .int .i64 s.f.m, .int .i64 s.f.a, .int .i64 s.f.s, .int .i64 s.f.v, .int .i64 s.t.m, .int .i64 s.t.a, .int .i64 s.t.s, .int .i64 s.t.v]] w fun e w' => e = .returned (.int .i64 11) ∧ Below w.heap.size w w' := by
  have g8 : decide (s.k < 1) = true := decide_eq_true (by omega)
  have B0 := Lib.hid ((Bel.refl w).alloc (.cells #[.int .i64 s.k, .int .i64 s.f.m, .int .i64 s.f.a, .int .i64 s.f.s, .int .i64 s.f.v, .int .i64 s.t.m, .int .i64 s.t.a, .int .i64 s.t.s, .int .i64 s.t.v] 25))
  have X0 := Non.new w (.int .i64 s.k) (.int .i64 s.f.m) (.int .i64 s.f.a) (.int .i64 s.f.s) (.int .i64 s.f.v) (.int .i64 s.t.m) (.int .i64 s.t.a) (.int .i64 s.t.s) (.int .i64 s.t.v) 25 (w.heap.size) (by simp)
  go_enter Tryd.func16, Tryd.ntmps16
  obtain ⟨xf0, xf1, xf2, xf3, xf4, xf5, xf6, xf7, xf8, xf9, xf10, xf11, xf12, xf13, xf14, xf15, xf16, xf17, xf18⟩ := id X0
  go_wp2_with fail
  go_ret
  exact ⟨rfl, B0.out.out⟩
set_option maxRecDepth 100000 in
set_option maxHeartbeats 2000000 in
theorem rproper_k1 (s : Sp) (w : World) (h8 : 1 ≤ s.k) (h9 : ¬ s.k ≤ 7) :
    Calls Tryd.prog 16 #[.agg #[.int .i64 s.k, .int .i64 s.f.m, .int .i64 s.f.a, .int .i64 s.f.s, .int .i64 s.f.v, .int .i64 s.t.m, .int .i64 s.t.a, .int .i64 s.t.s, .int .i64 s.t.v]] w fun e w' => e = .returned (.int .i64 11) ∧ Below w.heap.size w w' := by
  have g8 : decide (s.k < 1) = false := decide_eq_false (by omega)
  have g9 : decide (7 < s.k) = true := decide_eq_true (by omega)
  have B0 := Lib.hid ((Bel.refl w).alloc (.cells #[.int .i64 s.k, .int .i64 s.f.m, .int .i64 s.f.a, .int .i64 s.f.s, .int .i64 s.f.v, .int .i64 s.t.m, .int .i64 s.t.a, .int .i64 s.t.s, .int .i64 s.t.v] 25))
  have X0 := Non.new w (.int .i64 s.k) (.int .i64 s.f.m) (.int .i64 s.f.a) (.int .i64 s.f.s) (.int .i64 s.f.v) (.int .i64 s.t.m) (.int .i64 s.t.a) (.int .i64 s.t.s) (.int .i64 s.t.v) 25 (w.heap.size) (by simp)
  go_enter Tryd.func16, Tryd.ntmps16
  obtain ⟨xf0, xf1, xf2, xf3, xf4, xf5, xf6, xf7, xf8, xf9, xf10, xf11, xf12, xf13, xf14, xf15, xf16, xf17, xf18⟩ := id X0
  go_wp2_with fail
  go_ret
  exact ⟨rfl, B0.out.out⟩
set_option maxRecDepth 100000 in
set_option maxHeartbeats 2000000 in
theorem rproper_f (s : Sp) (w : World) (h8 : 1 ≤ s.k) (h9 : s.k ≤ 7) (hf : isP s.f = false) :
    Calls Tryd.prog 16 #[.agg #[.int .i64 s.k, .int .i64 s.f.m, .int .i64 s.f.a, .int .i64 s.f.s, .int .i64 s.f.v, .int .i64 s.t.m, .int .i64 s.t.a, .int .i64 s.t.s, .int .i64 s.t.v]] w fun e w' => e = .returned (.int .i64 2) ∧ Below w.heap.size w w' := by
  have g8 : decide (s.k < 1) = false := decide_eq_false (by omega)
  have g9 : decide (7 < s.k) = false := decide_eq_false (by omega)
  replace hf := Lib.hid hf
  have B0 := Lib.hid ((Bel.refl w).alloc (.cells #[.int .i64 s.k, .int .i64 s.f.m, .int .i64 s.f.a, .int .i64 s.f.s, .int .i64 s.f.v, .int .i64 s.t.m, .int .i64 s.t.a, .int .i64 s.t.s, .int .i64 s.t.v] 25))
  have X0 := Non.new w (.int .i64 s.k) (.int .i64 s.f.m) (.int .i64 s.f.a) (.int .i64 s.f.s) (.int .i64 s.f.v) (.int .i64 s.t.m) (.int .i64 s.t.a) (.int .i64 s.t.s) (.int .i64 s.t.v) 25 (w.heap.size) (by simp)
  go_enter Tryd.func16, Tryd.ntmps16
  obtain ⟨xf0, xf1, xf2, xf3, xf4, xf5, xf6, xf7, xf8, xf9, xf10, xf11, xf12, xf13, xf14, xf15, xf16, xf17, xf18⟩ := id X0
  go_wp2_with fail
  clear xf0 xf1 xf2 xf3 xf4 xf5 xf6 xf7 xf8 xf9 xf10 xf11 xf12 xf13 xf14 xf15 xf16 xf17 xf18
  refine (rin_at s.f false _ hf.out).mono ?_
  rintro e w1 ⟨rfl, hb⟩
  have B1 := Lib.hid (B0.out.up hb)
  have X1 := X0.up hb
  clear hb B0  X0
  obtain ⟨xf0, xf1, xf2, xf3, xf4, xf5, xf6, xf7, xf8, xf9, xf10, xf11, xf12, xf13, xf14, xf15, xf16, xf17, xf18⟩ := id X1
  go_wp2_with fail
  go_ret
  exact ⟨rfl, B1.out.out⟩
set_option maxRecDepth 100000 in
set_option maxHeartbeats 2000000 in
theorem rproper_t (s : Sp) (w : World) (h8 : 1 ≤ s.k) (h9 : s.k ≤ 7) (hf : isP s.f = true) (ht : isP s.t = false) :
    Calls Tryd.prog 16 #[.agg #[.int .i64 s.k, .int .i64 s.f.m, .int .i64 s.f.a, .int .i64 s.f.s, .int .i64 s.f.v, .int .i64 s.t.m, .int .i64 s.t.a, .int .i64 s.t.s, .int .i64 s.t.v]] w fun e w' => e = .returned (.int .i64 2) ∧ Below w.heap.size w w' := by
  have g8 : decide (s.k < 1) = false := decide_eq_false (by omega)
  have g9 : decide (7 < s.k) = false := decide_eq_false (by omega)
  replace hf := Lib.hid hf
  replace ht := Lib.hid ht
  have B0 := Lib.hid ((Bel.refl w).alloc (.cells #[.int .i64 s.k, .int .i64 s.f.m, .int .i64 s.f.a, .int .i64 s.f.s, .int .i64 s.f.v, .int .i64 s.t.m, .int .i64 s.t.a, .int .i64 s.t.s, .int .i64 s.t.v] 25))
  have X0 := Non.new w (.int .i64 s.k) (.int .i64 s.f.m) (.int .i64 s.f.a) (.int .i64 s.f.s) (.int .i64 s.f.v) (.int .i64 s.t.m) (.int .i64 s.t.a) (.int .i64 s.t.s) (.int .i64 s.t.v) 25 (w.heap.size) (by simp)
  go_enter Tryd.func16, Tryd.ntmps16
  obtain ⟨xf0, xf1, xf2, xf3, xf4, xf5, xf6, xf7, xf8, xf9, xf10, xf11, xf12, xf13, xf14, xf15, xf16, xf17, xf18⟩ := id X0
  go_wp2_with fail
  clear xf0 xf1 xf2 xf3 xf4 xf5 xf6 xf7 xf8 xf9 xf10 xf11 xf12 xf13 xf14 xf15 xf16 xf17 xf18
  refine (rin_at s.f true _ hf.out).mono ?_
  rintro e w1 ⟨rfl, hb⟩
  have B1 := Lib.hid (B0.out.up hb)
  have X1 := X0.up hb
  clear hb B0  X0
  obtain ⟨xf0, xf1, xf2, xf3, xf4, xf5, xf6, xf7, xf8, xf9, xf10, xf11, xf12, xf13, xf14, xf15, xf16, xf17, xf18⟩ := id X1
  go_wp2_with fail
  clear xf0 xf1 xf2 xf3 xf4 xf5 xf6 xf7 xf8 xf9 xf10 xf11 xf12 xf13 xf14 xf15 xf16 xf17 xf18
  refine (rin_at s.t false _ ht.out).mono ?_
  rintro e w2 ⟨rfl, hb⟩
  have B2 := Lib.hid (B1.out.up hb)
  have X2 := X1.up hb
  clear hb B1  X1
  obtain ⟨xf0, xf1, xf2, xf3, xf4, xf5, xf6, xf7, xf8, xf9, xf10, xf11, xf12, xf13, xf14, xf15, xf16, xf17, xf18⟩ := id X2
  go_wp2_with fail
  go_ret
  exact ⟨rfl, B2.out.out⟩
set_option maxRecDepth 100000 in
set_option maxHeartbeats 2000000 in
theorem rproper_s (s : Sp) (w : World) (h8 : 1 ≤ s.k) (h9 : s.k ≤ 7) (hf : isP s.f = true) (ht : isP s.t = true) (h0 : s.f.s ≠ s.t.s) :
    Calls Tryd.prog 16 #[.agg #[.int .i64 s.k, .int .i64 s.f.m, .int .i64 s.f.a, .int .i64 s.f.s, .int .i64 s.f.v, .int .i64 s.t.m, .int .i64 s.t.a, .int .i64 s.t.s, .int .i64 s.t.v]] w fun e w' => e = .returned (.int .i64 23) ∧ Below w.heap.size w w' := by
  have g8 : decide (s.k < 1) = false := decide_eq_false (by omega)
  have g9 : decide (7 < s.k) = false := decide_eq_false (by omega)
  replace hf := Lib.hid hf
  replace ht := Lib.hid ht
  have n0 : (s.f.s != s.t.s) = true := by simpa using h0
  clear h0
  have B0 := Lib.hid ((Bel.refl w).alloc (.cells #[.int .i64 s.k, .int .i64 s.f.m, .int .i64 s.f.a, .int .i64 s.f.s, .int .i64 s.f.v, .int .i64 s.t.m, .int .i64 s.t.a, .int .i64 s.t.s, .int .i64 s.t.v] 25))
  have X0 := Non.new w (.int .i64 s.k) (.int .i64 s.f.m) (.int .i64 s.f.a) (.int .i64 s.f.s) (.int .i64 s.f.v) (.int .i64 s.t.m) (.int .i64 s.t.a) (.int .i64 s.t.s) (.int .i64 s.t.v) 25 (w.heap.size) (by simp)
  go_enter Tryd.func16, Tryd.ntmps16
  obtain ⟨xf0, xf1, xf2, xf3, xf4, xf5, xf6, xf7, xf8, xf9, xf10, xf11, xf12, xf13, xf14, xf15, xf16, xf17, xf18⟩ := id X0
  go_wp2_with fail
  clear xf0 xf1 xf2 xf3 xf4 xf5 xf6 xf7 xf8 xf9 xf10 xf11 xf12 xf13 xf14 xf15 xf16 xf17 xf18
  refine (rin_at s.f true _ hf.out).mono ?_
  rintro e w1 ⟨rfl, hb⟩
  have B1 := Lib.hid (B0.out.up hb)
  have X1 := X0.up hb
  clear hb B0  X0
  obtain ⟨xf0, xf1, xf2, xf3, xf4, xf5, xf6, xf7, xf8, xf9, xf10, xf11, xf12, xf13, xf14, xf15, xf16, xf17, xf18⟩ := id X1
  go_wp2_with fail
  clear xf0 xf1 xf2 xf3 xf4 xf5 xf6 xf7 xf8 xf9 xf10 xf11 xf12 xf13 xf14 xf15 xf16 xf17 xf18
  refine (rin_at s.t true _ ht.out).mono ?_
  rintro e w2 ⟨rfl, hb⟩
  have B2 := Lib.hid (B1.out.up hb)
  have X2 := X1.up hb
  clear hb B1  X1
  obtain ⟨xf0, xf1, xf2, xf3, xf4, xf5, xf6, xf7, xf8, xf9, xf10, xf11, xf12, xf13, xf14, xf15, xf16, xf17, xf18⟩ := id X2
  go_wp2_with fail
  go_ret
  exact ⟨rfl, B2.out.out⟩
set_option maxRecDepth 100000 in
set_option maxHeartbeats 2000000 in
theorem rproper_v1 (s : Sp) (w : World) (h8 : 1 ≤ s.k) (h9 : s.k ≤ 7) (hf : isP s.f = true) (ht : isP s.t = true) (h0 : s.f.s = s.t.s) (h3 : s.k = 1) (h1 : s.f.v ≠ s.t.v) :
    Calls Tryd.prog 16 #[.agg #[.int .i64 s.k, .int .i64 s.f.m, .int .i64 s.f.a, .int .i64 s.f.s, .int .i64 s.f.v, .int .i64 s.t.m, .int .i64 s.t.a, .int .i64 s.t.s, .int .i64 s.t.v]] w fun e w' => e = .returned (.int .i64 23) ∧ Below w.heap.size w w' := by
  have g8 : decide (s.k < 1) = false := decide_eq_false (by omega)
  have g9 : decide (7 < s.k) = false := decide_eq_false (by omega)
  replace hf := Lib.hid hf
  replace ht := Lib.hid ht
  have n0 : (s.f.s != s.t.s) = false := by simpa using h0
  clear h0
  have e3 : (s.k == 1) = true := by simpa using h3
  have hq : s.k ≤ 1 := by omega
  clear h3
  have n1 : (s.f.v != s.t.v) = true := by simpa using h1
  clear h1
  have B0 := Lib.hid ((Bel.refl w).alloc (.cells #[.int .i64 s.k, .int .i64 s.f.m, .int .i64 s.f.a, .int .i64 s.f.s, .int .i64 s.f.v, .int .i64 s.t.m, .int .i64 s.t.a, .int .i64 s.t.s, .int .i64 s.t.v] 25))
  have X0 := Non.new w (.int .i64 s.k) (.int .i64 s.f.m) (.int .i64 s.f.a) (.int .i64 s.f.s) (.int .i64 s.f.v) (.int .i64 s.t.m) (.int .i64 s.t.a) (.int .i64 s.t.s) (.int .i64 s.t.v) 25 (w.heap.size) (by simp)
  go_enter Tryd.func16, Tryd.ntmps16
  obtain ⟨xf0, xf1, xf2, xf3, xf4, xf5, xf6, xf7, xf8, xf9, xf10, xf11, xf12, xf13, xf14, xf15, xf16, xf17, xf18⟩ := id X0
  go_wp2_with fail
  clear xf0 xf1 xf2 xf3 xf4 xf5 xf6 xf7 xf8 xf9 xf10 xf11 xf12 xf13 xf14 xf15 xf16 xf17 xf18
  refine (rin_at s.f true _ hf.out).mono ?_
  rintro e w1 ⟨rfl, hb⟩
  have B1 := Lib.hid (B0.out.up hb)
  have X1 := X0.up hb
  clear hb B0  X0
  obtain ⟨xf0, xf1, xf2, xf3, xf4, xf5, xf6, xf7, xf8, xf9, xf10, xf11, xf12, xf13, xf14, xf15, xf16, xf17, xf18⟩ := id X1
  go_wp2_with fail
  clear xf0 xf1 xf2 xf3 xf4 xf5 xf6 xf7 xf8 xf9 xf10 xf11 xf12 xf13 xf14 xf15 xf16 xf17 xf18
  refine (rin_at s.t true _ ht.out).mono ?_
  rintro e w2 ⟨rfl, hb⟩
  have B2 := Lib.hid (B1.out.up hb)
  have X2 := X1.up hb
  clear hb B1  X1
  obtain ⟨xf0, xf1, xf2, xf3, xf4, xf5, xf6, xf7, xf8, xf9, xf10, xf11, xf12, xf13, xf14, xf15, xf16, xf17, xf18⟩ := id X2
  go_wp2_with fail
  go_ret
  exact ⟨rfl, B2.out.out⟩
set_option maxRecDepth 100000 in
set_option maxHeartbeats 2000000 in
theorem rproper_v7 (s : Sp) (w : World) (h8 : 1 ≤ s.k) (h9 : s.k ≤ 7) (hf : isP s.f = true) (ht : isP s.t = true) (h0 : s.f.s = s.t.s) (h3 : s.k = 7) (h1 : s.f.v ≠ s.t.v) :
    Calls Tryd.prog 16 #[.agg #[.int .i64 s.k, .int .i64 s.f.m, .int .i64 s.f.a, .int .i64 s.f.s, .int .i64 s.f.v, .int .i64 s.t.m, .int .i64 s.t.a, .int .i64 s.t.s, .int .i64 s.t.v]] w fun e w' => e = .returned (.int .i64 23) ∧ Below w.heap.size w w' := by
  have g8 : decide (s.k < 1) = false := decide_eq_false (by omega)
  have g9 : decide (7 < s.k) = false := decide_eq_false (by omega)
  replace hf := Lib.hid hf
  replace ht := Lib.hid ht
  have n0 : (s.f.s != s.t.s) = false := by simpa using h0
  clear h0
  have e3 : (s.k == 7) = true := by simpa using h3
  have e4 : (s.k == 1) = false := by simp [h3]
  clear h3
  have n1 : (s.f.v != s.t.v) = true := by simpa using h1
  clear h1
  have B0 := Lib.hid ((Bel.refl w).alloc (.cells #[.int .i64 s.k, .int .i64 s.f.m, .int .i64 s.f.a, .int .i64 s.f.s, .int .i64 s.f.v, .int .i64 s.t.m, .int .i64 s.t.a, .int .i64 s.t.s, .int .i64 s.t.v] 25))
  have X0 := Non.new w (.int .i64 s.k) (.int .i64 s.f.m) (.int .i64 s.f.a) (.int .i64 s.f.s) (.int .i64 s.f.v) (.int .i64 s.t.m) (.int .i64 s.t.a) (.int .i64 s.t.s) (.int .i64 s.t.v) 25 (w.heap.size) (by simp)
  go_enter Tryd.func16, Tryd.ntmps16
  obtain ⟨xf0, xf1, xf2, xf3, xf4, xf5, xf6, xf7, xf8, xf9, xf10, xf11, xf12, xf13, xf14, xf15, xf16, xf17, xf18⟩ := id X0
  go_wp2_with fail
  clear xf0 xf1 xf2 xf3 xf4 xf5 xf6 xf7 xf8 xf9 xf10 xf11 xf12 xf13 xf14 xf15 xf16 xf17 xf18
  refine (rin_at s.f true _ hf.out).mono ?_
  rintro e w1 ⟨rfl, hb⟩
  have B1 := Lib.hid (B0.out.up hb)
  have X1 := X0.up hb
  clear hb B0  X0
  obtain ⟨xf0, xf1, xf2, xf3, xf4, xf5, xf6, xf7, xf8, xf9, xf10, xf11, xf12, xf13, xf14, xf15, xf16, xf17, xf18⟩ := id X1
  go_wp2_with fail
  clear xf0 xf1 xf2 xf3 xf4 xf5 xf6 xf7 xf8 xf9 xf10 xf11 xf12 xf13 xf14 xf15 xf16 xf17 xf18
  refine (rin_at s.t true _ ht.out).mono ?_
  rintro e w2 ⟨rfl, hb⟩
  have B2 := Lib.hid (B1.out.up hb)
  have X2 := X1.up hb
  clear hb B1  X1
  obtain ⟨xf0, xf1, xf2, xf3, xf4, xf5, xf6, xf7, xf8, xf9, xf10, xf11, xf12, xf13, xf14, xf15, xf16, xf17, xf18⟩ := id X2
  go_wp2_with fail
  go_ret
  exact ⟨rfl, B2.out.out⟩
set_option maxRecDepth 100000 in
set_option maxHeartbeats 2000000 in
theorem rproper_a1o (s : Sp) (c : Int) (w : World) (h8 : 1 ≤ s.k) (h9 : s.k ≤ 7) (hf : isP s.f = true) (ht : isP s.t = true) (h0 : s.f.s = s.t.s) (h3 : s.k = 1) (h1 : s.f.v = s.t.v) (hc : cmpP s.f s.t = c) (h2 : 0 ≤ c) :
    Calls Tryd.prog 16 #[.agg #[.int .i64 s.k, .int .i64 s.f.m, .int .i64 s.f.a, .int .i64 s.f.s, .int .i64 s.f.v, .int .i64 s.t.m, .int .i64 s.t.a, .int .i64 s.t.s, .int .i64 s.t.v]] w fun e w' => e = .returned (.int .i64 25) ∧ Below w.heap.size w w' := by
  have g8 : decide (s.k < 1) = false := decide_eq_false (by omega)
  have g9 : decide (7 < s.k) = false := decide_eq_false (by omega)
  replace hf := Lib.hid hf
  replace ht := Lib.hid ht
  have n0 : (s.f.s != s.t.s) = false := by simpa using h0
  clear h0
  have e3 : (s.k == 1) = true := by simpa using h3
  have hq : s.k ≤ 1 := by omega
  clear h3
  have n1 : (s.f.v != s.t.v) = false := by simpa using h1
  clear h1
  replace hc := Lib.hid hc
  have g2 : decide (0 ≤ c) = true := decide_eq_true h2
  have B0 := Lib.hid ((Bel.refl w).alloc (.cells #[.int .i64 s.k, .int .i64 s.f.m, .int .i64 s.f.a, .int .i64 s.f.s, .int .i64 s.f.v, .int .i64 s.t.m, .int .i64 s.t.a, .int .i64 s.t.s, .int .i64 s.t.v] 25))
  have X0 := Non.new w (.int .i64 s.k) (.int .i64 s.f.m) (.int .i64 s.f.a) (.int .i64 s.f.s) (.int .i64 s.f.v) (.int .i64 s.t.m) (.int .i64 s.t.a) (.int .i64 s.t.s) (.int .i64 s.t.v) 25 (w.heap.size) (by simp)
  go_enter Tryd.func16, Tryd.ntmps16
  obtain ⟨xf0, xf1, xf2, xf3, xf4, xf5, xf6, xf7, xf8, xf9, xf10, xf11, xf12, xf13, xf14, xf15, xf16, xf17, xf18⟩ := id X0
  go_wp2_with fail
  clear xf0 xf1 xf2 xf3 xf4 xf5 xf6 xf7 xf8 xf9 xf10 xf11 xf12 xf13 xf14 xf15 xf16 xf17 xf18
  refine (rin_at s.f true _ hf.out).mono ?_
  rintro e w1 ⟨rfl, hb⟩
  have B1 := Lib.hid (B0.out.up hb)
  have X1 := X0.up hb
  clear hb B0  X0
  obtain ⟨xf0, xf1, xf2, xf3, xf4, xf5, xf6, xf7, xf8, xf9, xf10, xf11, xf12, xf13, xf14, xf15, xf16, xf17, xf18⟩ := id X1
  go_wp2_with fail
  clear xf0 xf1 xf2 xf3 xf4 xf5 xf6 xf7 xf8 xf9 xf10 xf11 xf12 xf13 xf14 xf15 xf16 xf17 xf18
  refine (rin_at s.t true _ ht.out).mono ?_
  rintro e w2 ⟨rfl, hb⟩
  have B2 := Lib.hid (B1.out.up hb)
  have X2 := X1.up hb
  clear hb B1  X1
  obtain ⟨xf0, xf1, xf2, xf3, xf4, xf5, xf6, xf7, xf8, xf9, xf10, xf11, xf12, xf13, xf14, xf15, xf16, xf17, xf18⟩ := id X2
  go_wp2_with fail
  clear xf0 xf1 xf2 xf3 xf4 xf5 xf6 xf7 xf8 xf9 xf10 xf11 xf12 xf13 xf14 xf15 xf16 xf17 xf18
  refine (rcompare_at s.f s.t c _ hc.out).mono ?_
  rintro e w3 ⟨rfl, hb⟩
  have B3 := Lib.hid (B2.out.up hb)
  have X3 := X2.up hb
  clear hb B2  X2
  obtain ⟨xf0, xf1, xf2, xf3, xf4, xf5, xf6, xf7, xf8, xf9, xf10, xf11, xf12, xf13, xf14, xf15, xf16, xf17, xf18⟩ := id X3
  go_wp2_with fail
  go_ret
  exact ⟨rfl, B3.out.out⟩
set_option maxRecDepth 100000 in
set_option maxHeartbeats 2000000 in
theorem rproper_a1y (s : Sp) (c : Int) (w : World) (h8 : 1 ≤ s.k) (h9 : s.k ≤ 7) (hf : isP s.f = true) (ht : isP s.t = true) (h0 : s.f.s = s.t.s) (h3 : s.k = 1) (h1 : s.f.v = s.t.v) (hc : cmpP s.f s.t = c) (h2 : ¬ 0 ≤ c) :
    Calls Tryd.prog 16 #[.agg #[.int .i64 s.k, .int .i64 s.f.m, .int .i64 s.f.a, .int .i64 s.f.s, .int .i64 s.f.v, .int .i64 s.t.m, .int .i64 s.t.a, .int .i64 s.t.s, .int .i64 s.t.v]] w fun e w' => e = .returned (.int .i64 0) ∧ Below w.heap.size w w' := by
  have g8 : decide (s.k < 1) = false := decide_eq_false (by omega)
  have g9 : decide (7 < s.k) = false := decide_eq_false (by omega)
  replace hf := Lib.hid hf
  replace ht := Lib.hid ht
  have n0 : (s.f.s != s.t.s) = false := by simpa using h0
  clear h0
  have e3 : (s.k == 1) = true := by simpa using h3
  have hq : s.k ≤ 1 := by omega
  clear h3
  have n1 : (s.f.v != s.t.v) = false := by simpa using h1
  clear h1
  replace hc := Lib.hid hc
  have g2 : decide (0 ≤ c) = false := decide_eq_false h2
  have B0 := Lib.hid ((Bel.refl w).alloc (.cells #[.int .i64 s.k, .int .i64 s.f.m, .int .i64 s.f.a, .int .i64 s.f.s, .int .i64 s.f.v, .int .i64 s.t.m, .int .i64 s.t.a, .int .i64 s.t.s, .int .i64 s.t.v] 25))
  have X0 := Non.new w (.int .i64 s.k) (.int .i64 s.f.m) (.int .i64 s.f.a) (.int .i64 s.f.s) (.int .i64 s.f.v) (.int .i64 s.t.m) (.int .i64 s.t.a) (.int .i64 s.t.s) (.int .i64 s.t.v) 25 (w.heap.size) (by simp)
  go_enter Tryd.func16, Tryd.ntmps16
  obtain ⟨xf0, xf1, xf2, xf3, xf4, xf5, xf6, xf7, xf8, xf9, xf10, xf11, xf12, xf13, xf14, xf15, xf16, xf17, xf18⟩ := id X0
  go_wp2_with fail
  clear xf0 xf1 xf2 xf3 xf4 xf5 xf6 xf7 xf8 xf9 xf10 xf11 xf12 xf13 xf14 xf15 xf16 xf17 xf18
  refine (rin_at s.f true _ hf.out).mono ?_
  rintro e w1 ⟨rfl, hb⟩
  have B1 := Lib.hid (B0.out.up hb)
  have X1 := X0.up hb
  clear hb B0  X0
  obtain ⟨xf0, xf1, xf2, xf3, xf4, xf5, xf6, xf7, xf8, xf9, xf10, xf11, xf12, xf13, xf14, xf15, xf16, xf17, xf18⟩ := id X1
  go_wp2_with fail
  clear xf0 xf1 xf2 xf3 xf4 xf5 xf6 xf7 xf8 xf9 xf10 xf11 xf12 xf13 xf14 xf15 xf16 xf17 xf18
  refine (rin_at s.t true _ ht.out).mono ?_
  rintro e w2 ⟨rfl, hb⟩
  have B2 := Lib.hid (B1.out.up hb)
  have X2 := X1.up hb
  clear hb B1  X1
  obtain ⟨xf0, xf1, xf2, xf3, xf4, xf5, xf6, xf7, xf8, xf9, xf10, xf11, xf12, xf13, xf14, xf15, xf16, xf17, xf18⟩ := id X2
  go_wp2_with fail
  clear xf0 xf1 xf2 xf3 xf4 xf5 xf6 xf7 xf8 xf9 xf10 xf11 xf12 xf13 xf14 xf15 xf16 xf17 xf18
  refine (rcompare_at s.f s.t c _ hc.out).mono ?_
  rintro e w3 ⟨rfl, hb⟩
  have B3 := Lib.hid (B2.out.up hb)
  have X3 := X2.up hb
  clear hb B2  X2
  obtain ⟨xf0, xf1, xf2, xf3, xf4, xf5, xf6, xf7, xf8, xf9, xf10, xf11, xf12, xf13, xf14, xf15, xf16, xf17, xf18⟩ := id X3
  go_wp2_with fail
  go_ret
  exact ⟨rfl, B3.out.out⟩
set_option maxRecDepth 100000 in
set_option maxHeartbeats 2000000 in
theorem rproper_a7o (s : Sp) (c : Int) (w : World) (h8 : 1 ≤ s.k) (h9 : s.k ≤ 7) (hf : isP s.f = true) (ht : isP s.t = true) (h0 : s.f.s = s.t.s) (h3 : s.k = 7) (h1 : s.f.v = s.t.v) (hc : cmpP s.f s.t = c) (h2 : 0 ≤ c) :
    Calls Tryd.prog 16 #[.agg #[.int .i64 s.k, .int .i64 s.f.m, .int .i64 s.f.a, .int .i64 s.f.s, .int .i64 s.f.v, .int .i64 s.t.m, .int .i64 s.t.a, .int .i64 s.t.s, .int .i64 s.t.v]] w fun e w' => e = .returned (.int .i64 25) ∧ Below w.heap.size w w' := by
  have g8 : decide (s.k < 1) = false := decide_eq_false (by omega)
  have g9 : decide (7 < s.k) = false := decide_eq_false (by omega)
  replace hf := Lib.hid hf
  replace ht := Lib.hid ht
  have n0 : (s.f.s != s.t.s) = false := by simpa using h0
  clear h0
  have e3 : (s.k == 7) = true := by simpa using h3
  have e4 : (s.k == 1) = false := by simp [h3]
  clear h3
  have n1 : (s.f.v != s.t.v) = false := by simpa using h1
  clear h1
  replace hc := Lib.hid hc
  have g2 : decide (0 ≤ c) = true := decide_eq_true h2
  have B0 := Lib.hid ((Bel.refl w).alloc (.cells #[.int .i64 s.k, .int .i64 s.f.m, .int .i64 s.f.a, .int .i64 s.f.s, .int .i64 s.f.v, .int .i64 s.t.m, .int .i64 s.t.a, .int .i64 s.t.s, .int .i64 s.t.v] 25))
  have X0 := Non.new w (.int .i64 s.k) (.int .i64 s.f.m) (.int .i64 s.f.a) (.int .i64 s.f.s) (.int .i64 s.f.v) (.int .i64 s.t.m) (.int .i64 s.t.a) (.int .i64 s.t.s) (.int .i64 s.t.v) 25 (w.heap.size) (by simp)
  go_enter Tryd.func16, Tryd.ntmps16
  obtain ⟨xf0, xf1, xf2, xf3, xf4, xf5, xf6, xf7, xf8, xf9, xf10, xf11, xf12, xf13, xf14, xf15, xf16, xf17, xf18⟩ := id X0
  go_wp2_with fail
  clear xf0 xf1 xf2 xf3 xf4 xf5 xf6 xf7 xf8 xf9 xf10 xf11 xf12 xf13 xf14 xf15 xf16 xf17 xf18
  refine (rin_at s.f true _ hf.out).mono ?_
  rintro e w1 ⟨rfl, hb⟩
  have B1 := Lib.hid (B0.out.up hb)
  have X1 := X0.up hb
  clear hb B0  X0
  obtain ⟨xf0, xf1, xf2, xf3, xf4, xf5, xf6, xf7, xf8, xf9, xf10, xf11, xf12, xf13, xf14, xf15, xf16, xf17, xf18⟩ := id X1
  go_wp2_with fail
  clear xf0 xf1 xf2 xf3 xf4 xf5 xf6 xf7 xf8 xf9 xf10 xf11 xf12 xf13 xf14 xf15 xf16 xf17 xf18
  refine (rin_at s.t true _ ht.out).mono ?_
  rintro e w2 ⟨rfl, hb⟩
  have B2 := Lib.hid (B1.out.up hb)
  have X2 := X1.up hb
  clear hb B1  X1
  obtain ⟨xf0, xf1, xf2, xf3, xf4, xf5, xf6, xf7, xf8, xf9, xf10, xf11, xf12, xf13, xf14, xf15, xf16, xf17, xf18⟩ := id X2
  go_wp2_with fail
  clear xf0 xf1 xf2 xf3 xf4 xf5 xf6 xf7 xf8 xf9 xf10 xf11 xf12 xf13 xf14 xf15 xf16 xf17 xf18
  refine (rcompare_at s.f s.t c _ hc.out).mono ?_
  rintro e w3 ⟨rfl, hb⟩
  have B3 := Lib.hid (B2.out.up hb)
  have X3 := X2.up hb
  clear hb B2  X2
  obtain ⟨xf0, xf1, xf2, xf3, xf4, xf5, xf6, xf7, xf8, xf9, xf10, xf11, xf12, xf13, xf14, xf15, xf16, xf17, xf18⟩ := id X3
  go_wp2_with fail
  go_ret
  exact ⟨rfl, B3.out.out⟩
set_option maxRecDepth 100000 in
set_option maxHeartbeats 2000000 in
theorem rproper_a7y (s : Sp) (c : Int) (w : World) (h8 : 1 ≤ s.k) (h9 : s.k ≤ 7) (hf : isP s.f = true) (ht : isP s.t = true) (h0 : s.f.s = s.t.s) (h3 : s.k = 7) (h1 : s.f.v = s.t.v) (hc : cmpP s.f s.t = c) (h2 : ¬ 0 ≤ c) :
    Calls Tryd.prog 16 #[.agg #[.int .i64 s.k, .int .i64 s.f.m, .int .i64 s.f.a, .int .i64 s.f.s, .int .i64 s.f.v, .int .i64 s.t.m, .int .i64 s.t.a, .int .i64 s.t.s, .int .i64 s.t.v]] w fun e w' => e = .returned (.int .i64 0) ∧ Below w.heap.size w w' := by
  have g8 : decide (s.k < 1) = false := decide_eq_false (by omega)
  have g9 : decide (7 < s.k) = false := decide_eq_false (by omega)
  replace hf := Lib.hid hf
  replace ht := Lib.hid ht
  have n0 : (s.f.s != s.t.s) = false := by simpa using h0
  clear h0
  have e3 : (s.k == 7) = true := by simpa using h3
  have e4 : (s.k == 1) = false := by simp [h3]
  clear h3
  have n1 : (s.f.v != s.t.v) = false := by simpa using h1
  clear h1
  replace hc := Lib.hid hc
  have g2 : decide (0 ≤ c) = false := decide_eq_false h2
  have B0 := Lib.hid ((Bel.refl w).alloc (.cells #[.int .i64 s.k, .int .i64 s.f.m, .int .i64 s.f.a, .int .i64 s.f.s, .int .i64 s.f.v, .int .i64 s.t.m, .int .i64 s.t.a, .int .i64 s.t.s, .int .i64 s.t.v] 25))
  have X0 := Non.new w (.int .i64 s.k) (.int .i64 s.f.m) (.int .i64 s.f.a) (.int .i64 s.f.s) (.int .i64 s.f.v) (.int .i64 s.t.m) (.int .i64 s.t.a) (.int .i64 s.t.s) (.int .i64 s.t.v) 25 (w.heap.size) (by simp)
  go_enter Tryd.func16, Tryd.ntmps16
  obtain ⟨xf0, xf1, xf2, xf3, xf4, xf5, xf6, xf7, xf8, xf9, xf10, xf11, xf12, xf13, xf14, xf15, xf16, xf17, xf18⟩ := id X0
  go_wp2_with fail
  clear xf0 xf1 xf2 xf3 xf4 xf5 xf6 xf7 xf8 xf9 xf10 xf11 xf12 xf13 xf14 xf15 xf16 xf17 xf18
  refine (rin_at s.f true _ hf.out).mono ?_
  rintro e w1 ⟨rfl, hb⟩
  have B1 := Lib.hid (B0.out.up hb)
  have X1 := X0.up hb
  clear hb B0  X0
  obtain ⟨xf0, xf1, xf2, xf3, xf4, xf5, xf6, xf7, xf8, xf9, xf10, xf11, xf12, xf13, xf14, xf15, xf16, xf17, xf18⟩ := id X1
  go_wp2_with fail
  clear xf0 xf1 xf2 xf3 xf4 xf5 xf6 xf7 xf8 xf9 xf10 xf11 xf12 xf13 xf14 xf15 xf16 xf17 xf18
  refine (rin_at s.t true _ ht.out).mono ?_
  rintro e w2 ⟨rfl, hb⟩
  have B2 := Lib.hid (B1.out.up hb)
  have X2 := X1.up hb
  clear hb B1  X1
  obtain ⟨xf0, xf1, xf2, xf3, xf4, xf5, xf6, xf7, xf8, xf9, xf10, xf11, xf12, xf13, xf14, xf15, xf16, xf17, xf18⟩ := id X2
  go_wp2_with fail
  clear xf0 xf1 xf2 xf3 xf4 xf5 xf6 xf7 xf8 xf9 xf10 xf11 xf12 xf13 xf14 xf15 xf16 xf17 xf18
  refine (rcompare_at s.f s.t c _ hc.out).mono ?_
  rintro e w3 ⟨rfl, hb⟩
  have B3 := Lib.hid (B2.out.up hb)
  have X3 := X2.up hb
  clear hb B2  X2
  obtain ⟨xf0, xf1, xf2, xf3, xf4, xf5, xf6, xf7, xf8, xf9, xf10, xf11, xf12, xf13, xf14, xf15, xf16, xf17, xf18⟩ := id X3
  go_wp2_with fail
  go_ret
  exact ⟨rfl, B3.out.out⟩
set_option maxRecDepth 100000 in
set_option maxHeartbeats 2000000 in
theorem rproper_bo (s : Sp) (c : Int) (w : World) (h8 : 1 ≤ s.k) (h9 : s.k ≤ 7) (hf : isP s.f = true) (ht : isP s.t = true) (h0 : s.f.s = s.t.s) (h3 : s.k ≠ 1) (h4 : s.k ≠ 7) (hc : cmpP s.f s.t = c) (h2 : 0 ≤ c) :
    Calls Tryd.prog 16 #[.agg #[.int .i64 s.k, .int .i64 s.f.m, .int .i64 s.f.a, .int .i64 s.f.s, .int .i64 s.f.v, .int .i64 s.t.m, .int .i64 s.t.a, .int .i64 s.t.s, .int .i64 s.t.v]] w fun e w' => e = .returned (.int .i64 25) ∧ Below w.heap.size w w' := by
  have g8 : decide (s.k < 1) = false := decide_eq_false (by omega)
  have g9 : decide (7 < s.k) = false := decide_eq_false (by omega)
  replace hf := Lib.hid hf
  replace ht := Lib.hid ht
  have n0 : (s.f.s != s.t.s) = false := by simpa using h0
  clear h0
  have e3 : (s.k == 1) = false := by simpa using h3
  have e4 : (s.k == 7) = false := by simpa using h4
  clear h3 h4
  replace hc := Lib.hid hc
  have g2 : decide (0 ≤ c) = true := decide_eq_true h2
  have B0 := Lib.hid ((Bel.refl w).alloc (.cells #[.int .i64 s.k, .int .i64 s.f.m, .int .i64 s.f.a, .int .i64 s.f.s, .int .i64 s.f.v, .int .i64 s.t.m, .int .i64 s.t.a, .int .i64 s.t.s, .int .i64 s.t.v] 25))
  have X0 := Non.new w (.int .i64 s.k) (.int .i64 s.f.m) (.int .i64 s.f.a) (.int .i64 s.f.s) (.int .i64 s.f.v) (.int .i64 s.t.m) (.int .i64 s.t.a) (.int .i64 s.t.s) (.int .i64 s.t.v) 25 (w.heap.size) (by simp)
  go_enter Tryd.func16, Tryd.ntmps16
  obtain ⟨xf0, xf1, xf2, xf3, xf4, xf5, xf6, xf7, xf8, xf9, xf10, xf11, xf12, xf13, xf14, xf15, xf16, xf17, xf18⟩ := id X0
  go_wp2_with fail
  clear xf0 xf1 xf2 xf3 xf4 xf5 xf6 xf7 xf8 xf9 xf10 xf11 xf12 xf13 xf14 xf15 xf16 xf17 xf18
  refine (rin_at s.f true _ hf.out).mono ?_
  rintro e w1 ⟨rfl, hb⟩
  have B1 := Lib.hid (B0.out.up hb)
  have X1 := X0.up hb
  clear hb B0  X0
  obtain ⟨xf0, xf1, xf2, xf3, xf4, xf5, xf6, xf7, xf8, xf9, xf10, xf11, xf12, xf13, xf14, xf15, xf16, xf17, xf18⟩ := id X1
  go_wp2_with fail
  clear xf0 xf1 xf2 xf3 xf4 xf5 xf6 xf7 xf8 xf9 xf10 xf11 xf12 xf13 xf14 xf15 xf16 xf17 xf18
  refine (rin_at s.t true _ ht.out).mono ?_
  rintro e w2 ⟨rfl, hb⟩
  have B2 := Lib.hid (B1.out.up hb)
  have X2 := X1.up hb
  clear hb B1  X1
  obtain ⟨xf0, xf1, xf2, xf3, xf4, xf5, xf6, xf7, xf8, xf9, xf10, xf11, xf12, xf13, xf14, xf15, xf16, xf17, xf18⟩ := id X2
  go_wp2_with fail
  clear xf0 xf1 xf2 xf3 xf4 xf5 xf6 xf7 xf8 xf9 xf10 xf11 xf12 xf13 xf14 xf15 xf16 xf17 xf18
  refine (rcompare_at s.f s.t c _ hc.out).mono ?_
  rintro e w3 ⟨rfl, hb⟩
  have B3 := Lib.hid (B2.out.up hb)
  have X3 := X2.up hb
  clear hb B2  X2
  obtain ⟨xf0, xf1, xf2, xf3, xf4, xf5, xf6, xf7, xf8, xf9, xf10, xf11, xf12, xf13, xf14, xf15, xf16, xf17, xf18⟩ := id X3
  go_wp2_with fail
  go_ret
  exact ⟨rfl, B3.out.out⟩
set_option maxRecDepth 100000 in
set_option maxHeartbeats 2000000 in
theorem rproper_by (s : Sp) (c : Int) (w : World) (h8 : 1 ≤ s.k) (h9 : s.k ≤ 7) (hf : isP s.f = true) (ht : isP s.t = true) (h0 : s.f.s = s.t.s) (h3 : s.k ≠ 1) (h4 : s.k ≠ 7) (hc : cmpP s.f s.t = c) (h2 : ¬ 0 ≤ c) :
    Calls Tryd.prog 16 #[.agg #[.int .i64 s.k, .int .i64 s.f.m, .int .i64 s.f.a, .int .i64 s.f.s, .int .i64 s.f.v, .int .i64 s.t.m, .int .i64 s.t.a, .int .i64 s.t.s, .int .i64 s.t.v]] w fun e w' => e = .returned (.int .i64 0) ∧ Below w.heap.size w w' := by
  have g8 : decide (s.k < 1) = false := decide_eq_false (by omega)
  have g9 : decide (7 < s.k) = false := decide_eq_false (by omega)
  replace hf := Lib.hid hf
  replace ht := Lib.hid ht
  have n0 : (s.f.s != s.t.s) = false := by simpa using h0
  clear h0
  have e3 : (s.k == 1) = false := by simpa using h3
  have e4 : (s.k == 7) = false := by simpa using h4
  clear h3 h4
  replace hc := Lib.hid hc
  have g2 : decide (0 ≤ c) = false := decide_eq_false h2
  have B0 := Lib.hid ((Bel.refl w).alloc (.cells #[.int .i64 s.k, .int .i64 s.f.m, .int .i64 s.f.a, .int .i64 s.f.s, .int .i64 s.f.v, .int .i64 s.t.m, .int .i64 s.t.a, .int .i64 s.t.s, .int .i64 s.t.v] 25))
  have X0 := Non.new w (.int .i64 s.k) (.int .i64 s.f.m) (.int .i64 s.f.a) (.int .i64 s.f.s) (.int .i64 s.f.v) (.int .i64 s.t.m) (.int .i64 s.t.a) (.int .i64 s.t.s) (.int .i64 s.t.v) 25 (w.heap.size) (by simp)
  go_enter Tryd.func16, Tryd.ntmps16
  obtain ⟨xf0, xf1, xf2, xf3, xf4, xf5, xf6, xf7, xf8, xf9, xf10, xf11, xf12, xf13, xf14, xf15, xf16, xf17, xf18⟩ := id X0
  go_wp2_with fail
  clear xf0 xf1 xf2 xf3 xf4 xf5 xf6 xf7 xf8 xf9 xf10 xf11 xf12 xf13 xf14 xf15 xf16 xf17 xf18
  refine (rin_at s.f true _ hf.out).mono ?_
  rintro e w1 ⟨rfl, hb⟩
  have B1 := Lib.hid (B0.out.up hb)
  have X1 := X0.up hb
  clear hb B0  X0
  obtain ⟨xf0, xf1, xf2, xf3, xf4, xf5, xf6, xf7, xf8, xf9, xf10, xf11, xf12, xf13, xf14, xf15, xf16, xf17, xf18⟩ := id X1
  go_wp2_with fail
  clear xf0 xf1 xf2 xf3 xf4 xf5 xf6 xf7 xf8 xf9 xf10 xf11 xf12 xf13 xf14 xf15 xf16 xf17 xf18
  refine (rin_at s.t true _ ht.out).mono ?_
  rintro e w2 ⟨rfl, hb⟩
  have B2 := Lib.hid (B1.out.up hb)
  have X2 := X1.up hb
  clear hb B1  X1
  obtain ⟨xf0, xf1, xf2, xf3, xf4, xf5, xf6, xf7, xf8, xf9, xf10, xf11, xf12, xf13, xf14, xf15, xf16, xf17, xf18⟩ := id X2
  go_wp2_with fail
  clear xf0 xf1 xf2 xf3 xf4 xf5 xf6 xf7 xf8 xf9 xf10 xf11 xf12 xf13 xf14 xf15 xf16 xf17 xf18
  refine (rcompare_at s.f s.t c _ hc.out).mono ?_
  rintro e w3 ⟨rfl, hb⟩
  have B3 := Lib.hid (B2.out.up hb)
  have X3 := X2.up hb
  clear hb B2  X2
  obtain ⟨xf0, xf1, xf2, xf3, xf4, xf5, xf6, xf7, xf8, xf9, xf10, xf11, xf12, xf13, xf14, xf15, xf16, xf17, xf18⟩ := id X3
  go_wp2_with fail
  go_ret
  exact ⟨rfl, B3.out.out⟩
theorem rproper_at (s : Sp) (r : Int) (w : World) (h : proper s = r) : Calls Tryd.prog 16 #[.agg #[.int .i64 s.k, .int .i64 s.f.m, .int .i64 s.f.a, .int .i64 s.f.s, .int .i64 s.f.v, .int .i64 s.t.m, .int .i64 s.t.a, .int .i64 s.t.s, .int .i64 s.t.v]] w fun e w' => e = .returned (.int .i64 r) ∧ Below w.heap.size w w' := by
  subst h
  obtain ⟨c, hc⟩ : ∃ c, cmpP s.f s.t = c := ⟨_, rfl⟩
  by_cases h8 : 1 ≤ s.k
  case neg => rw [show proper s = 11 from by simp [proper, isK, h8]]; exact rproper_k0 s w h8
  case pos =>
    by_cases h9 : s.k ≤ 7
    case neg => rw [show proper s = 11 from by simp [proper, isK, h9]]; exact rproper_k1 s w h8 h9
    case pos =>
      have hk : isK s.k = true := by simp [isK, h8, h9]
      cases hf : isP s.f
      · rw [show proper s = 2 from by simp [proper, hk, hf]]; exact rproper_f s w h8 h9 hf
      · cases ht : isP s.t
        · rw [show proper s = 2 from by simp [proper, hk, hf, ht]]; exact rproper_t s w h8 h9 hf ht
        · by_cases h0 : s.f.s = s.t.s
          · by_cases h3 : s.k = 1
            · have hv : ofV s.k = true := by simp [ofV, h3]
              by_cases h1 : s.f.v = s.t.v
              · by_cases h2 : 0 ≤ c
                · rw [show proper s = 25 from by simp [proper, hk, hf, ht, h0, hv, h1, hc, h2]]; exact rproper_a1o s c w h8 h9 hf ht h0 h3 h1 hc h2
                · rw [show proper s = 0 from by simp [proper, hk, hf, ht, h0, hv, h1, hc, h2]]; exact rproper_a1y s c w h8 h9 hf ht h0 h3 h1 hc h2
              · rw [show proper s = 23 from by simp [proper, hk, hf, ht, h0, hv, h1]]; exact rproper_v1 s w h8 h9 hf ht h0 h3 h1
            · by_cases h4 : s.k = 7
              · have hv : ofV s.k = true := by simp [ofV, h4]
                by_cases h1 : s.f.v = s.t.v
                · by_cases h2 : 0 ≤ c
                  · rw [show proper s = 25 from by simp [proper, hk, hf, ht, h0, hv, h1, hc, h2]]; exact rproper_a7o s c w h8 h9 hf ht h0 h4 h1 hc h2
                  · rw [show proper s = 0 from by simp [proper, hk, hf, ht, h0, hv, h1, hc, h2]]; exact rproper_a7y s c w h8 h9 hf ht h0 h4 h1 hc h2
                · rw [show proper s = 23 from by simp [proper, hk, hf, ht, h0, hv, h1]]; exact rproper_v7 s w h8 h9 hf ht h0 h4 h1
              · have hv : ofV s.k = false := by simp [ofV, h3, h4]
                by_cases h2 : 0 ≤ c
                · rw [show proper s = 25 from by simp [proper, hk, hf, ht, h0, hv, hc, h2]]; exact rproper_bo s c w h8 h9 hf ht h0 h3 h4 hc h2
                · rw [show proper s = 0 from by simp [proper, hk, hf, ht, h0, hv, hc, h2]]; exact rproper_by s c w h8 h9 hf ht h0 h3 h4 hc h2
          · rw [show proper s = 23 from by simp [proper, hk, hf, ht, h0]]; exact rproper_s s w h8 h9 hf ht h0
end Go.Proofs.YtabafabebodojaaDoor
