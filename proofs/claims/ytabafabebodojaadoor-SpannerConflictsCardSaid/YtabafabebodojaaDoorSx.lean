/- Spans: Conflict. -/
import Derived.Test.YtabafabebodojaaDoorSe
namespace Go.Proofs.YtabafabebodojaaDoor
open Go.RowKit
set_option linter.unusedVariables false
set_option linter.unusedSimpArgs false

theorem rules_at2 (w : World) : Calls Tryd.prog 47 #[] w fun e w' => e = .returned (.agg #[.nilFunc, .func (.func 60) #[] #[], .func (.func 61) #[] #[], .func (.func 61) #[] #[], .func (.func 62) #[] #[], .func (.func 62) #[] #[], .func (.func 61) #[] #[], .func (.func 62) #[] #[]]) ∧ Below w.heap.size w w' := rules_ok w
set_option maxRecDepth 100000 in
set_option maxHeartbeats 2000000 in
theorem conf_k (a b : Sp) (w : World) (h0 : isK a.k = false) :
    Calls Tryd.prog 21 #[.agg #[.int .i64 a.k, .int .i64 a.f.m, .int .i64 a.f.a, .int .i64 a.f.s, .int .i64 a.f.v, .int .i64 a.t.m, .int .i64 a.t.a, .int .i64 a.t.s, .int .i64 a.t.v], .agg #[.int .i64 b.k, .int .i64 b.f.m, .int .i64 b.f.a, .int .i64 b.f.s, .int .i64 b.f.v, .int .i64 b.t.m, .int .i64 b.t.a, .int .i64 b.t.s, .int .i64 b.t.v]] w fun e w' => e = .returned (.bool false) ∧ Below w.heap.size w w' := by
  replace h0 := Lib.hid h0
  have B0 := Lib.hid (((Bel.refl w).alloc (.cells #[.int .i64 a.k, .int .i64 a.f.m, .int .i64 a.f.a, .int .i64 a.f.s, .int .i64 a.f.v, .int .i64 a.t.m, .int .i64 a.t.a, .int .i64 a.t.s, .int .i64 a.t.v] 31)).alloc (.cells #[.int .i64 b.k, .int .i64 b.f.m, .int .i64 b.f.a, .int .i64 b.f.s, .int .i64 b.f.v, .int .i64 b.t.m, .int .i64 b.t.a, .int .i64 b.t.s, .int .i64 b.t.v] 31))
  have X0 := (Non.new w (.int .i64 a.k) (.int .i64 a.f.m) (.int .i64 a.f.a) (.int .i64 a.f.s) (.int .i64 a.f.v) (.int .i64 a.t.m) (.int .i64 a.t.a) (.int .i64 a.t.s) (.int .i64 a.t.v) 31 (w.heap.size) (by simp)).alloc (.cells #[.int .i64 b.k, .int .i64 b.f.m, .int .i64 b.f.a, .int .i64 b.f.s, .int .i64 b.f.v, .int .i64 b.t.m, .int .i64 b.t.a, .int .i64 b.t.s, .int .i64 b.t.v] 31)
  have Y0 := Non.new (w.alloc (.cells #[.int .i64 a.k, .int .i64 a.f.m, .int .i64 a.f.a, .int .i64 a.f.s, .int .i64 a.f.v, .int .i64 a.t.m, .int .i64 a.t.a, .int .i64 a.t.s, .int .i64 a.t.v] 31)) (.int .i64 b.k) (.int .i64 b.f.m) (.int .i64 b.f.a) (.int .i64 b.f.s) (.int .i64 b.f.v) (.int .i64 b.t.m) (.int .i64 b.t.a) (.int .i64 b.t.s) (.int .i64 b.t.v) 31 (w.heap.size + 1) (by simp)
  go_enter Tryd.func21, Tryd.ntmps21
  obtain ⟨xf0, xf1, xf2, xf3, xf4, xf5, xf6, xf7, xf8, xf9, xf10, xf11, xf12, xf13, xf14, xf15, xf16, xf17, xf18⟩ := id X0
  obtain ⟨yf0, yf1, yf2, yf3, yf4, yf5, yf6, yf7, yf8, yf9, yf10, yf11, yf12, yf13, yf14, yf15, yf16, yf17, yf18⟩ := id Y0
  go_wp2_with fail
  clear xf0 xf1 xf2 xf3 xf4 xf5 xf6 xf7 xf8 xf9 xf10 xf11 xf12 xf13 xf14 xf15 xf16 xf17 xf18 yf0 yf1 yf2 yf3 yf4 yf5 yf6 yf7 yf8 yf9 yf10 yf11 yf12 yf13 yf14 yf15 yf16 yf17 yf18
  refine Qt.regionAll (by kernel_rfl) (by kernel_rfl) ?_
  intro T f_ F hne
  have RB := Lib.hid (fun g => B0.out.up (F.below g))
  have RX := fun g => X0.up (F.below g)
  have RX0 := fun g => (RX g).c0
  have RX1 := fun g => (RX g).c1
  have RX2 := fun g => (RX g).c2
  have RX3 := fun g => (RX g).c3
  have RX4 := fun g => (RX g).c4
  have RX5 := fun g => (RX g).c5
  have RX6 := fun g => (RX g).c6
  have RX7 := fun g => (RX g).c7
  have RX8 := fun g => (RX g).c8
  have RY := fun g => Y0.up (F.below g)
  have RY0 := fun g => (RY g).c0
  have RY1 := fun g => (RY g).c1
  have RY2 := fun g => (RY g).c2
  have RY3 := fun g => (RY g).c3
  have RY4 := fun g => (RY g).c4
  have RY5 := fun g => (RY g).c5
  have RY6 := fun g => (RY g).c6
  have RY7 := fun g => (RY g).c7
  have RY8 := fun g => (RY g).c8
  repeat (go_big_quiet_step (first | (go_at_call 38; with_reducible exact F.call (isKind_at a.k false _ h0.out))))
  refine wpQuiet_nil ?_
  rintro _ ⟨gT, rfl⟩
  have B1 := Lib.hid (RB.out gT)
  have X1 := RX gT
  have Y1 := RY gT
  clear F RB hne RX RX0 RX1 RX2 RX3 RX4 RX5 RX6 RX7 RX8 RY RY0 RY1 RY2 RY3 RY4 RY5 RY6 RY7 RY8 B0 X0 Y0
  generalize f_ gT = w1 at *
  clear f_
  obtain ⟨xf0, xf1, xf2, xf3, xf4, xf5, xf6, xf7, xf8, xf9, xf10, xf11, xf12, xf13, xf14, xf15, xf16, xf17, xf18⟩ := id X1
  obtain ⟨yf0, yf1, yf2, yf3, yf4, yf5, yf6, yf7, yf8, yf9, yf10, yf11, yf12, yf13, yf14, yf15, yf16, yf17, yf18⟩ := id Y1
  go_wp2_with fail
  go_ret
  exact ⟨rfl, B1.out.out⟩
set_option maxRecDepth 100000 in
set_option maxHeartbeats 2000000 in
theorem conf_1 (a b : Sp) (g h : Gr) (w : World) (h0 : isK a.k = true) (hg : grp a = g) (hh : grp b = h) (h1 : g.k ≠ h.k) :
    Calls Tryd.prog 21 #[.agg #[.int .i64 a.k, .int .i64 a.f.m, .int .i64 a.f.a, .int .i64 a.f.s, .int .i64 a.f.v, .int .i64 a.t.m, .int .i64 a.t.a, .int .i64 a.t.s, .int .i64 a.t.v], .agg #[.int .i64 b.k, .int .i64 b.f.m, .int .i64 b.f.a, .int .i64 b.f.s, .int .i64 b.f.v, .int .i64 b.t.m, .int .i64 b.t.a, .int .i64 b.t.s, .int .i64 b.t.v]] w fun e w' => e = .returned (.bool false) ∧ Below w.heap.size w w' := by
  replace h0 := Lib.hid h0
  replace hg := Lib.hid hg
  replace hh := Lib.hid hh
  have e1 : (g.k == h.k) = false := by simpa using h1
  clear h1
  have B0 := Lib.hid (((Bel.refl w).alloc (.cells #[.int .i64 a.k, .int .i64 a.f.m, .int .i64 a.f.a, .int .i64 a.f.s, .int .i64 a.f.v, .int .i64 a.t.m, .int .i64 a.t.a, .int .i64 a.t.s, .int .i64 a.t.v] 31)).alloc (.cells #[.int .i64 b.k, .int .i64 b.f.m, .int .i64 b.f.a, .int .i64 b.f.s, .int .i64 b.f.v, .int .i64 b.t.m, .int .i64 b.t.a, .int .i64 b.t.s, .int .i64 b.t.v] 31))
  have X0 := (Non.new w (.int .i64 a.k) (.int .i64 a.f.m) (.int .i64 a.f.a) (.int .i64 a.f.s) (.int .i64 a.f.v) (.int .i64 a.t.m) (.int .i64 a.t.a) (.int .i64 a.t.s) (.int .i64 a.t.v) 31 (w.heap.size) (by simp)).alloc (.cells #[.int .i64 b.k, .int .i64 b.f.m, .int .i64 b.f.a, .int .i64 b.f.s, .int .i64 b.f.v, .int .i64 b.t.m, .int .i64 b.t.a, .int .i64 b.t.s, .int .i64 b.t.v] 31)
  have Y0 := Non.new (w.alloc (.cells #[.int .i64 a.k, .int .i64 a.f.m, .int .i64 a.f.a, .int .i64 a.f.s, .int .i64 a.f.v, .int .i64 a.t.m, .int .i64 a.t.a, .int .i64 a.t.s, .int .i64 a.t.v] 31)) (.int .i64 b.k) (.int .i64 b.f.m) (.int .i64 b.f.a) (.int .i64 b.f.s) (.int .i64 b.f.v) (.int .i64 b.t.m) (.int .i64 b.t.a) (.int .i64 b.t.s) (.int .i64 b.t.v) 31 (w.heap.size + 1) (by simp)
  go_enter Tryd.func21, Tryd.ntmps21
  obtain ⟨xf0, xf1, xf2, xf3, xf4, xf5, xf6, xf7, xf8, xf9, xf10, xf11, xf12, xf13, xf14, xf15, xf16, xf17, xf18⟩ := id X0
  obtain ⟨yf0, yf1, yf2, yf3, yf4, yf5, yf6, yf7, yf8, yf9, yf10, yf11, yf12, yf13, yf14, yf15, yf16, yf17, yf18⟩ := id Y0
  go_wp2_with fail
  clear xf0 xf1 xf2 xf3 xf4 xf5 xf6 xf7 xf8 xf9 xf10 xf11 xf12 xf13 xf14 xf15 xf16 xf17 xf18 yf0 yf1 yf2 yf3 yf4 yf5 yf6 yf7 yf8 yf9 yf10 yf11 yf12 yf13 yf14 yf15 yf16 yf17 yf18
  refine Qt.regionAll (by kernel_rfl) (by kernel_rfl) ?_
  intro T f_ F hne
  have RB := Lib.hid (fun g => B0.out.up (F.below g))
  have RX := fun g => X0.up (F.below g)
  have RX0 := fun g => (RX g).c0
  have RX1 := fun g => (RX g).c1
  have RX2 := fun g => (RX g).c2
  have RX3 := fun g => (RX g).c3
  have RX4 := fun g => (RX g).c4
  have RX5 := fun g => (RX g).c5
  have RX6 := fun g => (RX g).c6
  have RX7 := fun g => (RX g).c7
  have RX8 := fun g => (RX g).c8
  have RY := fun g => Y0.up (F.below g)
  have RY0 := fun g => (RY g).c0
  have RY1 := fun g => (RY g).c1
  have RY2 := fun g => (RY g).c2
  have RY3 := fun g => (RY g).c3
  have RY4 := fun g => (RY g).c4
  have RY5 := fun g => (RY g).c5
  have RY6 := fun g => (RY g).c6
  have RY7 := fun g => (RY g).c7
  have RY8 := fun g => (RY g).c8
  repeat (go_big_quiet_step (first | (go_at_call 38; with_reducible exact F.call (isKind_at a.k true _ h0.out)) | (go_at_call 46; with_reducible exact F.call (groupOf_at a g _ hg.out)) | (go_at_call 46; with_reducible exact F.call (groupOf_at b h _ hh.out))))
  refine wpQuiet_nil ?_
  rintro _ ⟨gT, rfl⟩
  have B1 := Lib.hid (RB.out gT)
  have X1 := RX gT
  have Y1 := RY gT
  clear F RB hne RX RX0 RX1 RX2 RX3 RX4 RX5 RX6 RX7 RX8 RY RY0 RY1 RY2 RY3 RY4 RY5 RY6 RY7 RY8 B0 X0 Y0
  generalize f_ gT = w1 at *
  clear f_
  obtain ⟨xf0, xf1, xf2, xf3, xf4, xf5, xf6, xf7, xf8, xf9, xf10, xf11, xf12, xf13, xf14, xf15, xf16, xf17, xf18⟩ := id X1
  obtain ⟨yf0, yf1, yf2, yf3, yf4, yf5, yf6, yf7, yf8, yf9, yf10, yf11, yf12, yf13, yf14, yf15, yf16, yf17, yf18⟩ := id Y1
  go_wp2_with fail
  go_ret
  exact ⟨rfl, B1.out.out⟩
set_option maxRecDepth 100000 in
set_option maxHeartbeats 2000000 in
theorem conf_2 (a b : Sp) (g h : Gr) (w : World) (h0 : isK a.k = true) (hg : grp a = g) (hh : grp b = h) (h1 : g.k = h.k) (h2 : g.s ≠ h.s) :
    Calls Tryd.prog 21 #[.agg #[.int .i64 a.k, .int .i64 a.f.m, .int .i64 a.f.a, .int .i64 a.f.s, .int .i64 a.f.v, .int .i64 a.t.m, .int .i64 a.t.a, .int .i64 a.t.s, .int .i64 a.t.v], .agg #[.int .i64 b.k, .int .i64 b.f.m, .int .i64 b.f.a, .int .i64 b.f.s, .int .i64 b.f.v, .int .i64 b.t.m, .int .i64 b.t.a, .int .i64 b.t.s, .int .i64 b.t.v]] w fun e w' => e = .returned (.bool false) ∧ Below w.heap.size w w' := by
  replace h0 := Lib.hid h0
  replace hg := Lib.hid hg
  replace hh := Lib.hid hh
  have e1 : (g.k == h.k) = true := by simpa using h1
  have e2 : (g.s == h.s) = false := by simpa using h2
  clear h1 h2
  have B0 := Lib.hid (((Bel.refl w).alloc (.cells #[.int .i64 a.k, .int .i64 a.f.m, .int .i64 a.f.a, .int .i64 a.f.s, .int .i64 a.f.v, .int .i64 a.t.m, .int .i64 a.t.a, .int .i64 a.t.s, .int .i64 a.t.v] 31)).alloc (.cells #[.int .i64 b.k, .int .i64 b.f.m, .int .i64 b.f.a, .int .i64 b.f.s, .int .i64 b.f.v, .int .i64 b.t.m, .int .i64 b.t.a, .int .i64 b.t.s, .int .i64 b.t.v] 31))
  have X0 := (Non.new w (.int .i64 a.k) (.int .i64 a.f.m) (.int .i64 a.f.a) (.int .i64 a.f.s) (.int .i64 a.f.v) (.int .i64 a.t.m) (.int .i64 a.t.a) (.int .i64 a.t.s) (.int .i64 a.t.v) 31 (w.heap.size) (by simp)).alloc (.cells #[.int .i64 b.k, .int .i64 b.f.m, .int .i64 b.f.a, .int .i64 b.f.s, .int .i64 b.f.v, .int .i64 b.t.m, .int .i64 b.t.a, .int .i64 b.t.s, .int .i64 b.t.v] 31)
  have Y0 := Non.new (w.alloc (.cells #[.int .i64 a.k, .int .i64 a.f.m, .int .i64 a.f.a, .int .i64 a.f.s, .int .i64 a.f.v, .int .i64 a.t.m, .int .i64 a.t.a, .int .i64 a.t.s, .int .i64 a.t.v] 31)) (.int .i64 b.k) (.int .i64 b.f.m) (.int .i64 b.f.a) (.int .i64 b.f.s) (.int .i64 b.f.v) (.int .i64 b.t.m) (.int .i64 b.t.a) (.int .i64 b.t.s) (.int .i64 b.t.v) 31 (w.heap.size + 1) (by simp)
  go_enter Tryd.func21, Tryd.ntmps21
  obtain ⟨xf0, xf1, xf2, xf3, xf4, xf5, xf6, xf7, xf8, xf9, xf10, xf11, xf12, xf13, xf14, xf15, xf16, xf17, xf18⟩ := id X0
  obtain ⟨yf0, yf1, yf2, yf3, yf4, yf5, yf6, yf7, yf8, yf9, yf10, yf11, yf12, yf13, yf14, yf15, yf16, yf17, yf18⟩ := id Y0
  go_wp2_with fail
  clear xf0 xf1 xf2 xf3 xf4 xf5 xf6 xf7 xf8 xf9 xf10 xf11 xf12 xf13 xf14 xf15 xf16 xf17 xf18 yf0 yf1 yf2 yf3 yf4 yf5 yf6 yf7 yf8 yf9 yf10 yf11 yf12 yf13 yf14 yf15 yf16 yf17 yf18
  refine Qt.regionAll (by kernel_rfl) (by kernel_rfl) ?_
  intro T f_ F hne
  have RB := Lib.hid (fun g => B0.out.up (F.below g))
  have RX := fun g => X0.up (F.below g)
  have RX0 := fun g => (RX g).c0
  have RX1 := fun g => (RX g).c1
  have RX2 := fun g => (RX g).c2
  have RX3 := fun g => (RX g).c3
  have RX4 := fun g => (RX g).c4
  have RX5 := fun g => (RX g).c5
  have RX6 := fun g => (RX g).c6
  have RX7 := fun g => (RX g).c7
  have RX8 := fun g => (RX g).c8
  have RY := fun g => Y0.up (F.below g)
  have RY0 := fun g => (RY g).c0
  have RY1 := fun g => (RY g).c1
  have RY2 := fun g => (RY g).c2
  have RY3 := fun g => (RY g).c3
  have RY4 := fun g => (RY g).c4
  have RY5 := fun g => (RY g).c5
  have RY6 := fun g => (RY g).c6
  have RY7 := fun g => (RY g).c7
  have RY8 := fun g => (RY g).c8
  repeat (go_big_quiet_step (first | (go_at_call 38; with_reducible exact F.call (isKind_at a.k true _ h0.out)) | (go_at_call 46; with_reducible exact F.call (groupOf_at a g _ hg.out)) | (go_at_call 46; with_reducible exact F.call (groupOf_at b h _ hh.out))))
  refine wpQuiet_nil ?_
  rintro _ ⟨gT, rfl⟩
  have B1 := Lib.hid (RB.out gT)
  have X1 := RX gT
  have Y1 := RY gT
  clear F RB hne RX RX0 RX1 RX2 RX3 RX4 RX5 RX6 RX7 RX8 RY RY0 RY1 RY2 RY3 RY4 RY5 RY6 RY7 RY8 B0 X0 Y0
  generalize f_ gT = w1 at *
  clear f_
  obtain ⟨xf0, xf1, xf2, xf3, xf4, xf5, xf6, xf7, xf8, xf9, xf10, xf11, xf12, xf13, xf14, xf15, xf16, xf17, xf18⟩ := id X1
  obtain ⟨yf0, yf1, yf2, yf3, yf4, yf5, yf6, yf7, yf8, yf9, yf10, yf11, yf12, yf13, yf14, yf15, yf16, yf17, yf18⟩ := id Y1
  go_wp2_with fail
  go_ret
  exact ⟨rfl, B1.out.out⟩
set_option maxRecDepth 100000 in
set_option maxHeartbeats 2000000 in
theorem conf_3 (a b : Sp) (g h : Gr) (w : World) (h0 : isK a.k = true) (hg : grp a = g) (hh : grp b = h) (h1 : g.k = h.k) (h2 : g.s = h.s) (h3 : g.v ≠ h.v) :
    Calls Tryd.prog 21 #[.agg #[.int .i64 a.k, .int .i64 a.f.m, .int .i64 a.f.a, .int .i64 a.f.s, .int .i64 a.f.v, .int .i64 a.t.m, .int .i64 a.t.a, .int .i64 a.t.s, .int .i64 a.t.v], .agg #[.int .i64 b.k, .int .i64 b.f.m, .int .i64 b.f.a, .int .i64 b.f.s, .int .i64 b.f.v, .int .i64 b.t.m, .int .i64 b.t.a, .int .i64 b.t.s, .int .i64 b.t.v]] w fun e w' => e = .returned (.bool false) ∧ Below w.heap.size w w' := by
  replace h0 := Lib.hid h0
  replace hg := Lib.hid hg
  replace hh := Lib.hid hh
  have e1 : (g.k == h.k) = true := by simpa using h1
  have e2 : (g.s == h.s) = true := by simpa using h2
  have e3 : (g.v == h.v) = false := by simpa using h3
  clear h1 h2 h3
  have B0 := Lib.hid (((Bel.refl w).alloc (.cells #[.int .i64 a.k, .int .i64 a.f.m, .int .i64 a.f.a, .int .i64 a.f.s, .int .i64 a.f.v, .int .i64 a.t.m, .int .i64 a.t.a, .int .i64 a.t.s, .int .i64 a.t.v] 31)).alloc (.cells #[.int .i64 b.k, .int .i64 b.f.m, .int .i64 b.f.a, .int .i64 b.f.s, .int .i64 b.f.v, .int .i64 b.t.m, .int .i64 b.t.a, .int .i64 b.t.s, .int .i64 b.t.v] 31))
  have X0 := (Non.new w (.int .i64 a.k) (.int .i64 a.f.m) (.int .i64 a.f.a) (.int .i64 a.f.s) (.int .i64 a.f.v) (.int .i64 a.t.m) (.int .i64 a.t.a) (.int .i64 a.t.s) (.int .i64 a.t.v) 31 (w.heap.size) (by simp)).alloc (.cells #[.int .i64 b.k, .int .i64 b.f.m, .int .i64 b.f.a, .int .i64 b.f.s, .int .i64 b.f.v, .int .i64 b.t.m, .int .i64 b.t.a, .int .i64 b.t.s, .int .i64 b.t.v] 31)
  have Y0 := Non.new (w.alloc (.cells #[.int .i64 a.k, .int .i64 a.f.m, .int .i64 a.f.a, .int .i64 a.f.s, .int .i64 a.f.v, .int .i64 a.t.m, .int .i64 a.t.a, .int .i64 a.t.s, .int .i64 a.t.v] 31)) (.int .i64 b.k) (.int .i64 b.f.m) (.int .i64 b.f.a) (.int .i64 b.f.s) (.int .i64 b.f.v) (.int .i64 b.t.m) (.int .i64 b.t.a) (.int .i64 b.t.s) (.int .i64 b.t.v) 31 (w.heap.size + 1) (by simp)
  go_enter Tryd.func21, Tryd.ntmps21
  obtain ⟨xf0, xf1, xf2, xf3, xf4, xf5, xf6, xf7, xf8, xf9, xf10, xf11, xf12, xf13, xf14, xf15, xf16, xf17, xf18⟩ := id X0
  obtain ⟨yf0, yf1, yf2, yf3, yf4, yf5, yf6, yf7, yf8, yf9, yf10, yf11, yf12, yf13, yf14, yf15, yf16, yf17, yf18⟩ := id Y0
  go_wp2_with fail
  clear xf0 xf1 xf2 xf3 xf4 xf5 xf6 xf7 xf8 xf9 xf10 xf11 xf12 xf13 xf14 xf15 xf16 xf17 xf18 yf0 yf1 yf2 yf3 yf4 yf5 yf6 yf7 yf8 yf9 yf10 yf11 yf12 yf13 yf14 yf15 yf16 yf17 yf18
  refine Qt.regionAll (by kernel_rfl) (by kernel_rfl) ?_
  intro T f_ F hne
  have RB := Lib.hid (fun g => B0.out.up (F.below g))
  have RX := fun g => X0.up (F.below g)
  have RX0 := fun g => (RX g).c0
  have RX1 := fun g => (RX g).c1
  have RX2 := fun g => (RX g).c2
  have RX3 := fun g => (RX g).c3
  have RX4 := fun g => (RX g).c4
  have RX5 := fun g => (RX g).c5
  have RX6 := fun g => (RX g).c6
  have RX7 := fun g => (RX g).c7
  have RX8 := fun g => (RX g).c8
  have RY := fun g => Y0.up (F.below g)
  have RY0 := fun g => (RY g).c0
  have RY1 := fun g => (RY g).c1
  have RY2 := fun g => (RY g).c2
  have RY3 := fun g => (RY g).c3
  have RY4 := fun g => (RY g).c4
  have RY5 := fun g => (RY g).c5
  have RY6 := fun g => (RY g).c6
  have RY7 := fun g => (RY g).c7
  have RY8 := fun g => (RY g).c8
  repeat (go_big_quiet_step (first | (go_at_call 38; with_reducible exact F.call (isKind_at a.k true _ h0.out)) | (go_at_call 46; with_reducible exact F.call (groupOf_at a g _ hg.out)) | (go_at_call 46; with_reducible exact F.call (groupOf_at b h _ hh.out))))
  refine wpQuiet_nil ?_
  rintro _ ⟨gT, rfl⟩
  have B1 := Lib.hid (RB.out gT)
  have X1 := RX gT
  have Y1 := RY gT
  clear F RB hne RX RX0 RX1 RX2 RX3 RX4 RX5 RX6 RX7 RX8 RY RY0 RY1 RY2 RY3 RY4 RY5 RY6 RY7 RY8 B0 X0 Y0
  generalize f_ gT = w1 at *
  clear f_
  obtain ⟨xf0, xf1, xf2, xf3, xf4, xf5, xf6, xf7, xf8, xf9, xf10, xf11, xf12, xf13, xf14, xf15, xf16, xf17, xf18⟩ := id X1
  obtain ⟨yf0, yf1, yf2, yf3, yf4, yf5, yf6, yf7, yf8, yf9, yf10, yf11, yf12, yf13, yf14, yf15, yf16, yf17, yf18⟩ := id Y1
  go_wp2_with fail
  go_ret
  exact ⟨rfl, B1.out.out⟩
set_option maxRecDepth 100000 in
set_option maxHeartbeats 2000000 in
theorem conf_entangled (a b : Sp) (g : Gr) (r : Bool) (w : World) (h0 : isK a.k = true) (hg : grp a = g) (hh : grp b = g) (hr : ent a b = r) (hi : ∀ u : World, (Instr.index 84 (.agg #[.nilFunc, .func (.func 60) #[] #[], .func (.func 61) #[] #[], .func (.func 61) #[] #[], .func (.func 62) #[] #[], .func (.func 62) #[] #[], .func (.func 61) #[] #[], .func (.func 62) #[] #[]]) (.int .i64 a.k)).run Tryd.prog u = .ok (.func (.func 60) #[] #[]) u) :
    Calls Tryd.prog 21 #[.agg #[.int .i64 a.k, .int .i64 a.f.m, .int .i64 a.f.a, .int .i64 a.f.s, .int .i64 a.f.v, .int .i64 a.t.m, .int .i64 a.t.a, .int .i64 a.t.s, .int .i64 a.t.v], .agg #[.int .i64 b.k, .int .i64 b.f.m, .int .i64 b.f.a, .int .i64 b.f.s, .int .i64 b.f.v, .int .i64 b.t.m, .int .i64 b.t.a, .int .i64 b.t.s, .int .i64 b.t.v]] w fun e w' => e = .returned (.bool r) ∧ Below w.heap.size w w' := by
  replace h0 := Lib.hid h0
  replace hg := Lib.hid hg
  replace hh := Lib.hid hh
  replace hr := Lib.hid hr
  have B0 := Lib.hid (((Bel.refl w).alloc (.cells #[.int .i64 a.k, .int .i64 a.f.m, .int .i64 a.f.a, .int .i64 a.f.s, .int .i64 a.f.v, .int .i64 a.t.m, .int .i64 a.t.a, .int .i64 a.t.s, .int .i64 a.t.v] 31)).alloc (.cells #[.int .i64 b.k, .int .i64 b.f.m, .int .i64 b.f.a, .int .i64 b.f.s, .int .i64 b.f.v, .int .i64 b.t.m, .int .i64 b.t.a, .int .i64 b.t.s, .int .i64 b.t.v] 31))
  have X0 := (Non.new w (.int .i64 a.k) (.int .i64 a.f.m) (.int .i64 a.f.a) (.int .i64 a.f.s) (.int .i64 a.f.v) (.int .i64 a.t.m) (.int .i64 a.t.a) (.int .i64 a.t.s) (.int .i64 a.t.v) 31 (w.heap.size) (by simp)).alloc (.cells #[.int .i64 b.k, .int .i64 b.f.m, .int .i64 b.f.a, .int .i64 b.f.s, .int .i64 b.f.v, .int .i64 b.t.m, .int .i64 b.t.a, .int .i64 b.t.s, .int .i64 b.t.v] 31)
  have Y0 := Non.new (w.alloc (.cells #[.int .i64 a.k, .int .i64 a.f.m, .int .i64 a.f.a, .int .i64 a.f.s, .int .i64 a.f.v, .int .i64 a.t.m, .int .i64 a.t.a, .int .i64 a.t.s, .int .i64 a.t.v] 31)) (.int .i64 b.k) (.int .i64 b.f.m) (.int .i64 b.f.a) (.int .i64 b.f.s) (.int .i64 b.f.v) (.int .i64 b.t.m) (.int .i64 b.t.a) (.int .i64 b.t.s) (.int .i64 b.t.v) 31 (w.heap.size + 1) (by simp)
  go_enter Tryd.func21, Tryd.ntmps21
  obtain ⟨xf0, xf1, xf2, xf3, xf4, xf5, xf6, xf7, xf8, xf9, xf10, xf11, xf12, xf13, xf14, xf15, xf16, xf17, xf18⟩ := id X0
  obtain ⟨yf0, yf1, yf2, yf3, yf4, yf5, yf6, yf7, yf8, yf9, yf10, yf11, yf12, yf13, yf14, yf15, yf16, yf17, yf18⟩ := id Y0
  go_wp2_with fail
  clear xf0 xf1 xf2 xf3 xf4 xf5 xf6 xf7 xf8 xf9 xf10 xf11 xf12 xf13 xf14 xf15 xf16 xf17 xf18 yf0 yf1 yf2 yf3 yf4 yf5 yf6 yf7 yf8 yf9 yf10 yf11 yf12 yf13 yf14 yf15 yf16 yf17 yf18
  refine Qt.regionAll (by kernel_rfl) (by kernel_rfl) ?_
  intro T f_ F hne
  have RB := Lib.hid (fun g => B0.out.up (F.below g))
  have RX := fun g => X0.up (F.below g)
  have RX0 := fun g => (RX g).c0
  have RX1 := fun g => (RX g).c1
  have RX2 := fun g => (RX g).c2
  have RX3 := fun g => (RX g).c3
  have RX4 := fun g => (RX g).c4
  have RX5 := fun g => (RX g).c5
  have RX6 := fun g => (RX g).c6
  have RX7 := fun g => (RX g).c7
  have RX8 := fun g => (RX g).c8
  have RY := fun g => Y0.up (F.below g)
  have RY0 := fun g => (RY g).c0
  have RY1 := fun g => (RY g).c1
  have RY2 := fun g => (RY g).c2
  have RY3 := fun g => (RY g).c3
  have RY4 := fun g => (RY g).c4
  have RY5 := fun g => (RY g).c5
  have RY6 := fun g => (RY g).c6
  have RY7 := fun g => (RY g).c7
  have RY8 := fun g => (RY g).c8
  repeat (go_big_quiet_step (first | (go_at_call 38; with_reducible exact F.call (isKind_at a.k true _ h0.out)) | (go_at_call 46; with_reducible exact F.call (groupOf_at a g _ hg.out)) | (go_at_call 46; with_reducible exact F.call (groupOf_at b g _ hh.out)) | (go_at_call 47; with_reducible exact F.call (rules_at2 _)) | (go_at_call 60; with_reducible exact F.call (entangled_at a b r _ hr.out))))
  refine wpQuiet_nil ?_
  rintro _ ⟨gT, rfl⟩
  have B1 := Lib.hid (RB.out gT)
  have X1 := RX gT
  have Y1 := RY gT
  clear F RB hne RX RX0 RX1 RX2 RX3 RX4 RX5 RX6 RX7 RX8 RY RY0 RY1 RY2 RY3 RY4 RY5 RY6 RY7 RY8 B0 X0 Y0
  generalize f_ gT = w1 at *
  clear f_
  obtain ⟨xf0, xf1, xf2, xf3, xf4, xf5, xf6, xf7, xf8, xf9, xf10, xf11, xf12, xf13, xf14, xf15, xf16, xf17, xf18⟩ := id X1
  obtain ⟨yf0, yf1, yf2, yf3, yf4, yf5, yf6, yf7, yf8, yf9, yf10, yf11, yf12, yf13, yf14, yf15, yf16, yf17, yf18⟩ := id Y1
  go_wp2_with fail
  go_ret
  exact ⟨rfl, B1.out.out⟩
set_option maxRecDepth 100000 in
set_option maxHeartbeats 2000000 in
theorem conf_touch (a b : Sp) (g : Gr) (r : Bool) (w : World) (h0 : isK a.k = true) (hg : grp a = g) (hh : grp b = g) (hr : tch a b = r) (hi : ∀ u : World, (Instr.index 84 (.agg #[.nilFunc, .func (.func 60) #[] #[], .func (.func 61) #[] #[], .func (.func 61) #[] #[], .func (.func 62) #[] #[], .func (.func 62) #[] #[], .func (.func 61) #[] #[], .func (.func 62) #[] #[]]) (.int .i64 a.k)).run Tryd.prog u = .ok (.func (.func 62) #[] #[]) u) :
    Calls Tryd.prog 21 #[.agg #[.int .i64 a.k, .int .i64 a.f.m, .int .i64 a.f.a, .int .i64 a.f.s, .int .i64 a.f.v, .int .i64 a.t.m, .int .i64 a.t.a, .int .i64 a.t.s, .int .i64 a.t.v], .agg #[.int .i64 b.k, .int .i64 b.f.m, .int .i64 b.f.a, .int .i64 b.f.s, .int .i64 b.f.v, .int .i64 b.t.m, .int .i64 b.t.a, .int .i64 b.t.s, .int .i64 b.t.v]] w fun e w' => e = .returned (.bool r) ∧ Below w.heap.size w w' := by
  replace h0 := Lib.hid h0
  replace hg := Lib.hid hg
  replace hh := Lib.hid hh
  replace hr := Lib.hid hr
  have B0 := Lib.hid (((Bel.refl w).alloc (.cells #[.int .i64 a.k, .int .i64 a.f.m, .int .i64 a.f.a, .int .i64 a.f.s, .int .i64 a.f.v, .int .i64 a.t.m, .int .i64 a.t.a, .int .i64 a.t.s, .int .i64 a.t.v] 31)).alloc (.cells #[.int .i64 b.k, .int .i64 b.f.m, .int .i64 b.f.a, .int .i64 b.f.s, .int .i64 b.f.v, .int .i64 b.t.m, .int .i64 b.t.a, .int .i64 b.t.s, .int .i64 b.t.v] 31))
  have X0 := (Non.new w (.int .i64 a.k) (.int .i64 a.f.m) (.int .i64 a.f.a) (.int .i64 a.f.s) (.int .i64 a.f.v) (.int .i64 a.t.m) (.int .i64 a.t.a) (.int .i64 a.t.s) (.int .i64 a.t.v) 31 (w.heap.size) (by simp)).alloc (.cells #[.int .i64 b.k, .int .i64 b.f.m, .int .i64 b.f.a, .int .i64 b.f.s, .int .i64 b.f.v, .int .i64 b.t.m, .int .i64 b.t.a, .int .i64 b.t.s, .int .i64 b.t.v] 31)
  have Y0 := Non.new (w.alloc (.cells #[.int .i64 a.k, .int .i64 a.f.m, .int .i64 a.f.a, .int .i64 a.f.s, .int .i64 a.f.v, .int .i64 a.t.m, .int .i64 a.t.a, .int .i64 a.t.s, .int .i64 a.t.v] 31)) (.int .i64 b.k) (.int .i64 b.f.m) (.int .i64 b.f.a) (.int .i64 b.f.s) (.int .i64 b.f.v) (.int .i64 b.t.m) (.int .i64 b.t.a) (.int .i64 b.t.s) (.int .i64 b.t.v) 31 (w.heap.size + 1) (by simp)
  go_enter Tryd.func21, Tryd.ntmps21
  obtain ⟨xf0, xf1, xf2, xf3, xf4, xf5, xf6, xf7, xf8, xf9, xf10, xf11, xf12, xf13, xf14, xf15, xf16, xf17, xf18⟩ := id X0
  obtain ⟨yf0, yf1, yf2, yf3, yf4, yf5, yf6, yf7, yf8, yf9, yf10, yf11, yf12, yf13, yf14, yf15, yf16, yf17, yf18⟩ := id Y0
  go_wp2_with fail
  clear xf0 xf1 xf2 xf3 xf4 xf5 xf6 xf7 xf8 xf9 xf10 xf11 xf12 xf13 xf14 xf15 xf16 xf17 xf18 yf0 yf1 yf2 yf3 yf4 yf5 yf6 yf7 yf8 yf9 yf10 yf11 yf12 yf13 yf14 yf15 yf16 yf17 yf18
  refine Qt.regionAll (by kernel_rfl) (by kernel_rfl) ?_
  intro T f_ F hne
  have RB := Lib.hid (fun g => B0.out.up (F.below g))
  have RX := fun g => X0.up (F.below g)
  have RX0 := fun g => (RX g).c0
  have RX1 := fun g => (RX g).c1
  have RX2 := fun g => (RX g).c2
  have RX3 := fun g => (RX g).c3
  have RX4 := fun g => (RX g).c4
  have RX5 := fun g => (RX g).c5
  have RX6 := fun g => (RX g).c6
  have RX7 := fun g => (RX g).c7
  have RX8 := fun g => (RX g).c8
  have RY := fun g => Y0.up (F.below g)
  have RY0 := fun g => (RY g).c0
  have RY1 := fun g => (RY g).c1
  have RY2 := fun g => (RY g).c2
  have RY3 := fun g => (RY g).c3
  have RY4 := fun g => (RY g).c4
  have RY5 := fun g => (RY g).c5
  have RY6 := fun g => (RY g).c6
  have RY7 := fun g => (RY g).c7
  have RY8 := fun g => (RY g).c8
  repeat (go_big_quiet_step (first | (go_at_call 38; with_reducible exact F.call (isKind_at a.k true _ h0.out)) | (go_at_call 46; with_reducible exact F.call (groupOf_at a g _ hg.out)) | (go_at_call 46; with_reducible exact F.call (groupOf_at b g _ hh.out)) | (go_at_call 47; with_reducible exact F.call (rules_at2 _)) | (go_at_call 62; with_reducible exact F.call (touch_at a b r _ hr.out))))
  refine wpQuiet_nil ?_
  rintro _ ⟨gT, rfl⟩
  have B1 := Lib.hid (RB.out gT)
  have X1 := RX gT
  have Y1 := RY gT
  clear F RB hne RX RX0 RX1 RX2 RX3 RX4 RX5 RX6 RX7 RX8 RY RY0 RY1 RY2 RY3 RY4 RY5 RY6 RY7 RY8 B0 X0 Y0
  generalize f_ gT = w1 at *
  clear f_
  obtain ⟨xf0, xf1, xf2, xf3, xf4, xf5, xf6, xf7, xf8, xf9, xf10, xf11, xf12, xf13, xf14, xf15, xf16, xf17, xf18⟩ := id X1
  obtain ⟨yf0, yf1, yf2, yf3, yf4, yf5, yf6, yf7, yf8, yf9, yf10, yf11, yf12, yf13, yf14, yf15, yf16, yf17, yf18⟩ := id Y1
  go_wp2_with fail
  go_ret
  exact ⟨rfl, B1.out.out⟩
set_option maxRecDepth 100000 in
set_option maxHeartbeats 2000000 in
theorem conf_overlap (a b : Sp) (g : Gr) (r : Bool) (w : World) (h0 : isK a.k = true) (hg : grp a = g) (hh : grp b = g) (hr : ovl a b = r) (hi : ∀ u : World, (Instr.index 84 (.agg #[.nilFunc, .func (.func 60) #[] #[], .func (.func 61) #[] #[], .func (.func 61) #[] #[], .func (.func 62) #[] #[], .func (.func 62) #[] #[], .func (.func 61) #[] #[], .func (.func 62) #[] #[]]) (.int .i64 a.k)).run Tryd.prog u = .ok (.func (.func 61) #[] #[]) u) :
    Calls Tryd.prog 21 #[.agg #[.int .i64 a.k, .int .i64 a.f.m, .int .i64 a.f.a, .int .i64 a.f.s, .int .i64 a.f.v, .int .i64 a.t.m, .int .i64 a.t.a, .int .i64 a.t.s, .int .i64 a.t.v], .agg #[.int .i64 b.k, .int .i64 b.f.m, .int .i64 b.f.a, .int .i64 b.f.s, .int .i64 b.f.v, .int .i64 b.t.m, .int .i64 b.t.a, .int .i64 b.t.s, .int .i64 b.t.v]] w fun e w' => e = .returned (.bool r) ∧ Below w.heap.size w w' := by
  replace h0 := Lib.hid h0
  replace hg := Lib.hid hg
  replace hh := Lib.hid hh
  replace hr := Lib.hid hr
  have B0 := Lib.hid (((Bel.refl w).alloc (.cells #[.int .i64 a.k, .int .i64 a.f.m, .int .i64 a.f.a, .int .i64 a.f.s, .int .i64 a.f.v, .int .i64 a.t.m, .int .i64 a.t.a, .int .i64 a.t.s, .int .i64 a.t.v] 31)).alloc (.cells #[.int .i64 b.k, .int .i64 b.f.m, .int .i64 b.f.a, .int .i64 b.f.s, .int .i64 b.f.v, .int .i64 b.t.m, .int .i64 b.t.a, .int .i64 b.t.s, .int .i64 b.t.v] 31))
  have X0 := (Non.new w (.int .i64 a.k) (.int .i64 a.f.m) (.int .i64 a.f.a) (.int .i64 a.f.s) (.int .i64 a.f.v) (.int .i64 a.t.m) (.int .i64 a.t.a) (.int .i64 a.t.s) (.int .i64 a.t.v) 31 (w.heap.size) (by simp)).alloc (.cells #[.int .i64 b.k, .int .i64 b.f.m, .int .i64 b.f.a, .int .i64 b.f.s, .int .i64 b.f.v, .int .i64 b.t.m, .int .i64 b.t.a, .int .i64 b.t.s, .int .i64 b.t.v] 31)
  have Y0 := Non.new (w.alloc (.cells #[.int .i64 a.k, .int .i64 a.f.m, .int .i64 a.f.a, .int .i64 a.f.s, .int .i64 a.f.v, .int .i64 a.t.m, .int .i64 a.t.a, .int .i64 a.t.s, .int .i64 a.t.v] 31)) (.int .i64 b.k) (.int .i64 b.f.m) (.int .i64 b.f.a) (.int .i64 b.f.s) (.int .i64 b.f.v) (.int .i64 b.t.m) (.int .i64 b.t.a) (.int .i64 b.t.s) (.int .i64 b.t.v) 31 (w.heap.size + 1) (by simp)
  go_enter Tryd.func21, Tryd.ntmps21
  obtain ⟨xf0, xf1, xf2, xf3, xf4, xf5, xf6, xf7, xf8, xf9, xf10, xf11, xf12, xf13, xf14, xf15, xf16, xf17, xf18⟩ := id X0
  obtain ⟨yf0, yf1, yf2, yf3, yf4, yf5, yf6, yf7, yf8, yf9, yf10, yf11, yf12, yf13, yf14, yf15, yf16, yf17, yf18⟩ := id Y0
  go_wp2_with fail
  clear xf0 xf1 xf2 xf3 xf4 xf5 xf6 xf7 xf8 xf9 xf10 xf11 xf12 xf13 xf14 xf15 xf16 xf17 xf18 yf0 yf1 yf2 yf3 yf4 yf5 yf6 yf7 yf8 yf9 yf10 yf11 yf12 yf13 yf14 yf15 yf16 yf17 yf18
  refine Qt.regionAll (by kernel_rfl) (by kernel_rfl) ?_
  intro T f_ F hne
  have RB := Lib.hid (fun g => B0.out.up (F.below g))
  have RX := fun g => X0.up (F.below g)
  have RX0 := fun g => (RX g).c0
  have RX1 := fun g => (RX g).c1
  have RX2 := fun g => (RX g).c2
  have RX3 := fun g => (RX g).c3
  have RX4 := fun g => (RX g).c4
  have RX5 := fun g => (RX g).c5
  have RX6 := fun g => (RX g).c6
  have RX7 := fun g => (RX g).c7
  have RX8 := fun g => (RX g).c8
  have RY := fun g => Y0.up (F.below g)
  have RY0 := fun g => (RY g).c0
  have RY1 := fun g => (RY g).c1
  have RY2 := fun g => (RY g).c2
  have RY3 := fun g => (RY g).c3
  have RY4 := fun g => (RY g).c4
  have RY5 := fun g => (RY g).c5
  have RY6 := fun g => (RY g).c6
  have RY7 := fun g => (RY g).c7
  have RY8 := fun g => (RY g).c8
  repeat (go_big_quiet_step (first | (go_at_call 38; with_reducible exact F.call (isKind_at a.k true _ h0.out)) | (go_at_call 46; with_reducible exact F.call (groupOf_at a g _ hg.out)) | (go_at_call 46; with_reducible exact F.call (groupOf_at b g _ hh.out)) | (go_at_call 47; with_reducible exact F.call (rules_at2 _)) | (go_at_call 61; with_reducible exact F.call (overlap_at a b r _ hr.out))))
  refine wpQuiet_nil ?_
  rintro _ ⟨gT, rfl⟩
  have B1 := Lib.hid (RB.out gT)
  have X1 := RX gT
  have Y1 := RY gT
  clear F RB hne RX RX0 RX1 RX2 RX3 RX4 RX5 RX6 RX7 RX8 RY RY0 RY1 RY2 RY3 RY4 RY5 RY6 RY7 RY8 B0 X0 Y0
  generalize f_ gT = w1 at *
  clear f_
  obtain ⟨xf0, xf1, xf2, xf3, xf4, xf5, xf6, xf7, xf8, xf9, xf10, xf11, xf12, xf13, xf14, xf15, xf16, xf17, xf18⟩ := id X1
  obtain ⟨yf0, yf1, yf2, yf3, yf4, yf5, yf6, yf7, yf8, yf9, yf10, yf11, yf12, yf13, yf14, yf15, yf16, yf17, yf18⟩ := id Y1
  go_wp2_with fail
  go_ret
  exact ⟨rfl, B1.out.out⟩
theorem conflict_at (a b : Sp) (r : Bool) (w : World) (h : cf a b = r) : Calls Tryd.prog 21 #[.agg #[.int .i64 a.k, .int .i64 a.f.m, .int .i64 a.f.a, .int .i64 a.f.s, .int .i64 a.f.v, .int .i64 a.t.m, .int .i64 a.t.a, .int .i64 a.t.s, .int .i64 a.t.v], .agg #[.int .i64 b.k, .int .i64 b.f.m, .int .i64 b.f.a, .int .i64 b.f.s, .int .i64 b.f.v, .int .i64 b.t.m, .int .i64 b.t.a, .int .i64 b.t.s, .int .i64 b.t.v]] w fun e w' => e = .returned (.bool r) ∧ Below w.heap.size w w' := by
  subst h
  cases h0 : isK a.k
  · rw [show cf a b = false from by simp [cf, h0]]; exact conf_k a b w h0
  · obtain ⟨g, hg⟩ : ∃ g, grp a = g := ⟨_, rfl⟩
    obtain ⟨h, hh⟩ : ∃ h, grp b = h := ⟨_, rfl⟩
    by_cases e : g = h
    · subst e
      have e1 : cf a b = exc a.k a b := by simp [cf, h0, hg, hh]
      rw [e1]
      have hi := idx_rules a.k h0
      unfold rid at hi
      unfold exc
      by_cases h1 : a.k = 1
      · rw [if_pos h1]; simp only [if_pos h1] at hi; exact conf_entangled a b g _ w h0 hg hh rfl hi
      · rw [if_neg h1]
        by_cases h2 : a.k = 4 ∨ a.k = 5 ∨ a.k = 7
        · rw [if_pos h2]; simp only [if_neg h1, if_pos h2] at hi; exact conf_touch a b g _ w h0 hg hh rfl hi
        · rw [if_neg h2]; simp only [if_neg h1, if_neg h2] at hi; exact conf_overlap a b g _ w h0 hg hh rfl hi
    · rw [show cf a b = false from by simp [cf, hg, hh, e]]
      by_cases h1 : g.k = h.k
      · by_cases h2 : g.s = h.s
        · have h3 : g.v ≠ h.v := fun e3 => e (by cases g; cases h; simp at *; exact ⟨h1, h2, e3⟩)
          exact conf_3 a b g h w h0 hg hh h1 h2 h3
        · exact conf_2 a b g h w h0 hg hh h1 h2
      · exact conf_1 a b g h w h0 hg hh h1
end Go.Proofs.YtabafabebodojaaDoor
