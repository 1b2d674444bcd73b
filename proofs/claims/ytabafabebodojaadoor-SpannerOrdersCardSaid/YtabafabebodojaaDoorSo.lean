/- Spans: own, place, Name of 4. -/
import Derived.Test.YtabafabebodojaaDoorSc
import Derived.Test.YtabafabebodojaaDoorDk
namespace Go.Proofs.YtabafabebodojaaDoor
open Go.RowKit
set_option linter.unusedVariables false
set_option linter.unusedSimpArgs false

set_option maxRecDepth 100000 in
set_option maxHeartbeats 2000000 in
theorem place_ok (p : Pl) (w : World)  :
    Calls Tryd.prog 18 #[.agg #[.int .i64 p.m, .int .i64 p.a, .int .i64 p.s, .int .i64 p.v]] w fun e w' => e = .returned (.agg #[.int .i64 p.m, .int .i64 p.a, .int .i64 p.s, .int .i64 p.v]) ∧ Below w.heap.size w w' := by
  have B0 := Lib.hid (((Bel.refl w).alloc (.cells #[.int .i64 p.m, .int .i64 p.a, .int .i64 p.s, .int .i64 p.v] 23)).alloc (.cells #[.int .i64 p.m, .int .i64 p.a, .int .i64 p.s, .int .i64 p.v] 29))
  have X0 := (Quad.new w (.int .i64 p.m) (.int .i64 p.a) (.int .i64 p.s) (.int .i64 p.v) 23 (w.heap.size) (by simp)).alloc (.cells #[.int .i64 p.m, .int .i64 p.a, .int .i64 p.s, .int .i64 p.v] 29)
  have R0 := Quad.new (w.alloc (.cells #[.int .i64 p.m, .int .i64 p.a, .int .i64 p.s, .int .i64 p.v] 23)) (.int .i64 p.m) (.int .i64 p.a) (.int .i64 p.s) (.int .i64 p.v) 29 (w.heap.size + 1) (by simp)
  go_enter Tryd.func18, Tryd.ntmps18
  obtain ⟨xf0, xf1, xf2, xf3, xf4, xf5, xf6, xf7, xf8⟩ := id X0
  obtain ⟨rf0, rf1, rf2, rf3, rf4, rf5, rf6, rf7, rf8⟩ := id R0
  go_wp2_with fail
  exact bodyPost_ret (v := .agg #[.int .i64 p.m, .int .i64 p.a, .int .i64 p.s, .int .i64 p.v]) (by first | (simp [results, Tryd.results18, go_sem, R0.c0, R0.c1, R0.c2, R0.c3]; done)) rfl ⟨rfl, B0.out.out⟩
set_option maxRecDepth 100000 in
set_option maxHeartbeats 2000000 in
theorem own_ok (s : Sp) (w : World)  :
    Calls Tryd.prog 15 #[.agg #[.int .i64 s.k, .int .i64 s.f.m, .int .i64 s.f.a, .int .i64 s.f.s, .int .i64 s.f.v, .int .i64 s.t.m, .int .i64 s.t.a, .int .i64 s.t.s, .int .i64 s.t.v]] w fun e w' => e = .returned (.agg #[.int .i64 s.k, .int .i64 s.f.m, .int .i64 s.f.a, .int .i64 s.f.s, .int .i64 s.f.v, .int .i64 s.t.m, .int .i64 s.t.a, .int .i64 s.t.s, .int .i64 s.t.v]) ∧ Below w.heap.size w w' := by
  have B0 := Lib.hid (((Bel.refl w).alloc (.cells #[.int .i64 s.k, .int .i64 s.f.m, .int .i64 s.f.a, .int .i64 s.f.s, .int .i64 s.f.v, .int .i64 s.t.m, .int .i64 s.t.a, .int .i64 s.t.s, .int .i64 s.t.v] 25)).alloc (.cells #[.int .i64 0, .int .i64 0, .int .i64 0, .int .i64 0, .int .i64 0, .int .i64 0, .int .i64 0, .int .i64 0, .int .i64 0] 31))
  have X0 := (Non.new w (.int .i64 s.k) (.int .i64 s.f.m) (.int .i64 s.f.a) (.int .i64 s.f.s) (.int .i64 s.f.v) (.int .i64 s.t.m) (.int .i64 s.t.a) (.int .i64 s.t.s) (.int .i64 s.t.v) 25 (w.heap.size) (by simp)).alloc (.cells #[.int .i64 0, .int .i64 0, .int .i64 0, .int .i64 0, .int .i64 0, .int .i64 0, .int .i64 0, .int .i64 0, .int .i64 0] 31)
  have R0 := Non.new (w.alloc (.cells #[.int .i64 s.k, .int .i64 s.f.m, .int .i64 s.f.a, .int .i64 s.f.s, .int .i64 s.f.v, .int .i64 s.t.m, .int .i64 s.t.a, .int .i64 s.t.s, .int .i64 s.t.v] 25)) (.int .i64 0) (.int .i64 0) (.int .i64 0) (.int .i64 0) (.int .i64 0) (.int .i64 0) (.int .i64 0) (.int .i64 0) (.int .i64 0) 31 (w.heap.size + 1) (by simp)
  go_enter Tryd.func15, Tryd.ntmps15
  obtain ⟨xf0, xf1, xf2, xf3, xf4, xf5, xf6, xf7, xf8, xf9, xf10, xf11, xf12, xf13, xf14, xf15, xf16, xf17, xf18⟩ := id X0
  obtain ⟨rf0, rf1, rf2, rf3, rf4, rf5, rf6, rf7, rf8, rf9, rf10, rf11, rf12, rf13, rf14, rf15, rf16, rf17, rf18⟩ := id R0
  go_wp2_with fail
  clear xf0 xf1 xf2 xf3 xf4 xf5 xf6 xf7 xf8 xf9 xf10 xf11 xf12 xf13 xf14 xf15 xf16 xf17 xf18 rf0 rf1 rf2 rf3 rf4 rf5 rf6 rf7 rf8 rf9 rf10 rf11 rf12 rf13 rf14 rf15 rf16 rf17 rf18
  refine Qt.region 9 (by kernel_rfl) (by kernel_rfl) ?_
  intro T f_ F hne
  have RB := Lib.hid (fun g => B0.out.up (F.below g))
  have RX := fun g => X0.up (F.below g)
  have RX0 := fun g => (RX g).c0
  have RX1 := fun g => (RX g).c1
  have RX2 := fun g => (RX g).c2
  have RX3 := fun g => (RX g).c3
  have RX4 := fun g => (RX g).c4
  have RX5 := fun g => (RX g).c5
  have RX6 := fun g => (RX g).c6
  have RX7 := fun g => (RX g).c7
  have RX8 := fun g => (RX g).c8
  have RR := fun g => R0.up (F.below g)
  have RR0 := fun g => (RR g).c0
  have RR1 := fun g => (RR g).c1
  have RR2 := fun g => (RR g).c2
  have RR3 := fun g => (RR g).c3
  have RR4 := fun g => (RR g).c4
  have RR5 := fun g => (RR g).c5
  have RR6 := fun g => (RR g).c6
  have RR7 := fun g => (RR g).c7
  have RR8 := fun g => (RR g).c8
  simp only [List.take_succ_cons, List.take_zero, List.drop_succ_cons, List.drop_zero]
  repeat (go_big_quiet_step (first | (go_at_call 18; with_reducible exact F.call (place_ok _ _))))
  refine wpQuiet_nil ?_
  rintro _ ⟨gT, rfl⟩
  have B1 := Lib.hid (RB.out gT)
  have X1 := RX gT
  have R1 := RR gT
  clear F RB hne RX RX0 RX1 RX2 RX3 RX4 RX5 RX6 RX7 RX8 RR RR0 RR1 RR2 RR3 RR4 RR5 RR6 RR7 RR8 B0 X0 R0
  generalize f_ gT = w1 at *
  clear f_
  obtain ⟨xf0, xf1, xf2, xf3, xf4, xf5, xf6, xf7, xf8, xf9, xf10, xf11, xf12, xf13, xf14, xf15, xf16, xf17, xf18⟩ := id X1
  obtain ⟨rf0, rf1, rf2, rf3, rf4, rf5, rf6, rf7, rf8, rf9, rf10, rf11, rf12, rf13, rf14, rf15, rf16, rf17, rf18⟩ := id R1
  go_wp2_with fail
  have Tf := R1.store (y0 := .int .i64 s.k) (y1 := .int .i64 s.f.m) (y2 := .int .i64 s.f.a) (y3 := .int .i64 s.f.s) (y4 := .int .i64 s.f.v) (y5 := .int .i64 s.t.m) (y6 := .int .i64 s.t.a) (y7 := .int .i64 s.t.s) (y8 := .int .i64 s.t.v)
  exact bodyPost_ret (v := .agg #[.int .i64 s.k, .int .i64 s.f.m, .int .i64 s.f.a, .int .i64 s.f.s, .int .i64 s.f.v, .int .i64 s.t.m, .int .i64 s.t.a, .int .i64 s.t.s, .int .i64 s.t.v]) (by first | (simp [results, Tryd.results15, go_sem, Tf.c0, Tf.c1, Tf.c2, Tf.c3, Tf.c4, Tf.c5, Tf.c6, Tf.c7, Tf.c8]; done)) rfl ⟨rfl, (((((((((B1.out.set (Nat.le_succ _) _ _).set (Nat.le_succ _) _ _).set (Nat.le_succ _) _ _).set (Nat.le_succ _) _ _).set (Nat.le_succ _) _ _).set (Nat.le_succ _) _ _).set (Nat.le_succ _) _ _).set (Nat.le_succ _) _ _).set (Nat.le_succ _) _ _)⟩
set_option maxRecDepth 100000 in
set_option maxHeartbeats 2000000 in
theorem name_4 (w : World) (hk : KT w) :
    Calls Tryd.prog 37 #[.int .i64 4] w fun e w' => e = .returned (.string ⟨#[56, 118, 97]⟩) ∧ Below w.heap.size w w' := by
  have B0 := Lib.hid (Bel.refl w)
  have K0 := Lib.hid hk
  have t4 := K0.out.t4
  go_enter Tryd.func37, Tryd.ntmps37
  go_wp2_with fail
  clear t4
  refine (isKind_at 4 true _ (by rfl)).mono ?_
  rintro e w1 ⟨rfl, hb⟩
  have B1 := Lib.hid (B0.out.up hb)
  have K1 := Lib.hid (K0.out.below hb)
  clear hb B0 K0 
  have t4 := K1.out.t4
  go_wp2_with fail
  go_ret
  exact ⟨rfl, B1.out.out⟩
end Go.Proofs.YtabafabebodojaaDoor
