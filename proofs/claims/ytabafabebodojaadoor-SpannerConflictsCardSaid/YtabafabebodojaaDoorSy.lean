/- Spans: law Conflicts. -/
import Derived.Test.YtabafabebodojaaDoorSq
import Derived.Test.YtabafabebodojaaDoorSx
import Derived.Test.YtabafabebodojaaDoorSj
namespace Go.Proofs.YtabafabebodojaaDoor
open Go.RowKit
set_option linter.unusedVariables false
set_option linter.unusedSimpArgs false

set_option maxRecDepth 100000 in
set_option maxHeartbeats 8000000 in
theorem law_SpannerConflicts (a b : Sp) (w : World) (hk : KT w) :
    Calls Tryd.prog 4 #[.agg #[.int .i64 a.k, .int .i64 a.f.m, .int .i64 a.f.a, .int .i64 a.f.s, .int .i64 a.f.v, .int .i64 a.t.m, .int .i64 a.t.a, .int .i64 a.t.s, .int .i64 a.t.v], .agg #[.int .i64 b.k, .int .i64 b.f.m, .int .i64 b.f.a, .int .i64 b.f.s, .int .i64 b.f.v, .int .i64 b.t.m, .int .i64 b.t.a, .int .i64 b.t.s, .int .i64 b.t.v]] w fun e w' => e = .returned (.bool true) ∧ Below w.heap.size w w' := by
  obtain ⟨r, hr⟩ : ∃ r, cf a b = r := ⟨_, rfl⟩
  have hr2 : cf b a = r := by rw [← hr]; exact cf_comm _ _
  replace hr := Lib.hid hr
  replace hr2 := Lib.hid hr2
  have B0 := Lib.hid (((Bel.refl w).alloc (.cells #[.int .i64 a.k, .int .i64 a.f.m, .int .i64 a.f.a, .int .i64 a.f.s, .int .i64 a.f.v, .int .i64 a.t.m, .int .i64 a.t.a, .int .i64 a.t.s, .int .i64 a.t.v] 25)).alloc (.cells #[.int .i64 b.k, .int .i64 b.f.m, .int .i64 b.f.a, .int .i64 b.f.s, .int .i64 b.f.v, .int .i64 b.t.m, .int .i64 b.t.a, .int .i64 b.t.s, .int .i64 b.t.v] 25))
  have K0 := Lib.hid ((hk.below ((Below.refl _ _).alloc (Nat.le_refl _) (.cells #[.int .i64 a.k, .int .i64 a.f.m, .int .i64 a.f.a, .int .i64 a.f.s, .int .i64 a.f.v, .int .i64 a.t.m, .int .i64 a.t.a, .int .i64 a.t.s, .int .i64 a.t.v] 25))).below ((Below.refl _ _).alloc (Nat.le_refl _) (.cells #[.int .i64 b.k, .int .i64 b.f.m, .int .i64 b.f.a, .int .i64 b.f.s, .int .i64 b.f.v, .int .i64 b.t.m, .int .i64 b.t.a, .int .i64 b.t.s, .int .i64 b.t.v] 25)))
  have X0 := (Non.new w (.int .i64 a.k) (.int .i64 a.f.m) (.int .i64 a.f.a) (.int .i64 a.f.s) (.int .i64 a.f.v) (.int .i64 a.t.m) (.int .i64 a.t.a) (.int .i64 a.t.s) (.int .i64 a.t.v) 25 (w.heap.size) (by simp)).alloc (.cells #[.int .i64 b.k, .int .i64 b.f.m, .int .i64 b.f.a, .int .i64 b.f.s, .int .i64 b.f.v, .int .i64 b.t.m, .int .i64 b.t.a, .int .i64 b.t.s, .int .i64 b.t.v] 25)
  have Y0 := Non.new (w.alloc (.cells #[.int .i64 a.k, .int .i64 a.f.m, .int .i64 a.f.a, .int .i64 a.f.s, .int .i64 a.f.v, .int .i64 a.t.m, .int .i64 a.t.a, .int .i64 a.t.s, .int .i64 a.t.v] 25)) (.int .i64 b.k) (.int .i64 b.f.m) (.int .i64 b.f.a) (.int .i64 b.f.s) (.int .i64 b.f.v) (.int .i64 b.t.m) (.int .i64 b.t.a) (.int .i64 b.t.s) (.int .i64 b.t.v) 25 (w.heap.size + 1) (by simp)
  go_enter Tryd.func4, Tryd.ntmps4
  obtain ⟨xf0, xf1, xf2, xf3, xf4, xf5, xf6, xf7, xf8, xf9, xf10, xf11, xf12, xf13, xf14, xf15, xf16, xf17, xf18⟩ := id X0
  obtain ⟨yf0, yf1, yf2, yf3, yf4, yf5, yf6, yf7, yf8, yf9, yf10, yf11, yf12, yf13, yf14, yf15, yf16, yf17, yf18⟩ := id Y0
  go_wp2_with fail
  clear xf0 xf1 xf2 xf3 xf4 xf5 xf6 xf7 xf8 xf9 xf10 xf11 xf12 xf13 xf14 xf15 xf16 xf17 xf18 yf0 yf1 yf2 yf3 yf4 yf5 yf6 yf7 yf8 yf9 yf10 yf11 yf12 yf13 yf14 yf15 yf16 yf17 yf18
  refine (rcf_at a b r _ hr.out).mono ?_
  rintro e w1 ⟨rfl, hb⟩
  have B1 := Lib.hid (B0.out.up hb)
  have K1 := Lib.hid (K0.out.below hb)
  have X1 := X0.up hb
  have Y1 := Y0.up hb
  clear hb B0 K0 X0 Y0
  obtain ⟨xf0, xf1, xf2, xf3, xf4, xf5, xf6, xf7, xf8, xf9, xf10, xf11, xf12, xf13, xf14, xf15, xf16, xf17, xf18⟩ := id X1
  obtain ⟨yf0, yf1, yf2, yf3, yf4, yf5, yf6, yf7, yf8, yf9, yf10, yf11, yf12, yf13, yf14, yf15, yf16, yf17, yf18⟩ := id Y1
  go_wp2_with fail
  clear xf0 xf1 xf2 xf3 xf4 xf5 xf6 xf7 xf8 xf9 xf10 xf11 xf12 xf13 xf14 xf15 xf16 xf17 xf18 yf0 yf1 yf2 yf3 yf4 yf5 yf6 yf7 yf8 yf9 yf10 yf11 yf12 yf13 yf14 yf15 yf16 yf17 yf18
  refine Qt.regionAll (by kernel_rfl) (by kernel_rfl) ?_
  intro T f_ F hne
  have RB := Lib.hid (fun g => B1.out.up (F.below g))
  have RK := Lib.hid (fun g => K1.out.below (F.below g))
  have RX := fun g => X1.up (F.below g)
  have RX0 := fun g => (RX g).c0
  have RX1 := fun g => (RX g).c1
  have RX2 := fun g => (RX g).c2
  have RX3 := fun g => (RX g).c3
  have RX4 := fun g => (RX g).c4
  have RX5 := fun g => (RX g).c5
  have RX6 := fun g => (RX g).c6
  have RX7 := fun g => (RX g).c7
  have RX8 := fun g => (RX g).c8
  have RY := fun g => Y1.up (F.below g)
  have RY0 := fun g => (RY g).c0
  have RY1 := fun g => (RY g).c1
  have RY2 := fun g => (RY g).c2
  have RY3 := fun g => (RY g).c3
  have RY4 := fun g => (RY g).c4
  have RY5 := fun g => (RY g).c5
  have RY6 := fun g => (RY g).c6
  have RY7 := fun g => (RY g).c7
  have RY8 := fun g => (RY g).c8
  repeat (go_big_quiet_step (first | (go_at_call 13; with_reducible exact F.call (known_ok _ (RK.out _))) | (go_at_call 15; with_reducible exact F.call (own_ok a _)) | (go_at_call 15; with_reducible exact F.call (own_ok b _)) | (go_at_call 21; with_reducible exact F.call (conflict_at a b r _ hr.out)) | (go_at_call 21; with_reducible exact F.call (conflict_at b a r _ hr2.out))))
  refine wpQuiet_nil ?_
  rintro _ ⟨gT, rfl⟩
  have B2 := Lib.hid (RB.out gT)
  have K2 := Lib.hid (RK.out gT)
  have X2 := RX gT
  have Y2 := RY gT
  clear F RB hne RK RX RX0 RX1 RX2 RX3 RX4 RX5 RX6 RX7 RX8 RY RY0 RY1 RY2 RY3 RY4 RY5 RY6 RY7 RY8 B1 K1 X1 Y1
  generalize f_ gT = w2 at *
  clear f_
  obtain ⟨xf0, xf1, xf2, xf3, xf4, xf5, xf6, xf7, xf8, xf9, xf10, xf11, xf12, xf13, xf14, xf15, xf16, xf17, xf18⟩ := id X2
  obtain ⟨yf0, yf1, yf2, yf3, yf4, yf5, yf6, yf7, yf8, yf9, yf10, yf11, yf12, yf13, yf14, yf15, yf16, yf17, yf18⟩ := id Y2
  go_wp2_with fail
  go_ret
  exact ⟨rfl, B2.out.out⟩
end Go.Proofs.YtabafabebodojaaDoor
