/- Spans: law Proper. -/
import Derived.Test.YtabafabebodojaaDoorSq
import Derived.Test.YtabafabebodojaaDoorSf
import Derived.Test.YtabafabebodojaaDoorSh
namespace Go.Proofs.YtabafabebodojaaDoor
open Go.RowKit
set_option linter.unusedVariables false
set_option linter.unusedSimpArgs false

set_option maxRecDepth 100000 in
set_option maxHeartbeats 8000000 in
theorem law_SpannerProper (s : Sp) (w : World) (hk : KT w) :
    Calls Tryd.prog 3 #[.agg #[.int .i64 s.k, .int .i64 s.f.m, .int .i64 s.f.a, .int .i64 s.f.s, .int .i64 s.f.v, .int .i64 s.t.m, .int .i64 s.t.a, .int .i64 s.t.s, .int .i64 s.t.v]] w fun e w' => e = .returned (.bool true) ∧ Below w.heap.size w w' := by
  obtain ⟨r, hr⟩ : ∃ r, proper s = r := ⟨_, rfl⟩
  obtain ⟨c, hc⟩ : ∃ c, cmpP s.f s.t = c := ⟨_, rfl⟩
  have hc2 : cmpP s.t s.f = -c := by rw [← hc]; exact cmpP_neg _ _
  have hbd := cmpP_bd s.f s.t
  rw [hc] at hbd
  replace hr := Lib.hid hr
  replace hc := Lib.hid hc
  replace hc2 := Lib.hid hc2
  have B0 := Lib.hid ((Bel.refl w).alloc (.cells #[.int .i64 s.k, .int .i64 s.f.m, .int .i64 s.f.a, .int .i64 s.f.s, .int .i64 s.f.v, .int .i64 s.t.m, .int .i64 s.t.a, .int .i64 s.t.s, .int .i64 s.t.v] 25))
  have K0 := Lib.hid (hk.below ((Below.refl _ _).alloc (Nat.le_refl _) (.cells #[.int .i64 s.k, .int .i64 s.f.m, .int .i64 s.f.a, .int .i64 s.f.s, .int .i64 s.f.v, .int .i64 s.t.m, .int .i64 s.t.a, .int .i64 s.t.s, .int .i64 s.t.v] 25)))
  have X0 := Non.new w (.int .i64 s.k) (.int .i64 s.f.m) (.int .i64 s.f.a) (.int .i64 s.f.s) (.int .i64 s.f.v) (.int .i64 s.t.m) (.int .i64 s.t.a) (.int .i64 s.t.s) (.int .i64 s.t.v) 25 (w.heap.size) (by simp)
  go_enter Tryd.func3, Tryd.ntmps3
  obtain ⟨xf0, xf1, xf2, xf3, xf4, xf5, xf6, xf7, xf8, xf9, xf10, xf11, xf12, xf13, xf14, xf15, xf16, xf17, xf18⟩ := id X0
  go_wp2_with fail
  clear xf0 xf1 xf2 xf3 xf4 xf5 xf6 xf7 xf8 xf9 xf10 xf11 xf12 xf13 xf14 xf15 xf16 xf17 xf18
  refine Qt.regionAll (by kernel_rfl) (by kernel_rfl) ?_
  intro T f_ F hne
  have RB := Lib.hid (fun g => B0.out.up (F.below g))
  have RK := Lib.hid (fun g => K0.out.below (F.below g))
  have RX := fun g => X0.up (F.below g)
  have RX0 := fun g => (RX g).c0
  have RX1 := fun g => (RX g).c1
  have RX2 := fun g => (RX g).c2
  have RX3 := fun g => (RX g).c3
  have RX4 := fun g => (RX g).c4
  have RX5 := fun g => (RX g).c5
  have RX6 := fun g => (RX g).c6
  have RX7 := fun g => (RX g).c7
  have RX8 := fun g => (RX g).c8
  repeat (go_big_quiet_step (first | (go_at_call 13; with_reducible exact F.call (known_ok _ (RK.out _))) | (go_at_call 15; with_reducible exact F.call (own_ok s _)) | (go_at_call 14; with_reducible exact F.call (proper_at s r _ hr.out)) | (go_at_call 16; with_reducible exact F.call (rproper_at s r _ hr.out)) | (go_at_call 18; with_reducible exact F.call (place_ok s.f _)) | (go_at_call 18; with_reducible exact F.call (place_ok s.t _)) | (go_at_call 17; with_reducible exact F.call (compare_at s.f s.t c _ hc.out)) | (go_at_call 17; with_reducible exact F.call (compare_at s.t s.f (-c) _ hc2.out)) | (go_at_call 19; with_reducible exact F.call (rcompare_at s.f s.t c _ hc.out))))
  refine wpQuiet_nil ?_
  rintro _ ⟨gT, rfl⟩
  have B1 := Lib.hid (RB.out gT)
  have K1 := Lib.hid (RK.out gT)
  have X1 := RX gT
  clear F RB hne RK RX RX0 RX1 RX2 RX3 RX4 RX5 RX6 RX7 RX8 B0 K0 X0
  generalize f_ gT = w1 at *
  clear f_
  obtain ⟨xf0, xf1, xf2, xf3, xf4, xf5, xf6, xf7, xf8, xf9, xf10, xf11, xf12, xf13, xf14, xf15, xf16, xf17, xf18⟩ := id X1
  go_wp2_with fail
  go_ret
  exact ⟨rfl, B1.out.out⟩
end Go.Proofs.YtabafabebodojaaDoor
