/- Durations: known. -/
import Derived.Test.YtoobfcekgfgipaaDoorDk
import Derived.Test.YtoobfcekgfgipaaDoorShelf
import Derived.Outline
namespace Go.Proofs.YtoobfcekgfgipaaDoor
open Go.RowKit
set_option linter.unusedVariables false
set_option linter.unusedSimpArgs false

theorem rep_k (w : World) : Calls Tryd.prog 29 #[.string ⟨#[46]⟩, .int .i64 2] w fun e w' => e = .returned (.string ⟨#[46, 46]⟩) ∧ Below w.heap.size w w' := Tryd.strings_Repeat ⟨#[46]⟩ 2 w (by decide) (by decide)
theorem va_32 : Va 3 2 := by decide
theorem va_21 : Va 2 1 := by decide
set_option maxRecDepth 100000 in
set_option maxHeartbeats 2000000 in
theorem text_k  (w : World) (hk : KT w) :
    Calls Tryd.prog 17 #[.agg #[.int .i64 3, .int .i64 2]] w fun e w' => e = .returned (.tuple #[.string ⟨#[56, 46, 46]⟩, .int .i64 0]) ∧ Below w.heap.size w w' := by
  have B0 := Lib.hid ((Bel.refl w).alloc (.cells #[.int .i64 3, .int .i64 2] 23))
  have K0 := Lib.hid ((Lib.hid hk).out.below ((Below.refl _ _).alloc (Nat.le_refl _) (.cells #[.int .i64 3, .int .i64 2] 23)))
  have X0 := Duo.new w (.int .i64 3) (.int .i64 2) 23 (w.heap.size) (by simp)
  clear hk
  go_enter Tryd.func17, Tryd.ntmps17
  obtain ⟨xf0, xf1, xf2, xf3, xf4⟩ := id X0
  go_wp2_with fail
  clear xf0 xf1 xf2 xf3 xf4
  refine (check_y 3 2 _ va_32).mono ?_
  rintro e w1 ⟨rfl, hb⟩
  have B1 := Lib.hid (B0.out.up hb)
  have K1 := Lib.hid (K0.out.below hb)
  have X1 := X0.up hb
  clear hb B0 K0 X0
  obtain ⟨xf0, xf1, xf2, xf3, xf4⟩ := id X1
  go_wp2_with fail
  clear xf0 xf1 xf2 xf3 xf4
  refine Qt.regionAll (by kernel_rfl) (by kernel_rfl) ?_
  intro T f F hne
  have RB := Lib.hid (fun g => B1.out.up (F.below g))
  have RK := Lib.hid (fun g => K1.out.below (F.below g))
  have RX := fun g => X1.up (F.below g)
  have RX0 := fun g => (RX g).c0
  have RX1 := fun g => (RX g).c1
  have k4 := fun g => (RK.out g).t4
  repeat (go_big_quiet_step (first | (go_at_call 29; with_reducible exact F.call (rep_k _))))
  refine wpQuiet_nil ?_
  rintro _ ⟨g, rfl⟩
  have B2 := Lib.hid (RB.out g)
  have K2 := Lib.hid (RK.out g)
  have X2 := RX g
  clear k4 F RB hne RK RX RX0 RX1 B1 K1 X1
  generalize f g = w2 at *
  clear f
  obtain ⟨xf0, xf1, xf2, xf3, xf4⟩ := id X2
  go_wp2_with fail
  go_ret2
  exact ⟨rfl, B2.out.out⟩
set_option maxRecDepth 100000 in
set_option maxHeartbeats 4000000 in
theorem known_ok (w : World) (hk : KT w) :
    Calls Tryd.prog 10 #[] w fun e w' => e = .returned (.bool true) ∧ Below w.heap.size w w' := by
  have HK := Lib.hid hk
  have B0 := Lib.hid (Bel.refl w)
  clear hk
  go_enter Tryd.func10, Tryd.ntmps10
  go_wp2_with fail
  refine (ticks_y 2 1 _ va_21).mono ?_
  rintro e w1 ⟨rfl, hb⟩
  rw [show lenV 2 1 = 725760 by decide]
  have B1 := Lib.hid (B0.out.up hb)
  clear hb
  go_wp2_with fail
  refine (decompose_k _).mono ?_
  rintro e w2 ⟨g, cap, rfl, hc, hb⟩
  have B2 := Lib.hid (B1.out.up hb)
  have HC := Lib.hid hc
  clear hb hc
  go_wp2_with fail
  refine (text_k _ (HK.out.below B2.out.out)).mono ?_
  rintro e w3 ⟨rfl, hb⟩
  have B3 := Lib.hid (B2.out.up hb)
  have c0 := cell_up hb HC.out.1
  have c1 := cell_up hb HC.out.2.1
  have c2 := cell_up hb HC.out.2.2.1
  have c3 := cell_up hb HC.out.2.2.2
  clear hb HC HK
  go_wp2_with fail
  try (go_quiet (fail); go_wp2_with fail)
  try go_ret
  exact ⟨by first | rfl | (simp; done) | (simp [go_sem]; done), by first | exact B3.out.out | exact below_drewN B3.out.out _⟩
end Go.Proofs.YtoobfcekgfgipaaDoor
