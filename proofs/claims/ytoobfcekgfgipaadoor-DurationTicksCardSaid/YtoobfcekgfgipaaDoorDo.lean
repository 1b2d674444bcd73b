/- Durations: law Ticks. -/
import Derived.Test.YtoobfcekgfgipaaDoorDm
namespace Go.Proofs.YtoobfcekgfgipaaDoor
open Go.RowKit
set_option linter.unusedVariables false
set_option linter.unusedSimpArgs false

/-- a valid note value is one of the forty -/
theorem va_ix {l d : Int} (h : Va l d) : ∃ x : Fin 40, lgV x = l ∧ dtV x = d := by
  obtain ⟨l0, l1, d0, d1⟩ := h
  refine ⟨⟨4 * (l + 1).toNat + (3 - d).toNat, by omega⟩, ?_, ?_⟩ <;> (simp only [lgV, dtV]; omega)
theorem find_va (l d : Int) (w : World) (h : Va l d) : Calls Tryd.prog 13 #[.int .i64 (lenV l d)] w fun e w' => e = .returned (.tuple #[.agg #[.int .i64 l, .int .i64 d], .int .i64 0]) ∧ Below w.heap.size w w' := by
  obtain ⟨x, rfl, rfl⟩ := va_ix h
  refine (find_ok _ w).mono ?_
  rintro e w' ⟨⟨y, hy, rfl⟩ | ⟨hn, _⟩, hb⟩
  · obtain rfl := lenV_inj _ _ hy
    exact ⟨rfl, hb⟩
  · exact absurd rfl (hn x)
set_option maxRecDepth 100000 in
set_option maxHeartbeats 2000000 in
theorem ticksL_n (l d : Int) (w : World) (h : ¬ Va l d) (hk : KT w) :
    Calls Tryd.prog 3 #[.agg #[.int .i64 l, .int .i64 d]] w fun e w' => e = .returned (.bool true) ∧ Below w.heap.size w w' := by
  have H := Lib.hid h
  have B0 := Lib.hid ((Bel.refl w).alloc (.cells #[.int .i64 l, .int .i64 d] 23))
  have K0 := Lib.hid ((Lib.hid hk).out.below ((Below.refl _ _).alloc (Nat.le_refl _) (.cells #[.int .i64 l, .int .i64 d] 23)))
  have X0 := Duo.new w (.int .i64 l) (.int .i64 d) 23 (w.heap.size) (by simp)
  clear hk h
  go_enter Tryd.func3, Tryd.ntmps3
  obtain ⟨xf0, xf1, xf2, xf3, xf4⟩ := id X0
  go_wp2_with fail
  clear xf0 xf1 xf2 xf3 xf4
  refine (ticks_n l d _ H.out).mono ?_
  rintro e w1 ⟨rfl, hb⟩
  have B1 := Lib.hid (B0.out.up hb)
  have K1 := Lib.hid (K0.out.below hb)
  have X1 := X0.up hb
  clear hb B0 K0 X0
  obtain ⟨xf0, xf1, xf2, xf3, xf4⟩ := id X1
  go_wp2_with fail
  clear xf0 xf1 xf2 xf3 xf4
  refine (known_ok _ K1.out).mono ?_
  rintro e w2 ⟨rfl, hb⟩
  have B2 := Lib.hid (B1.out.up hb)
  have K2 := Lib.hid (K1.out.below hb)
  have X2 := X1.up hb
  clear hb B1 K1 X1
  obtain ⟨xf0, xf1, xf2, xf3, xf4⟩ := id X2
  go_wp2_with fail
  clear xf0 xf1 xf2 xf3 xf4
  refine (check_n l d _ H.out).mono ?_
  rintro e w3 ⟨rfl, hb⟩
  have B3 := Lib.hid (B2.out.up hb)
  have K3 := Lib.hid (K2.out.below hb)
  have X3 := X2.up hb
  clear hb B2 K2 X2
  obtain ⟨xf0, xf1, xf2, xf3, xf4⟩ := id X3
  go_wp2_with fail
  clear xf0 xf1 xf2 xf3 xf4
  refine (valid_n l d _ H.out).mono ?_
  rintro e w4 ⟨rfl, hb⟩
  have B4 := Lib.hid (B3.out.up hb)
  have K4 := Lib.hid (K3.out.below hb)
  have X4 := X3.up hb
  clear hb B3 K3 X3
  obtain ⟨xf0, xf1, xf2, xf3, xf4⟩ := id X4
  go_wp2_with fail
  go_ret
  exact ⟨rfl, B4.out.out⟩
set_option maxRecDepth 100000 in
set_option maxHeartbeats 2000000 in
theorem ticksL_y (l d : Int) (w : World) (h : Va l d) (hk : KT w) :
    Calls Tryd.prog 3 #[.agg #[.int .i64 l, .int .i64 d]] w fun e w' => e = .returned (.bool true) ∧ Below w.heap.size w w' := by
  have H := Lib.hid h
  have KT1 := Lib.hid (fun v => ticks_y l d v h)
  have KF := Lib.hid (fun v => find_va l d v h)
  have KR := Lib.hid (fun v => rticks_ok l d v h)
  generalize lenV l d = Z at *
  have B0 := Lib.hid ((Bel.refl w).alloc (.cells #[.int .i64 l, .int .i64 d] 23))
  have K0 := Lib.hid ((Lib.hid hk).out.below ((Below.refl _ _).alloc (Nat.le_refl _) (.cells #[.int .i64 l, .int .i64 d] 23)))
  have X0 := Duo.new w (.int .i64 l) (.int .i64 d) 23 (w.heap.size) (by simp)
  clear hk h
  go_enter Tryd.func3, Tryd.ntmps3
  obtain ⟨xf0, xf1, xf2, xf3, xf4⟩ := id X0
  go_wp2_with fail
  clear xf0 xf1 xf2 xf3 xf4
  refine (KT1.out _).mono ?_
  rintro e w1 ⟨rfl, hb⟩
  have B1 := Lib.hid (B0.out.up hb)
  have K1 := Lib.hid (K0.out.below hb)
  have X1 := X0.up hb
  clear hb B0 K0 X0
  obtain ⟨xf0, xf1, xf2, xf3, xf4⟩ := id X1
  go_wp2_with fail
  clear xf0 xf1 xf2 xf3 xf4
  refine (known_ok _ K1.out).mono ?_
  rintro e w2 ⟨rfl, hb⟩
  have B2 := Lib.hid (B1.out.up hb)
  have K2 := Lib.hid (K1.out.below hb)
  have X2 := X1.up hb
  clear hb B1 K1 X1
  obtain ⟨xf0, xf1, xf2, xf3, xf4⟩ := id X2
  go_wp2_with fail
  clear xf0 xf1 xf2 xf3 xf4
  refine (check_y l d _ H.out).mono ?_
  rintro e w3 ⟨rfl, hb⟩
  have B3 := Lib.hid (B2.out.up hb)
  have K3 := Lib.hid (K2.out.below hb)
  have X3 := X2.up hb
  clear hb B2 K2 X2
  obtain ⟨xf0, xf1, xf2, xf3, xf4⟩ := id X3
  go_wp2_with fail
  clear xf0 xf1 xf2 xf3 xf4
  refine (valid_y l d _ H.out).mono ?_
  rintro e w4 ⟨rfl, hb⟩
  have B4 := Lib.hid (B3.out.up hb)
  have K4 := Lib.hid (K3.out.below hb)
  have X4 := X3.up hb
  clear hb B3 K3 X3
  obtain ⟨xf0, xf1, xf2, xf3, xf4⟩ := id X4
  go_wp2_with fail
  clear xf0 xf1 xf2 xf3 xf4
  refine (KF.out _).mono ?_
  rintro e w5 ⟨rfl, hb⟩
  have B5 := Lib.hid ((B4.out.up hb).alloc (.cells #[.int .i64 l, .int .i64 d] 23))
  have K5 := Lib.hid ((K4.out.below hb).below ((Below.refl _ _).alloc (Nat.le_refl _) (.cells #[.int .i64 l, .int .i64 d] 23)))
  have X5 := (X4.up hb).alloc (.cells #[.int .i64 l, .int .i64 d] 23)
  have Y5 := Duo.new w5 (.int .i64 l) (.int .i64 d) 23 (w5.heap.size) (by simp)
  clear hb B4 K4 X4
  obtain ⟨xf0, xf1, xf2, xf3, xf4⟩ := id X5
  obtain ⟨yf0, yf1, yf2, yf3, yf4⟩ := id Y5
  go_wp2_with fail
  clear xf0 xf1 xf2 xf3 xf4 yf0 yf1 yf2 yf3 yf4
  refine (KR.out _).mono ?_
  rintro e w6 ⟨rfl, hb⟩
  have B6 := Lib.hid (B5.out.up hb)
  have K6 := Lib.hid (K5.out.below hb)
  have X6 := X5.up hb
  have Y6 := Y5.up hb
  clear hb B5 K5 X5 Y5
  obtain ⟨xf0, xf1, xf2, xf3, xf4⟩ := id X6
  obtain ⟨yf0, yf1, yf2, yf3, yf4⟩ := id Y6
  go_wp2_with fail
  go_ret
  exact ⟨rfl, B6.out.out⟩
theorem law_DurationTicks (l d : Int) (w : World) (hk : KT w) : Calls Tryd.prog 3 #[.agg #[.int .i64 l, .int .i64 d]] w fun e w' => e = .returned (.bool true) ∧ Below w.heap.size w w' := by
  by_cases h : Va l d
  · exact ticksL_y l d w h hk
  · exact ticksL_n l d w h hk
end Go.Proofs.YtoobfcekgfgipaaDoor
