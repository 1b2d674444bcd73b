/- The law KeyTonics. -/
import Derived.Test.YtihndkplknoabaaDoorKe
import Derived.Test.YtihndkplknoabaaDoorKp
namespace Go.Proofs.YtihndkplknoabaaDoor
open Go.RowKit
set_option linter.unusedVariables false
set_option linter.unusedSimpArgs false

theorem of_all_n (s a : Int) : ∃ N E : Int, 0 ≤ E ∧ E ≤ 18 ∧
    (∀ w, KT w → Calls Tryd.prog 18 #[.int .i64 s, .int .i64 a, .bool false] w fun e w' => e = .returned (.tuple #[.int .i64 N, .int .i64 E]) ∧ Below w.heap.size w w') ∧
    (∀ w, Calls Tryd.prog 19 #[.int .i64 s, .int .i64 a, .bool false] w fun e w' => e = .returned (.tuple #[.int .i64 N, .int .i64 E]) ∧ Below w.heap.size w w') := by
  by_cases k : Cls s a
  · have h2 := fun w => rof_n s a _ w k rfl
    by_cases h : Sg (ixI s - 1 + 7 * a - 0)
    · unfold ofN ofE at h2
      simp only [if_pos h] at h2
      exact ⟨_, 0, by omega, by omega, fun w hw => ofK_n s a _ w k rfl h hw, h2⟩
    · unfold ofN ofE at h2
      simp only [if_neg h] at h2
      exact ⟨0, 2, by omega, by omega, fun w hw => ofK_rn s a _ w k rfl h hw, h2⟩
  · exact ⟨0, 18, by omega, by omega, fun w hw => ofK_bn s a w k hw, fun w => rof_bn s a w k⟩
set_option maxRecDepth 100000 in
set_option maxHeartbeats 2000000 in
theorem tnLaw1n (f t u : Int) (w : World) (h : ¬ Sg f) (hk : KT w) :
    Calls Tryd.prog 4 #[.int .i64 f, .bool false, .agg #[.int .i64 t, .int .i64 u]] w fun e w' => e = .returned (.bool true) ∧ Below w.heap.size w w' := by
  have B0 := Lib.hid ((Bel.refl w).alloc (.cells #[.int .i64 t, .int .i64 u] 35))
  have K0 := Lib.hid (hk.below ((Below.refl _ _).alloc (Nat.le_refl _) (.cells #[.int .i64 t, .int .i64 u] 35)))
  have X0 := Duo.new w (.int .i64 t) (.int .i64 u) 35 (w.heap.size) (by simp)
  have HP := Lib.hid h
  obtain ⟨N, E, e0, e18, KO, RO⟩ := of_all_n t u
  replace KO := Lib.hid KO
  replace RO := Lib.hid RO
  go_enter Tryd.func4, Tryd.ntmps4
  obtain ⟨xf0, xf1, xf2, xf3, xf4⟩ := id X0
  go_wp2_with fail
  clear xf0 xf1 xf2 xf3 xf4
  refine (tonicK_bn f _ HP.out K0.out).mono ?_
  rintro e w1 ⟨rfl, hb⟩
  have B1 := Lib.hid (B0.out.up hb)
  have K1 := Lib.hid (K0.out.below hb)
  have X1 := X0.up hb
  clear hb B0 K0 X0
  obtain ⟨xf0, xf1, xf2, xf3, xf4⟩ := id X1
  go_wp2_with fail
  clear xf0 xf1 xf2 xf3 xf4
  refine (KO.out _ K1.out).mono ?_
  rintro e w2 ⟨rfl, hb⟩
  have B2 := Lib.hid (B1.out.up hb)
  have K2 := Lib.hid (K1.out.below hb)
  have X2 := X1.up hb
  clear hb B1 K1 X1
  obtain ⟨xf0, xf1, xf2, xf3, xf4⟩ := id X2
  go_wp2_with fail
  clear xf0 xf1 xf2 xf3 xf4
  refine (RO.out _).mono ?_
  rintro e w3 ⟨rfl, hb⟩
  have B3 := Lib.hid (B2.out.up hb)
  have K3 := Lib.hid (K2.out.below hb)
  have X3 := X2.up hb
  clear hb B2 K2 X2
  obtain ⟨xf0, xf1, xf2, xf3, xf4⟩ := id X3
  go_wp2_with fail
  clear xf0 xf1 xf2 xf3 xf4
  refine (known_any _ K3.out).mono ?_
  rintro e w4 ⟨rfl, hb⟩
  have B4 := Lib.hid (B3.out.up hb)
  have K4 := Lib.hid (K3.out.below hb)
  have X4 := X3.up hb
  clear hb B3 K3 X3
  obtain ⟨xf0, xf1, xf2, xf3, xf4⟩ := id X4
  go_wp2_with fail
  clear xf0 xf1 xf2 xf3 xf4
  refine (isK_bad f _ HP.out).mono ?_
  rintro e w5 ⟨rfl, hb⟩
  have B5 := Lib.hid (B4.out.up hb)
  have K5 := Lib.hid (K4.out.below hb)
  have X5 := X4.up hb
  clear hb B4 K4 X4
  obtain ⟨xf0, xf1, xf2, xf3, xf4⟩ := id X5
  go_wp2_with fail
  all_goals
    go_ret
    exact ⟨by first | rfl | (simp; done), B5.out.out⟩
set_option maxRecDepth 100000 in
set_option maxHeartbeats 2000000 in
theorem tnLaw2n (f t u : Int) (w : World) (h : Sg f) (hk : KT w) :
    Calls Tryd.prog 4 #[.int .i64 f, .bool false, .agg #[.int .i64 t, .int .i64 u]] w fun e w' => e = .returned (.bool true) ∧ Below w.heap.size w w' := by
  have B0 := Lib.hid ((Bel.refl w).alloc (.cells #[.int .i64 t, .int .i64 u] 35))
  have K0 := Lib.hid (hk.below ((Below.refl _ _).alloc (Nat.le_refl _) (.cells #[.int .i64 t, .int .i64 u] 35)))
  have X0 := Duo.new w (.int .i64 t) (.int .i64 u) 35 (w.heap.size) (by simp)
  have HP := Lib.hid h
  obtain ⟨N, E, e0, e18, KO, RO⟩ := of_all_n t u
  replace KO := Lib.hid KO
  replace RO := Lib.hid RO
  have KT1 := fun v hv => tonicK_n f v HP.out hv
  have RT1 := fun v => refTonic_n f v HP.out
  have f0 := h.f0
  have f1 := h.f1
  have c := shI_bd ((f + 1) % 7)
  have k3 := ix_sh (r := (f + 1) % 7) (by omega) (by omega)
  have KB := fun v hv => ofK_n (shI ((f + 1) % 7)) ((f + 1) / 7) f v ⟨c.1, c.2, by omega, by omega⟩ (by rw [k3]; omega) HP.out hv
  clear c k3
  generalize shI ((f + 1) % 7) = G at *
  generalize (f + 1) / 7 = D at *
  replace KT1 := Lib.hid KT1
  replace RT1 := Lib.hid RT1
  replace KB := Lib.hid KB
  go_enter Tryd.func4, Tryd.ntmps4
  obtain ⟨xf0, xf1, xf2, xf3, xf4⟩ := id X0
  go_wp2_with fail
  clear xf0 xf1 xf2 xf3 xf4
  refine (KT1.out _ K0.out).mono ?_
  rintro e w1 ⟨rfl, hb⟩
  have B1 := Lib.hid (B0.out.up hb)
  have K1 := Lib.hid (K0.out.below hb)
  have X1 := X0.up hb
  clear hb B0 K0 X0
  obtain ⟨xf0, xf1, xf2, xf3, xf4⟩ := id X1
  go_wp2_with fail
  clear xf0 xf1 xf2 xf3 xf4
  refine (KO.out _ K1.out).mono ?_
  rintro e w2 ⟨rfl, hb⟩
  have B2 := Lib.hid (B1.out.up hb)
  have K2 := Lib.hid (K1.out.below hb)
  have X2 := X1.up hb
  clear hb B1 K1 X1
  obtain ⟨xf0, xf1, xf2, xf3, xf4⟩ := id X2
  go_wp2_with fail
  clear xf0 xf1 xf2 xf3 xf4
  refine (RO.out _).mono ?_
  rintro e w3 ⟨rfl, hb⟩
  have B3 := Lib.hid (B2.out.up hb)
  have K3 := Lib.hid (K2.out.below hb)
  have X3 := X2.up hb
  clear hb B2 K2 X2
  obtain ⟨xf0, xf1, xf2, xf3, xf4⟩ := id X3
  go_wp2_with fail
  clear xf0 xf1 xf2 xf3 xf4
  refine (known_any _ K3.out).mono ?_
  rintro e w4 ⟨rfl, hb⟩
  have B4 := Lib.hid (B3.out.up hb)
  have K4 := Lib.hid (K3.out.below hb)
  have X4 := X3.up hb
  clear hb B3 K3 X3
  obtain ⟨xf0, xf1, xf2, xf3, xf4⟩ := id X4
  go_wp2_with fail
  clear xf0 xf1 xf2 xf3 xf4
  refine (isK_ok f _ HP.out).mono ?_
  rintro e w5 ⟨rfl, hb⟩
  have B5 := Lib.hid (B4.out.up hb)
  have K5 := Lib.hid (K4.out.below hb)
  have X5 := X4.up hb
  clear hb B4 K4 X4
  obtain ⟨xf0, xf1, xf2, xf3, xf4⟩ := id X5
  go_wp2_with fail
  clear xf0 xf1 xf2 xf3 xf4
  refine (RT1.out _).mono ?_
  rintro e w6 ⟨rfl, hb⟩
  have B6 := Lib.hid (B5.out.up hb)
  have K6 := Lib.hid (K5.out.below hb)
  have X6 := X5.up hb
  clear hb B5 K5 X5
  obtain ⟨xf0, xf1, xf2, xf3, xf4⟩ := id X6
  go_wp2_with fail
  clear xf0 xf1 xf2 xf3 xf4
  refine (KB.out _ K6.out).mono ?_
  rintro e w7 ⟨rfl, hb⟩
  have B7 := Lib.hid (B6.out.up hb)
  have K7 := Lib.hid (K6.out.below hb)
  have X7 := X6.up hb
  clear hb B6 K6 X6
  obtain ⟨xf0, xf1, xf2, xf3, xf4⟩ := id X7
  go_wp2_with fail
  all_goals
    go_ret
    exact ⟨by first | rfl | (simp; done), B7.out.out⟩
theorem of_all_y (s a : Int) : ∃ N E : Int, 0 ≤ E ∧ E ≤ 18 ∧
    (∀ w, KT w → Calls Tryd.prog 18 #[.int .i64 s, .int .i64 a, .bool true] w fun e w' => e = .returned (.tuple #[.int .i64 N, .int .i64 E]) ∧ Below w.heap.size w w') ∧
    (∀ w, Calls Tryd.prog 19 #[.int .i64 s, .int .i64 a, .bool true] w fun e w' => e = .returned (.tuple #[.int .i64 N, .int .i64 E]) ∧ Below w.heap.size w w') := by
  by_cases k : Cls s a
  · have h2 := fun w => rof_y s a _ w k rfl
    by_cases h : Sg (ixI s - 1 + 7 * a - 3)
    · unfold ofN ofE at h2
      simp only [if_pos h] at h2
      exact ⟨_, 0, by omega, by omega, fun w hw => ofK_y s a _ w k rfl h hw, h2⟩
    · unfold ofN ofE at h2
      simp only [if_neg h] at h2
      exact ⟨0, 2, by omega, by omega, fun w hw => ofK_ry s a _ w k rfl h hw, h2⟩
  · exact ⟨0, 18, by omega, by omega, fun w hw => ofK_by s a w k hw, fun w => rof_by s a w k⟩
set_option maxRecDepth 100000 in
set_option maxHeartbeats 2000000 in
theorem tnLaw1y (f t u : Int) (w : World) (h : ¬ Sg f) (hk : KT w) :
    Calls Tryd.prog 4 #[.int .i64 f, .bool true, .agg #[.int .i64 t, .int .i64 u]] w fun e w' => e = .returned (.bool true) ∧ Below w.heap.size w w' := by
  have B0 := Lib.hid ((Bel.refl w).alloc (.cells #[.int .i64 t, .int .i64 u] 35))
  have K0 := Lib.hid (hk.below ((Below.refl _ _).alloc (Nat.le_refl _) (.cells #[.int .i64 t, .int .i64 u] 35)))
  have X0 := Duo.new w (.int .i64 t) (.int .i64 u) 35 (w.heap.size) (by simp)
  have HP := Lib.hid h
  obtain ⟨N, E, e0, e18, KO, RO⟩ := of_all_y t u
  replace KO := Lib.hid KO
  replace RO := Lib.hid RO
  go_enter Tryd.func4, Tryd.ntmps4
  obtain ⟨xf0, xf1, xf2, xf3, xf4⟩ := id X0
  go_wp2_with fail
  clear xf0 xf1 xf2 xf3 xf4
  refine (tonicK_by f _ HP.out K0.out).mono ?_
  rintro e w1 ⟨rfl, hb⟩
  have B1 := Lib.hid (B0.out.up hb)
  have K1 := Lib.hid (K0.out.below hb)
  have X1 := X0.up hb
  clear hb B0 K0 X0
  obtain ⟨xf0, xf1, xf2, xf3, xf4⟩ := id X1
  go_wp2_with fail
  clear xf0 xf1 xf2 xf3 xf4
  refine (KO.out _ K1.out).mono ?_
  rintro e w2 ⟨rfl, hb⟩
  have B2 := Lib.hid (B1.out.up hb)
  have K2 := Lib.hid (K1.out.below hb)
  have X2 := X1.up hb
  clear hb B1 K1 X1
  obtain ⟨xf0, xf1, xf2, xf3, xf4⟩ := id X2
  go_wp2_with fail
  clear xf0 xf1 xf2 xf3 xf4
  refine (RO.out _).mono ?_
  rintro e w3 ⟨rfl, hb⟩
  have B3 := Lib.hid (B2.out.up hb)
  have K3 := Lib.hid (K2.out.below hb)
  have X3 := X2.up hb
  clear hb B2 K2 X2
  obtain ⟨xf0, xf1, xf2, xf3, xf4⟩ := id X3
  go_wp2_with fail
  clear xf0 xf1 xf2 xf3 xf4
  refine (known_any _ K3.out).mono ?_
  rintro e w4 ⟨rfl, hb⟩
  have B4 := Lib.hid (B3.out.up hb)
  have K4 := Lib.hid (K3.out.below hb)
  have X4 := X3.up hb
  clear hb B3 K3 X3
  obtain ⟨xf0, xf1, xf2, xf3, xf4⟩ := id X4
  go_wp2_with fail
  clear xf0 xf1 xf2 xf3 xf4
  refine (isK_bad f _ HP.out).mono ?_
  rintro e w5 ⟨rfl, hb⟩
  have B5 := Lib.hid (B4.out.up hb)
  have K5 := Lib.hid (K4.out.below hb)
  have X5 := X4.up hb
  clear hb B4 K4 X4
  obtain ⟨xf0, xf1, xf2, xf3, xf4⟩ := id X5
  go_wp2_with fail
  all_goals
    go_ret
    exact ⟨by first | rfl | (simp; done), B5.out.out⟩
set_option maxRecDepth 100000 in
set_option maxHeartbeats 2000000 in
theorem tnLaw2y (f t u : Int) (w : World) (h : Sg f) (hk : KT w) :
    Calls Tryd.prog 4 #[.int .i64 f, .bool true, .agg #[.int .i64 t, .int .i64 u]] w fun e w' => e = .returned (.bool true) ∧ Below w.heap.size w w' := by
  have B0 := Lib.hid ((Bel.refl w).alloc (.cells #[.int .i64 t, .int .i64 u] 35))
  have K0 := Lib.hid (hk.below ((Below.refl _ _).alloc (Nat.le_refl _) (.cells #[.int .i64 t, .int .i64 u] 35)))
  have X0 := Duo.new w (.int .i64 t) (.int .i64 u) 35 (w.heap.size) (by simp)
  have HP := Lib.hid h
  obtain ⟨N, E, e0, e18, KO, RO⟩ := of_all_y t u
  replace KO := Lib.hid KO
  replace RO := Lib.hid RO
  have KT1 := fun v hv => tonicK_y f v HP.out hv
  have RT1 := fun v => refTonic_y f v HP.out
  have f0 := h.f0
  have f1 := h.f1
  have c := shI_bd ((f + 3 + 1) % 7)
  have k3 := ix_sh (r := (f + 3 + 1) % 7) (by omega) (by omega)
  have KB := fun v hv => ofK_y (shI ((f + 3 + 1) % 7)) ((f + 3 + 1) / 7) f v ⟨c.1, c.2, by omega, by omega⟩ (by rw [k3]; omega) HP.out hv
  clear c k3
  generalize shI ((f + 3 + 1) % 7) = G at *
  generalize (f + 3 + 1) / 7 = D at *
  replace KT1 := Lib.hid KT1
  replace RT1 := Lib.hid RT1
  replace KB := Lib.hid KB
  go_enter Tryd.func4, Tryd.ntmps4
  obtain ⟨xf0, xf1, xf2, xf3, xf4⟩ := id X0
  go_wp2_with fail
  clear xf0 xf1 xf2 xf3 xf4
  refine (KT1.out _ K0.out).mono ?_
  rintro e w1 ⟨rfl, hb⟩
  have B1 := Lib.hid (B0.out.up hb)
  have K1 := Lib.hid (K0.out.below hb)
  have X1 := X0.up hb
  clear hb B0 K0 X0
  obtain ⟨xf0, xf1, xf2, xf3, xf4⟩ := id X1
  go_wp2_with fail
  clear xf0 xf1 xf2 xf3 xf4
  refine (KO.out _ K1.out).mono ?_
  rintro e w2 ⟨rfl, hb⟩
  have B2 := Lib.hid (B1.out.up hb)
  have K2 := Lib.hid (K1.out.below hb)
  have X2 := X1.up hb
  clear hb B1 K1 X1
  obtain ⟨xf0, xf1, xf2, xf3, xf4⟩ := id X2
  go_wp2_with fail
  clear xf0 xf1 xf2 xf3 xf4
  refine (RO.out _).mono ?_
  rintro e w3 ⟨rfl, hb⟩
  have B3 := Lib.hid (B2.out.up hb)
  have K3 := Lib.hid (K2.out.below hb)
  have X3 := X2.up hb
  clear hb B2 K2 X2
  obtain ⟨xf0, xf1, xf2, xf3, xf4⟩ := id X3
  go_wp2_with fail
  clear xf0 xf1 xf2 xf3 xf4
  refine (known_any _ K3.out).mono ?_
  rintro e w4 ⟨rfl, hb⟩
  have B4 := Lib.hid (B3.out.up hb)
  have K4 := Lib.hid (K3.out.below hb)
  have X4 := X3.up hb
  clear hb B3 K3 X3
  obtain ⟨xf0, xf1, xf2, xf3, xf4⟩ := id X4
  go_wp2_with fail
  clear xf0 xf1 xf2 xf3 xf4
  refine (isK_ok f _ HP.out).mono ?_
  rintro e w5 ⟨rfl, hb⟩
  have B5 := Lib.hid (B4.out.up hb)
  have K5 := Lib.hid (K4.out.below hb)
  have X5 := X4.up hb
  clear hb B4 K4 X4
  obtain ⟨xf0, xf1, xf2, xf3, xf4⟩ := id X5
  go_wp2_with fail
  clear xf0 xf1 xf2 xf3 xf4
  refine (RT1.out _).mono ?_
  rintro e w6 ⟨rfl, hb⟩
  have B6 := Lib.hid (B5.out.up hb)
  have K6 := Lib.hid (K5.out.below hb)
  have X6 := X5.up hb
  clear hb B5 K5 X5
  obtain ⟨xf0, xf1, xf2, xf3, xf4⟩ := id X6
  go_wp2_with fail
  clear xf0 xf1 xf2 xf3 xf4
  refine (KB.out _ K6.out).mono ?_
  rintro e w7 ⟨rfl, hb⟩
  have B7 := Lib.hid (B6.out.up hb)
  have K7 := Lib.hid (K6.out.below hb)
  have X7 := X6.up hb
  clear hb B6 K6 X6
  obtain ⟨xf0, xf1, xf2, xf3, xf4⟩ := id X7
  go_wp2_with fail
  all_goals
    go_ret
    exact ⟨by first | rfl | (simp; done), B7.out.out⟩
theorem law_KeyTonics (f : Int) (c : Bool) (t u : Int) (w : World) (hk : KT w) :
    Calls Tryd.prog 4 #[.int .i64 f, .bool c, .agg #[.int .i64 t, .int .i64 u]] w fun e w' => e = .returned (.bool true) ∧ Below w.heap.size w w' := by
  by_cases h : Sg f
  · cases c
    · exact tnLaw2n f t u w h hk
    · exact tnLaw2y f t u w h hk
  · cases c
    · exact tnLaw1n f t u w h hk
    · exact tnLaw1y f t u w h hk
end Go.Proofs.YtihndkplknoabaaDoor
