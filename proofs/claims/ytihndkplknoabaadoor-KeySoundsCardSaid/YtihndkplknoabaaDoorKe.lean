/- Keys: the examples; the law KeyTransposes. -/
import Derived.Test.YtihndkplknoabaaDoorKd
namespace Go.Proofs.YtihndkplknoabaaDoor
open Go.RowKit
set_option linter.unusedVariables false
set_option linter.unusedSimpArgs false

def Cell3 (w : World) (b : Nat) : Prop := w.cell? ⟨b, 18, none⟩ = some (.int .i64 0) ∧ w.cell? ⟨b, 19, none⟩ = some (.int .i64 1) ∧ w.cell? ⟨b, 20, none⟩ = some (.int .i64 5)
theorem Cell3.up {w w' : World} {b : Nat} (h : Cell3 w b) (hb : Below w.heap.size w w') : Cell3 w' b := ⟨cell_up hb h.1, cell_up hb h.2.1, cell_up hb h.2.2⟩
set_option maxRecDepth 100000 in
set_option maxHeartbeats 2000000 in
theorem known_any  (w : World) (hk : KT w) :
    Calls Tryd.prog 11 #[] w fun e w' => e = .returned (.bool true) ∧ Below w.heap.size w w' := by
  have B0 := Lib.hid (Bel.refl w)
  have K0 := Lib.hid hk
  go_enter Tryd.func11, Tryd.ntmps11
  go_wp2_with fail
  refine (sigK_known _ K0.out).mono ?_
  rintro e w1 ⟨b, rfl, c0, c1, hb⟩
  have L1 := Lib.hid (show Row1 w1 b [3, 0] from fun k x hx => by
    match k, hx with
    | 0, hx => simp at hx; subst hx; exact c0
    | 1, hx => simp at hx; subst hx; exact c1)
  clear c0 c1
  have B1 := Lib.hid (B0.out.up hb)
  have K1 := Lib.hid (K0.out.below hb)
  clear hb B0 K0 
  go_wp2_with fail
  refine (name_known _ K1.out).mono ?_
  rintro e w2 ⟨rfl, hb⟩
  have B2 := Lib.hid (B1.out.up hb)
  have K2 := Lib.hid (K1.out.below hb)
  have L2 := Lib.hid (L1.out.up hb)
  clear hb B1 K1 L1 
  go_wp2_with fail
  refine (scale_known _ K2.out).mono ?_
  rintro e w3 ⟨b2, rfl, d0, d1, d2, hb⟩
  have M3 := Lib.hid (show Cell3 w3 b2 from ⟨d0, d1, d2⟩)
  clear d0 d1 d2
  have B3 := Lib.hid (B2.out.up hb)
  have K3 := Lib.hid (K2.out.below hb)
  have L3 := Lib.hid (L2.out.up hb)
  clear hb B2 K2 L2 
  go_wp2_with fail
  refine (transK_ok 7 1 2 _ (by decide) (by decide)).mono ?_
  rintro e w4 ⟨rfl, hb⟩
  rw [show redK (7 + 7 * 2 + -12 * 1) = -3 from by decide]
  have B4 := Lib.hid (B3.out.up hb)
  have K4 := Lib.hid (K3.out.below hb)
  have L4 := Lib.hid (L3.out.up hb)
  have M4 := Lib.hid (M3.out.up hb)
  clear hb B3 K3 L3 M3 
  have c0 := L4.out 0 3 rfl
  have c1 := L4.out 1 0 rfl
  obtain ⟨d0, d1, d2⟩ := M4.out
  go_wp2_with fail
  try (go_quiet (fail); go_wp2_with fail)
  go_ret
  exact ⟨by first | rfl | (simp; done), by first | exact B4.out.out | exact below_drewN B4.out.out _⟩
set_option maxRecDepth 100000 in
set_option maxHeartbeats 2000000 in
theorem ktLaw1 (f t m : Int) (w : World) (h : ¬ Sg f) (hk : KT w) :
    Calls Tryd.prog 5 #[.int .i64 f, .agg #[.int .i64 t, .int .i64 m]] w fun e w' => e = .returned (.bool true) ∧ Below w.heap.size w w' := by
  have B0 := Lib.hid ((Bel.refl w).alloc (.cells #[.int .i64 t, .int .i64 m] 44))
  have K0 := Lib.hid (hk.below ((Below.refl _ _).alloc (Nat.le_refl _) (.cells #[.int .i64 t, .int .i64 m] 44)))
  have X0 := Duo.new w (.int .i64 t) (.int .i64 m) 44 (w.heap.size) (by simp)
  have HP := Lib.hid h
  go_enter Tryd.func5, Tryd.ntmps5
  obtain ⟨xf0, xf1, xf2, xf3, xf4⟩ := id X0
  go_wp2_with fail
  clear xf0 xf1 xf2 xf3 xf4
  refine (transK_b1 f t m _ HP.out).mono ?_
  rintro e w1 ⟨rfl, hb⟩
  have B1 := Lib.hid (B0.out.up hb)
  have K1 := Lib.hid (K0.out.below hb)
  have X1 := X0.up hb
  clear hb B0 K0 X0
  obtain ⟨xf0, xf1, xf2, xf3, xf4⟩ := id X1
  go_wp2_with fail
  clear xf0 xf1 xf2 xf3 xf4
  refine (known_any _ K1.out).mono ?_
  rintro e w2 ⟨rfl, hb⟩
  have B2 := Lib.hid (B1.out.up hb)
  have K2 := Lib.hid (K1.out.below hb)
  have X2 := X1.up hb
  clear hb B1 K1 X1
  obtain ⟨xf0, xf1, xf2, xf3, xf4⟩ := id X2
  go_wp2_with fail
  clear xf0 xf1 xf2 xf3 xf4
  refine (isK_bad f _ HP.out).mono ?_
  rintro e w3 ⟨rfl, hb⟩
  have B3 := Lib.hid (B2.out.up hb)
  have K3 := Lib.hid (K2.out.below hb)
  have X3 := X2.up hb
  clear hb B2 K2 X2
  obtain ⟨xf0, xf1, xf2, xf3, xf4⟩ := id X3
  go_wp2_with fail
  go_ret
  exact ⟨by first | rfl | (simp; done), B3.out.out⟩
set_option maxRecDepth 100000 in
set_option maxHeartbeats 2000000 in
theorem ktLaw2 (f t m : Int) (w : World) (h : Sg f) (k : ¬ Iv t m) (hk : KT w) :
    Calls Tryd.prog 5 #[.int .i64 f, .agg #[.int .i64 t, .int .i64 m]] w fun e w' => e = .returned (.bool true) ∧ Below w.heap.size w w' := by
  have B0 := Lib.hid ((Bel.refl w).alloc (.cells #[.int .i64 t, .int .i64 m] 44))
  have K0 := Lib.hid (hk.below ((Below.refl _ _).alloc (Nat.le_refl _) (.cells #[.int .i64 t, .int .i64 m] 44)))
  have X0 := Duo.new w (.int .i64 t) (.int .i64 m) 44 (w.heap.size) (by simp)
  have HP := Lib.hid h
  have HQ := Lib.hid k
  go_enter Tryd.func5, Tryd.ntmps5
  obtain ⟨xf0, xf1, xf2, xf3, xf4⟩ := id X0
  go_wp2_with fail
  clear xf0 xf1 xf2 xf3 xf4
  refine (transK_b2 f t m _ HP.out HQ.out).mono ?_
  rintro e w1 ⟨rfl, hb⟩
  have B1 := Lib.hid (B0.out.up hb)
  have K1 := Lib.hid (K0.out.below hb)
  have X1 := X0.up hb
  clear hb B0 K0 X0
  obtain ⟨xf0, xf1, xf2, xf3, xf4⟩ := id X1
  go_wp2_with fail
  clear xf0 xf1 xf2 xf3 xf4
  refine (known_any _ K1.out).mono ?_
  rintro e w2 ⟨rfl, hb⟩
  have B2 := Lib.hid (B1.out.up hb)
  have K2 := Lib.hid (K1.out.below hb)
  have X2 := X1.up hb
  clear hb B1 K1 X1
  obtain ⟨xf0, xf1, xf2, xf3, xf4⟩ := id X2
  go_wp2_with fail
  clear xf0 xf1 xf2 xf3 xf4
  refine (isK_ok f _ HP.out).mono ?_
  rintro e w3 ⟨rfl, hb⟩
  have B3 := Lib.hid (B2.out.up hb)
  have K3 := Lib.hid (K2.out.below hb)
  have X3 := X2.up hb
  clear hb B2 K2 X2
  obtain ⟨xf0, xf1, xf2, xf3, xf4⟩ := id X3
  go_wp2_with fail
  clear xf0 xf1 xf2 xf3 xf4
  refine (rtransK_b f t m _ HQ.out).mono ?_
  rintro e w4 ⟨rfl, hb⟩
  have B4 := Lib.hid (B3.out.up hb)
  have K4 := Lib.hid (K3.out.below hb)
  have X4 := X3.up hb
  clear hb B3 K3 X3
  obtain ⟨xf0, xf1, xf2, xf3, xf4⟩ := id X4
  go_wp2_with fail
  go_ret
  exact ⟨by first | rfl | (simp; done), B4.out.out⟩
set_option maxRecDepth 100000 in
set_option maxHeartbeats 2000000 in
theorem ktLaw3 (f t m R : Int) (w : World) (h : Sg f) (k : Iv t m) (hR : redK (f + 7 * m + -12 * t) = R) (hk : KT w) :
    Calls Tryd.prog 5 #[.int .i64 f, .agg #[.int .i64 t, .int .i64 m]] w fun e w' => e = .returned (.bool true) ∧ Below w.heap.size w w' := by
  have B0 := Lib.hid ((Bel.refl w).alloc (.cells #[.int .i64 t, .int .i64 m] 44))
  have K0 := Lib.hid (hk.below ((Below.refl _ _).alloc (Nat.le_refl _) (.cells #[.int .i64 t, .int .i64 m] 44)))
  have X0 := Duo.new w (.int .i64 t) (.int .i64 m) 44 (w.heap.size) (by simp)
  have HP := Lib.hid h
  have HQ := Lib.hid k
  have KA := fun v' => transK_ok f t m v' h k
  have KB := fun v' => rtransK_ok f t m v' h k
  rw [hR] at KA KB
  have sR : Sg R := by have := red_bd (f + 7 * m + -12 * t); rw [hR] at this; exact ⟨this.1, this.2⟩
  have iN : Iv (-t) (-m) := ⟨by have := k.t1; omega, by have := k.t0; omega, by have := k.m1; omega, by have := k.m0; omega⟩
  have KC := fun v' => transK_ok R (-t) (-m) v' sR iN
  have hB : R = f + 7 * m - 12 * t → redK (R + 7 * -m + -12 * -t) = f := fun e => by rw [show R + 7 * -m + -12 * -t = f by omega]; exact red_in h.f0 h.f1
  generalize redK (R + 7 * -m + -12 * -t) = BK at KC hB
  replace KA := Lib.hid KA
  replace KB := Lib.hid KB
  replace KC := Lib.hid KC
  obtain ⟨f0, f1⟩ := h
  obtain ⟨t0, t1, m0, m1⟩ := k
  obtain ⟨r0, r1⟩ := sR
  clear hR iN
  go_enter Tryd.func5, Tryd.ntmps5
  obtain ⟨xf0, xf1, xf2, xf3, xf4⟩ := id X0
  go_wp2_with fail
  clear xf0 xf1 xf2 xf3 xf4
  refine (KA.out _).mono ?_
  rintro e w1 ⟨rfl, hb⟩
  have B1 := Lib.hid (B0.out.up hb)
  have K1 := Lib.hid (K0.out.below hb)
  have X1 := X0.up hb
  clear hb B0 K0 X0
  obtain ⟨xf0, xf1, xf2, xf3, xf4⟩ := id X1
  go_wp2_with fail
  clear xf0 xf1 xf2 xf3 xf4
  refine (known_any _ K1.out).mono ?_
  rintro e w2 ⟨rfl, hb⟩
  have B2 := Lib.hid (B1.out.up hb)
  have K2 := Lib.hid (K1.out.below hb)
  have X2 := X1.up hb
  clear hb B1 K1 X1
  obtain ⟨xf0, xf1, xf2, xf3, xf4⟩ := id X2
  go_wp2_with fail
  clear xf0 xf1 xf2 xf3 xf4
  refine (isK_ok f _ HP.out).mono ?_
  rintro e w3 ⟨rfl, hb⟩
  have B3 := Lib.hid (B2.out.up hb)
  have K3 := Lib.hid (K2.out.below hb)
  have X3 := X2.up hb
  clear hb B2 K2 X2
  obtain ⟨xf0, xf1, xf2, xf3, xf4⟩ := id X3
  go_wp2_with fail
  clear xf0 xf1 xf2 xf3 xf4
  refine (KB.out _).mono ?_
  rintro e w4 ⟨rfl, hb⟩
  have B4 := Lib.hid (B3.out.up hb)
  have K4 := Lib.hid (K3.out.below hb)
  have X4 := X3.up hb
  clear hb B3 K3 X3
  obtain ⟨xf0, xf1, xf2, xf3, xf4⟩ := id X4
  go_wp2_with fail
  clear xf0 xf1 xf2 xf3 xf4
  refine (KC.out _).mono ?_
  rintro e w5 ⟨rfl, hb⟩
  have B5 := Lib.hid (B4.out.up hb)
  have K5 := Lib.hid (K4.out.below hb)
  have X5 := X4.up hb
  clear hb B4 K4 X4
  obtain ⟨xf0, xf1, xf2, xf3, xf4⟩ := id X5
  by_cases e : R = f + 7 * m - 12 * t
  · have eB := hB e
    clear hB
    go_wp2_with fail
    try (go_quiet (fail); go_wp2_with fail)
    go_ret
    exact ⟨by first | rfl | (simp; done) | (simp; omega), by first | exact B5.out.out | exact below_drewN B5.out.out _⟩
  · clear hB
    have e' : (R != f + 7 * m - 12 * t) = true := by simpa using e
    go_wp2_with fail
    all_goals
      go_ret
      exact ⟨by first | rfl | (simp [e', e]; done) | (simp; omega), by first | exact B5.out.out | exact below_drewN B5.out.out _⟩
theorem law_KeyTransposes (f t m : Int) (w : World) (hk : KT w) :
    Calls Tryd.prog 5 #[.int .i64 f, .agg #[.int .i64 t, .int .i64 m]] w fun e w' => e = .returned (.bool true) ∧ Below w.heap.size w w' := by
  by_cases h : Sg f
  · by_cases k : Iv t m
    · exact ktLaw3 f t m _ w h k rfl hk
    · exact ktLaw2 f t m w h k hk
  · exact ktLaw1 f t m w h hk
end Go.Proofs.YtihndkplknoabaaDoor
