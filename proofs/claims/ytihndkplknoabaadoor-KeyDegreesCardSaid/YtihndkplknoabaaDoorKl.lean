/- The law KeyDegrees. -/
import Derived.Test.YtihndkplknoabaaDoorKe
import Derived.Test.YtihndkplknoabaaDoorKk
import Derived.Deep.RegionWith
namespace Go.Proofs.YtihndkplknoabaaDoor
open Go.RowKit
set_option linter.unusedVariables false
set_option linter.unusedSimpArgs false

set_option maxRecDepth 100000 in
set_option maxHeartbeats 2000000 in
theorem kdLaw1 (f s a o : Int) (w : World) (h : ¬ Sg f) (hk : KT w) :
    Calls Tryd.prog 7 #[.int .i64 f, .agg #[.int .i64 s, .int .i64 a, .int .i64 o]] w fun e w' => e = .returned (.bool true) ∧ Below w.heap.size w w' := by
  have B0 := Lib.hid ((Bel.refl w).alloc (.cells #[.int .i64 s, .int .i64 a, .int .i64 o] 54))
  have K0 := Lib.hid (hk.below ((Below.refl _ _).alloc (Nat.le_refl _) (.cells #[.int .i64 s, .int .i64 a, .int .i64 o] 54)))
  have X0 := Tri.new w (.int .i64 s) (.int .i64 a) (.int .i64 o) 54 (w.heap.size) (by simp)
  have HP := Lib.hid h
  go_enter Tryd.func7, Tryd.ntmps7
  obtain ⟨xf0, xf1, xf2, xf3, xf4, xf5, xf6⟩ := id X0
  go_wp2_with fail
  clear xf0 xf1 xf2 xf3 xf4 xf5 xf6
  refine (deg_b1 f s a o _ HP.out K0.out).mono ?_
  rintro e w1 ⟨rfl, hb⟩
  have B1 := Lib.hid (B0.out.up hb)
  have K1 := Lib.hid (K0.out.below hb)
  have X1 := X0.up hb
  clear hb B0 K0 X0
  obtain ⟨xf0, xf1, xf2, xf3, xf4, xf5, xf6⟩ := id X1
  go_wp2_with fail
  clear xf0 xf1 xf2 xf3 xf4 xf5 xf6
  refine (diat_b1 f s a o _ HP.out K1.out).mono ?_
  rintro e w2 ⟨rfl, hb⟩
  have B2 := Lib.hid (B1.out.up hb)
  have K2 := Lib.hid (K1.out.below hb)
  have X2 := X1.up hb
  clear hb B1 K1 X1
  obtain ⟨xf0, xf1, xf2, xf3, xf4, xf5, xf6⟩ := id X2
  go_wp2_with fail
  clear xf0 xf1 xf2 xf3 xf4 xf5 xf6
  refine (known_any _ K2.out).mono ?_
  rintro e w3 ⟨rfl, hb⟩
  have B3 := Lib.hid (B2.out.up hb)
  have K3 := Lib.hid (K2.out.below hb)
  have X3 := X2.up hb
  clear hb B2 K2 X2
  obtain ⟨xf0, xf1, xf2, xf3, xf4, xf5, xf6⟩ := id X3
  go_wp2_with fail
  clear xf0 xf1 xf2 xf3 xf4 xf5 xf6
  refine (isK_bad f _ HP.out).mono ?_
  rintro e w4 ⟨rfl, hb⟩
  have B4 := Lib.hid (B3.out.up hb)
  have K4 := Lib.hid (K3.out.below hb)
  have X4 := X3.up hb
  clear hb B3 K3 X3
  obtain ⟨xf0, xf1, xf2, xf3, xf4, xf5, xf6⟩ := id X4
  go_wp2_with fail
  go_ret
  exact ⟨by first | rfl | (simp; done), B4.out.out⟩
set_option maxRecDepth 100000 in
set_option maxHeartbeats 2000000 in
theorem kdLaw2 (f s a o : Int) (w : World) (h : Sg f) (k : s < 0 ∨ 6 < s) (hk : KT w) :
    Calls Tryd.prog 7 #[.int .i64 f, .agg #[.int .i64 s, .int .i64 a, .int .i64 o]] w fun e w' => e = .returned (.bool true) ∧ Below w.heap.size w w' := by
  have B0 := Lib.hid ((Bel.refl w).alloc (.cells #[.int .i64 s, .int .i64 a, .int .i64 o] 54))
  have K0 := Lib.hid (hk.below ((Below.refl _ _).alloc (Nat.le_refl _) (.cells #[.int .i64 s, .int .i64 a, .int .i64 o] 54)))
  have X0 := Tri.new w (.int .i64 s) (.int .i64 a) (.int .i64 o) 54 (w.heap.size) (by simp)
  have HP := Lib.hid h
  have HQ := Lib.hid k
  go_enter Tryd.func7, Tryd.ntmps7
  obtain ⟨xf0, xf1, xf2, xf3, xf4, xf5, xf6⟩ := id X0
  go_wp2_with fail
  clear xf0 xf1 xf2 xf3 xf4 xf5 xf6
  refine (deg_b2 f s a o _ HP.out (fun c => by have := c.s0; have := c.s1; omega) K0.out).mono ?_
  rintro e w1 ⟨rfl, hb⟩
  have B1 := Lib.hid (B0.out.up hb)
  have K1 := Lib.hid (K0.out.below hb)
  have X1 := X0.up hb
  clear hb B0 K0 X0
  obtain ⟨xf0, xf1, xf2, xf3, xf4, xf5, xf6⟩ := id X1
  go_wp2_with fail
  clear xf0 xf1 xf2 xf3 xf4 xf5 xf6
  refine (diat_b2 f s a o _ HP.out HQ.out K1.out).mono ?_
  rintro e w2 ⟨rfl, hb⟩
  have B2 := Lib.hid (B1.out.up hb)
  have K2 := Lib.hid (K1.out.below hb)
  have X2 := X1.up hb
  clear hb B1 K1 X1
  obtain ⟨xf0, xf1, xf2, xf3, xf4, xf5, xf6⟩ := id X2
  go_wp2_with fail
  clear xf0 xf1 xf2 xf3 xf4 xf5 xf6
  refine (known_any _ K2.out).mono ?_
  rintro e w3 ⟨rfl, hb⟩
  have B3 := Lib.hid (B2.out.up hb)
  have K3 := Lib.hid (K2.out.below hb)
  have X3 := X2.up hb
  clear hb B2 K2 X2
  obtain ⟨xf0, xf1, xf2, xf3, xf4, xf5, xf6⟩ := id X3
  go_wp2_with fail
  clear xf0 xf1 xf2 xf3 xf4 xf5 xf6
  refine (isK_ok f _ HP.out).mono ?_
  rintro e w4 ⟨rfl, hb⟩
  have B4 := Lib.hid (B3.out.up hb)
  have K4 := Lib.hid (K3.out.below hb)
  have X4 := X3.up hb
  clear hb B3 K3 X3
  obtain ⟨xf0, xf1, xf2, xf3, xf4, xf5, xf6⟩ := id X4
  go_wp2_with fail
  all_goals
    go_ret
    exact ⟨by first | rfl | (simp; done), B4.out.out⟩
set_option maxRecDepth 100000 in
set_option maxHeartbeats 2000000 in
theorem kdLaw3 (f s a o : Int) (w : World) (h : Sg f) (s0 : 0 ≤ s) (s1 : s ≤ 6) (k : a < -2 ∨ 2 < a) (hk : KT w) :
    Calls Tryd.prog 7 #[.int .i64 f, .agg #[.int .i64 s, .int .i64 a, .int .i64 o]] w fun e w' => e = .returned (.bool true) ∧ Below w.heap.size w w' := by
  have B0 := Lib.hid ((Bel.refl w).alloc (.cells #[.int .i64 s, .int .i64 a, .int .i64 o] 54))
  have K0 := Lib.hid (hk.below ((Below.refl _ _).alloc (Nat.le_refl _) (.cells #[.int .i64 s, .int .i64 a, .int .i64 o] 54)))
  have X0 := Tri.new w (.int .i64 s) (.int .i64 a) (.int .i64 o) 54 (w.heap.size) (by simp)
  have HP := Lib.hid h
  have HQ := Lib.hid k
  go_enter Tryd.func7, Tryd.ntmps7
  obtain ⟨xf0, xf1, xf2, xf3, xf4, xf5, xf6⟩ := id X0
  go_wp2_with fail
  clear xf0 xf1 xf2 xf3 xf4 xf5 xf6
  refine (deg_b2 f s a o _ HP.out (fun c => by have := c.a0; have := c.a1; omega) K0.out).mono ?_
  rintro e w1 ⟨rfl, hb⟩
  have B1 := Lib.hid (B0.out.up hb)
  have K1 := Lib.hid (K0.out.below hb)
  have X1 := X0.up hb
  clear hb B0 K0 X0
  obtain ⟨xf0, xf1, xf2, xf3, xf4, xf5, xf6⟩ := id X1
  go_wp2_with fail
  clear xf0 xf1 xf2 xf3 xf4 xf5 xf6
  refine (diat_ok f s a o _ HP.out s0 s1 K1.out).mono ?_
  rintro e w2 ⟨rfl, hb⟩
  rw [show decide (a = alI f s) = false by have := alI_bd f s; simp; omega]
  have B2 := Lib.hid (B1.out.up hb)
  have K2 := Lib.hid (K1.out.below hb)
  have X2 := X1.up hb
  clear hb B1 K1 X1
  obtain ⟨xf0, xf1, xf2, xf3, xf4, xf5, xf6⟩ := id X2
  go_wp2_with fail
  clear xf0 xf1 xf2 xf3 xf4 xf5 xf6
  refine (known_any _ K2.out).mono ?_
  rintro e w3 ⟨rfl, hb⟩
  have B3 := Lib.hid (B2.out.up hb)
  have K3 := Lib.hid (K2.out.below hb)
  have X3 := X2.up hb
  clear hb B2 K2 X2
  obtain ⟨xf0, xf1, xf2, xf3, xf4, xf5, xf6⟩ := id X3
  go_wp2_with fail
  clear xf0 xf1 xf2 xf3 xf4 xf5 xf6
  refine (isK_ok f _ HP.out).mono ?_
  rintro e w4 ⟨rfl, hb⟩
  have B4 := Lib.hid (B3.out.up hb)
  have K4 := Lib.hid (K3.out.below hb)
  have X4 := X3.up hb
  clear hb B3 K3 X3
  obtain ⟨xf0, xf1, xf2, xf3, xf4, xf5, xf6⟩ := id X4
  go_wp2_with fail
  all_goals
    go_ret
    exact ⟨by first | rfl | (simp; done), B4.out.out⟩
set_option maxRecDepth 100000 in
set_option maxHeartbeats 2000000 in
theorem kdLaw4 (f s a o : Int) (w : World) (h : Sg f) (k : Cls s a) (e : a = alI f s) (hk : KT w) :
    Calls Tryd.prog 7 #[.int .i64 f, .agg #[.int .i64 s, .int .i64 a, .int .i64 o]] w fun e w' => e = .returned (.bool true) ∧ Below w.heap.size w w' := by
  have B0 := Lib.hid ((Bel.refl w).alloc (.cells #[.int .i64 s, .int .i64 a, .int .i64 o] 54))
  have K0 := Lib.hid (hk.below ((Below.refl _ _).alloc (Nat.le_refl _) (.cells #[.int .i64 s, .int .i64 a, .int .i64 o] 54)))
  have X0 := Tri.new w (.int .i64 s) (.int .i64 a) (.int .i64 o) 54 (w.heap.size) (by simp)
  have HP := Lib.hid h
  have HQ := Lib.hid k
  obtain ⟨sb0, sb1⟩ := shI_bd ((f + 1) % 7)
  obtain ⟨al0, al1⟩ := alI_bd f s
  obtain ⟨s0, s1, a0, a1⟩ := k
  have KD := fun v hv => deg_ok f s a o v HP.out HQ.out hv
  have KI := fun v hv => diat_ok f s a o v HP.out s0 s1 hv
  have KR := fun v => refTonic_n f v HP.out
  have KA := fun v => refAlter_ok f s v HP.out
  rw [show decide (a = alI f s) = true by simpa using e] at KI
  obtain ⟨G, hT⟩ : ∃ G, shI ((f + 1) % 7) = G := ⟨_, rfl⟩
  obtain ⟨A, hA⟩ : ∃ A, alI f s = A := ⟨_, rfl⟩
  obtain ⟨D, hD⟩ : ∃ D, (f + 1) / 7 = D := ⟨_, rfl⟩
  simp only [hT, hD] at sb0 sb1 KR
  simp only [hT, hA] at KD
  simp only [hA] at al0 al1 KA
  rw [hA] at e
  have e1 : (a - A == 0) = true := by simp; omega
  have e2 := Lib.hid e
  clear hT hA hD e
  replace KD := Lib.hid KD
  replace KI := Lib.hid KI
  replace KR := Lib.hid KR
  replace KA := Lib.hid KA
  go_enter Tryd.func7, Tryd.ntmps7
  obtain ⟨xf0, xf1, xf2, xf3, xf4, xf5, xf6⟩ := id X0
  go_wp2_with fail
  clear xf0 xf1 xf2 xf3 xf4 xf5 xf6
  refine (KD.out _ K0.out).mono ?_
  rintro e w1 ⟨rfl, hb⟩
  have B1 := Lib.hid (B0.out.up hb)
  have K1 := Lib.hid (K0.out.below hb)
  have X1 := X0.up hb
  clear hb B0 K0 X0
  obtain ⟨xf0, xf1, xf2, xf3, xf4, xf5, xf6⟩ := id X1
  go_wp2_with fail
  clear xf0 xf1 xf2 xf3 xf4 xf5 xf6
  refine (KI.out _ K1.out).mono ?_
  rintro e w2 ⟨rfl, hb⟩
  have B2 := Lib.hid (B1.out.up hb)
  have K2 := Lib.hid (K1.out.below hb)
  have X2 := X1.up hb
  clear hb B1 K1 X1
  obtain ⟨xf0, xf1, xf2, xf3, xf4, xf5, xf6⟩ := id X2
  go_wp2_with fail
  clear xf0 xf1 xf2 xf3 xf4 xf5 xf6
  refine (known_any _ K2.out).mono ?_
  rintro e w3 ⟨rfl, hb⟩
  have B3 := Lib.hid (B2.out.up hb)
  have K3 := Lib.hid (K2.out.below hb)
  have X3 := X2.up hb
  clear hb B2 K2 X2
  obtain ⟨xf0, xf1, xf2, xf3, xf4, xf5, xf6⟩ := id X3
  go_wp2_with fail
  clear xf0 xf1 xf2 xf3 xf4 xf5 xf6
  refine (isK_ok f _ HP.out).mono ?_
  rintro e w4 ⟨rfl, hb⟩
  have B4 := Lib.hid (B3.out.up hb)
  have K4 := Lib.hid (K3.out.below hb)
  have X4 := X3.up hb
  clear hb B3 K3 X3
  obtain ⟨xf0, xf1, xf2, xf3, xf4, xf5, xf6⟩ := id X4
  go_wp2_with fail
  clear xf0 xf1 xf2 xf3 xf4 xf5 xf6
  refine (KR.out _).mono ?_
  rintro e w5 ⟨rfl, hb⟩
  have B5 := Lib.hid (B4.out.up hb)
  have K5 := Lib.hid (K4.out.below hb)
  have X5 := X4.up hb
  clear hb B4 K4 X4
  obtain ⟨xf0, xf1, xf2, xf3, xf4, xf5, xf6⟩ := id X5
  go_wp2_with fail
  clear xf0 xf1 xf2 xf3 xf4 xf5 xf6
  refine Qt.regionAll (by kernel_rfl) (by kernel_rfl) ?_
  intro T f F hne
  have RB := Lib.hid (fun g => B5.out.up (F.below g))
  have RK := Lib.hid (fun g => K5.out.below (F.below g))
  have RX := fun g => X5.up (F.below g)
  have RX0 := fun g => (RX g).c0
  have RX1 := fun g => (RX g).c1
  have RX2 := fun g => (RX g).c2
  repeat (go_big_quiet_step (first | (go_at_call 16; with_reducible exact F.call (KA.out _))))
  refine wpQuiet_nil ?_
  rintro _ ⟨g, rfl⟩
  have B6 := Lib.hid (RB.out g)
  have K6 := Lib.hid (RK.out g)
  have X6 := RX g
  clear F RB hne RK RX RX0 RX1 RX2 B5 K5 X5
  generalize f g = w6 at *
  clear f
  obtain ⟨xf0, xf1, xf2, xf3, xf4, xf5, xf6⟩ := id X6
  go_wp2_with fail
  all_goals
    go_ret
    exact ⟨by first | rfl | (simp; done) | (simp [e1]; done) | (simp; omega), B6.out.out⟩
set_option maxRecDepth 100000 in
set_option maxHeartbeats 2000000 in
theorem kdLaw5 (f s a o : Int) (w : World) (h : Sg f) (k : Cls s a) (e : a ≠ alI f s) (hk : KT w) :
    Calls Tryd.prog 7 #[.int .i64 f, .agg #[.int .i64 s, .int .i64 a, .int .i64 o]] w fun e w' => e = .returned (.bool true) ∧ Below w.heap.size w w' := by
  have B0 := Lib.hid ((Bel.refl w).alloc (.cells #[.int .i64 s, .int .i64 a, .int .i64 o] 54))
  have K0 := Lib.hid (hk.below ((Below.refl _ _).alloc (Nat.le_refl _) (.cells #[.int .i64 s, .int .i64 a, .int .i64 o] 54)))
  have X0 := Tri.new w (.int .i64 s) (.int .i64 a) (.int .i64 o) 54 (w.heap.size) (by simp)
  have HP := Lib.hid h
  have HQ := Lib.hid k
  obtain ⟨sb0, sb1⟩ := shI_bd ((f + 1) % 7)
  obtain ⟨al0, al1⟩ := alI_bd f s
  obtain ⟨s0, s1, a0, a1⟩ := k
  have KD := fun v hv => deg_ok f s a o v HP.out HQ.out hv
  have KI := fun v hv => diat_ok f s a o v HP.out s0 s1 hv
  have KR := fun v => refTonic_n f v HP.out
  have KA := fun v => refAlter_ok f s v HP.out
  rw [show decide (a = alI f s) = false by simpa using e] at KI
  obtain ⟨G, hT⟩ : ∃ G, shI ((f + 1) % 7) = G := ⟨_, rfl⟩
  obtain ⟨A, hA⟩ : ∃ A, alI f s = A := ⟨_, rfl⟩
  obtain ⟨D, hD⟩ : ∃ D, (f + 1) / 7 = D := ⟨_, rfl⟩
  simp only [hT, hD] at sb0 sb1 KR
  simp only [hT, hA] at KD
  simp only [hA] at al0 al1 KA
  rw [hA] at e
  have e1 : (a - A == 0) = false := by simp; omega
  have e2 := Lib.hid e
  clear hT hA hD e
  replace KD := Lib.hid KD
  replace KI := Lib.hid KI
  replace KR := Lib.hid KR
  replace KA := Lib.hid KA
  go_enter Tryd.func7, Tryd.ntmps7
  obtain ⟨xf0, xf1, xf2, xf3, xf4, xf5, xf6⟩ := id X0
  go_wp2_with fail
  clear xf0 xf1 xf2 xf3 xf4 xf5 xf6
  refine (KD.out _ K0.out).mono ?_
  rintro e w1 ⟨rfl, hb⟩
  have B1 := Lib.hid (B0.out.up hb)
  have K1 := Lib.hid (K0.out.below hb)
  have X1 := X0.up hb
  clear hb B0 K0 X0
  obtain ⟨xf0, xf1, xf2, xf3, xf4, xf5, xf6⟩ := id X1
  go_wp2_with fail
  clear xf0 xf1 xf2 xf3 xf4 xf5 xf6
  refine (KI.out _ K1.out).mono ?_
  rintro e w2 ⟨rfl, hb⟩
  have B2 := Lib.hid (B1.out.up hb)
  have K2 := Lib.hid (K1.out.below hb)
  have X2 := X1.up hb
  clear hb B1 K1 X1
  obtain ⟨xf0, xf1, xf2, xf3, xf4, xf5, xf6⟩ := id X2
  go_wp2_with fail
  clear xf0 xf1 xf2 xf3 xf4 xf5 xf6
  refine (known_any _ K2.out).mono ?_
  rintro e w3 ⟨rfl, hb⟩
  have B3 := Lib.hid (B2.out.up hb)
  have K3 := Lib.hid (K2.out.below hb)
  have X3 := X2.up hb
  clear hb B2 K2 X2
  obtain ⟨xf0, xf1, xf2, xf3, xf4, xf5, xf6⟩ := id X3
  go_wp2_with fail
  clear xf0 xf1 xf2 xf3 xf4 xf5 xf6
  refine (isK_ok f _ HP.out).mono ?_
  rintro e w4 ⟨rfl, hb⟩
  have B4 := Lib.hid (B3.out.up hb)
  have K4 := Lib.hid (K3.out.below hb)
  have X4 := X3.up hb
  clear hb B3 K3 X3
  obtain ⟨xf0, xf1, xf2, xf3, xf4, xf5, xf6⟩ := id X4
  go_wp2_with fail
  clear xf0 xf1 xf2 xf3 xf4 xf5 xf6
  refine (KR.out _).mono ?_
  rintro e w5 ⟨rfl, hb⟩
  have B5 := Lib.hid (B4.out.up hb)
  have K5 := Lib.hid (K4.out.below hb)
  have X5 := X4.up hb
  clear hb B4 K4 X4
  obtain ⟨xf0, xf1, xf2, xf3, xf4, xf5, xf6⟩ := id X5
  go_wp2_with fail
  clear xf0 xf1 xf2 xf3 xf4 xf5 xf6
  refine Qt.regionAll (by kernel_rfl) (by kernel_rfl) ?_
  intro T f F hne
  have RB := Lib.hid (fun g => B5.out.up (F.below g))
  have RK := Lib.hid (fun g => K5.out.below (F.below g))
  have RX := fun g => X5.up (F.below g)
  have RX0 := fun g => (RX g).c0
  have RX1 := fun g => (RX g).c1
  have RX2 := fun g => (RX g).c2
  repeat (go_big_quiet_step (first | (go_at_call 16; with_reducible exact F.call (KA.out _))))
  refine wpQuiet_nil ?_
  rintro _ ⟨g, rfl⟩
  have B6 := Lib.hid (RB.out g)
  have K6 := Lib.hid (RK.out g)
  have X6 := RX g
  clear F RB hne RK RX RX0 RX1 RX2 B5 K5 X5
  generalize f g = w6 at *
  clear f
  obtain ⟨xf0, xf1, xf2, xf3, xf4, xf5, xf6⟩ := id X6
  go_wp2_with fail
  all_goals
    go_ret
    exact ⟨by first | rfl | (simp; done) | (simp [e1]; done) | (simp; omega), B6.out.out⟩
theorem law_KeyDegrees (f s a o : Int) (w : World) (hk : KT w) :
    Calls Tryd.prog 7 #[.int .i64 f, .agg #[.int .i64 s, .int .i64 a, .int .i64 o]] w fun e w' => e = .returned (.bool true) ∧ Below w.heap.size w w' := by
  by_cases h : Sg f
  · by_cases k : s < 0 ∨ 6 < s
    · exact kdLaw2 f s a o w h k hk
    · by_cases k2 : a < -2 ∨ 2 < a
      · exact kdLaw3 f s a o w h (by omega) (by omega) k2 hk
      · have c : Cls s a := ⟨by omega, by omega, by omega, by omega⟩
        by_cases e : a = alI f s
        · exact kdLaw4 f s a o w h c e hk
        · exact kdLaw5 f s a o w h c e hk
  · exact kdLaw1 f s a o w h hk
end Go.Proofs.YtihndkplknoabaaDoor
