/- Keys: Degree, Diatonic; the reference's Place and Tonic. -/
import Derived.Test.YtihndkplknoabaaDoorKh
import Derived.Deep.RegionWith
namespace Go.Proofs.YtihndkplknoabaaDoor
open Go.RowKit
set_option linter.unusedVariables false
set_option linter.unusedSimpArgs false

structure Cls (s a : Int) : Prop where
  s0 : 0 ≤ s
  s1 : s ≤ 6
  a0 : -2 ≤ a
  a1 : a ≤ 2
theorem alI_bd (f r : Int) : -1 ≤ alI f r ∧ alI f r ≤ 1 := by
  unfold alI
  split
  · split <;> omega
  · omega
theorem shI_bd (r : Int) : 0 ≤ shI r ∧ shI r ≤ 6 := by unfold shI; repeat' split <;> omega
set_option maxRecDepth 100000 in
set_option maxHeartbeats 2000000 in
theorem isClass_y (s a : Int) (w : World) (h : Cls s a) :
    Calls Tryd.prog 33 #[.int .i64 s, .int .i64 a] w fun e w' => e = .returned (.bool true) ∧ Below w.heap.size w w' := by
  have B0 := Lib.hid (Bel.refl w)
  obtain ⟨s0, s1, a0, a1⟩ := h
  go_enter Tryd.func33, Tryd.ntmps33
  go_wp2_with fail
  refine (isStep_y s _ s0 s1).mono ?_
  rintro e w1 ⟨rfl, hb⟩
  have B1 := Lib.hid (B0.out.up hb)
  clear hb B0  
  go_wp2_with fail
  go_ret
  exact ⟨by first | rfl | (simp; done) | (simp; omega), B1.out.out⟩
set_option maxRecDepth 100000 in
set_option maxHeartbeats 2000000 in
theorem isClass_s (s a : Int) (w : World) (h : s < 0 ∨ 6 < s) :
    Calls Tryd.prog 33 #[.int .i64 s, .int .i64 a] w fun e w' => e = .returned (.bool false) ∧ Below w.heap.size w w' := by
  have B0 := Lib.hid (Bel.refl w)
  have HQ := Lib.hid h
  clear h
  go_enter Tryd.func33, Tryd.ntmps33
  go_wp2_with fail
  refine (isStep_n s _ HQ.out).mono ?_
  rintro e w1 ⟨rfl, hb⟩
  have B1 := Lib.hid (B0.out.up hb)
  clear hb B0  
  go_wp2_with fail
  go_ret
  exact ⟨by first | rfl | (simp; done) | (simp; omega), B1.out.out⟩
set_option maxRecDepth 100000 in
set_option maxHeartbeats 2000000 in
theorem isClass_lo (s a : Int) (w : World) (s0 : 0 ≤ s) (s1 : s ≤ 6) (h : a < -2) :
    Calls Tryd.prog 33 #[.int .i64 s, .int .i64 a] w fun e w' => e = .returned (.bool false) ∧ Below w.heap.size w w' := by
  have B0 := Lib.hid (Bel.refl w)
  go_enter Tryd.func33, Tryd.ntmps33
  go_wp2_with fail
  refine (isStep_y s _ s0 s1).mono ?_
  rintro e w1 ⟨rfl, hb⟩
  have B1 := Lib.hid (B0.out.up hb)
  clear hb B0  
  go_wp2_with fail
  go_ret
  exact ⟨by first | rfl | (simp; done) | (simp; omega), B1.out.out⟩
set_option maxRecDepth 100000 in
set_option maxHeartbeats 2000000 in
theorem isClass_hi (s a : Int) (w : World) (s0 : 0 ≤ s) (s1 : s ≤ 6) (a0 : -2 ≤ a) (h : 2 < a) :
    Calls Tryd.prog 33 #[.int .i64 s, .int .i64 a] w fun e w' => e = .returned (.bool false) ∧ Below w.heap.size w w' := by
  have B0 := Lib.hid (Bel.refl w)
  go_enter Tryd.func33, Tryd.ntmps33
  go_wp2_with fail
  refine (isStep_y s _ s0 s1).mono ?_
  rintro e w1 ⟨rfl, hb⟩
  have B1 := Lib.hid (B0.out.up hb)
  clear hb B0  
  go_wp2_with fail
  go_ret
  exact ⟨by first | rfl | (simp; done) | (simp; omega), B1.out.out⟩
theorem isClass_n (s a : Int) (w : World) (h : ¬ Cls s a) : Calls Tryd.prog 33 #[.int .i64 s, .int .i64 a] w fun e w' => e = .returned (.bool false) ∧ Below w.heap.size w w' := by
  by_cases h0 : s < 0 ∨ 6 < s
  · exact isClass_s s a w h0
  · by_cases h1 : a < -2
    · exact isClass_lo s a w (by omega) (by omega) h1
    · by_cases h2 : 2 < a
      · exact isClass_hi s a w (by omega) (by omega) (by omega) h2
      · exact absurd ⟨by omega, by omega, by omega, by omega⟩ h
set_option maxRecDepth 100000 in
set_option maxHeartbeats 2000000 in
theorem deg_b1 (f s a o : Int) (w : World) (h : ¬ Sg f) (hk : KT w) :
    Calls Tryd.prog 25 #[.int .i64 f, .agg #[.int .i64 s, .int .i64 a, .int .i64 o]] w fun e w' => e = .returned (.tuple #[.int .i64 0, .int .i64 0, .int .i64 2]) ∧ Below w.heap.size w w' := by
  have B0 := Lib.hid ((Bel.refl w).alloc (.cells #[.int .i64 s, .int .i64 a, .int .i64 o] 54))
  have K0 := Lib.hid (hk.below ((Below.refl _ _).alloc (Nat.le_refl _) (.cells #[.int .i64 s, .int .i64 a, .int .i64 o] 54)))
  have X0 := Tri.new w (.int .i64 s) (.int .i64 a) (.int .i64 o) 54 (w.heap.size) (by simp)
  have HP := Lib.hid h
  go_enter Tryd.func25, Tryd.ntmps25
  obtain ⟨xf0, xf1, xf2, xf3, xf4, xf5, xf6⟩ := id X0
  go_wp2_with fail
  clear xf0 xf1 xf2 xf3 xf4 xf5 xf6
  refine (checkK_bad f _ HP.out).mono ?_
  rintro e w1 ⟨rfl, hb⟩
  have B1 := Lib.hid (B0.out.up hb)
  have K1 := Lib.hid (K0.out.below hb)
  have X1 := X0.up hb
  clear hb B0 K0 X0
  obtain ⟨xf0, xf1, xf2, xf3, xf4, xf5, xf6⟩ := id X1
  go_wp2_with fail
  exact bodyPost_ret (v := .tuple #[.int .i64 0, .int .i64 0, .int .i64 2]) (by first | (simp [results, Tryd.results25, go_sem]; done) | (simp [results, Tryd.results25, go_sem]; omega)) rfl ⟨rfl, B1.out.out⟩
set_option maxRecDepth 100000 in
set_option maxHeartbeats 2000000 in
theorem deg_b2 (f s a o : Int) (w : World) (h : Sg f) (k : ¬ Cls s a) (hk : KT w) :
    Calls Tryd.prog 25 #[.int .i64 f, .agg #[.int .i64 s, .int .i64 a, .int .i64 o]] w fun e w' => e = .returned (.tuple #[.int .i64 0, .int .i64 0, .int .i64 18]) ∧ Below w.heap.size w w' := by
  have B0 := Lib.hid ((Bel.refl w).alloc (.cells #[.int .i64 s, .int .i64 a, .int .i64 o] 54))
  have K0 := Lib.hid (hk.below ((Below.refl _ _).alloc (Nat.le_refl _) (.cells #[.int .i64 s, .int .i64 a, .int .i64 o] 54)))
  have X0 := Tri.new w (.int .i64 s) (.int .i64 a) (.int .i64 o) 54 (w.heap.size) (by simp)
  have HP := Lib.hid h
  have HQ := Lib.hid k
  go_enter Tryd.func25, Tryd.ntmps25
  obtain ⟨xf0, xf1, xf2, xf3, xf4, xf5, xf6⟩ := id X0
  go_wp2_with fail
  clear xf0 xf1 xf2 xf3 xf4 xf5 xf6
  refine (checkK_ok f _ HP.out).mono ?_
  rintro e w1 ⟨rfl, hb⟩
  have B1 := Lib.hid (B0.out.up hb)
  have K1 := Lib.hid (K0.out.below hb)
  have X1 := X0.up hb
  clear hb B0 K0 X0
  obtain ⟨xf0, xf1, xf2, xf3, xf4, xf5, xf6⟩ := id X1
  go_wp2_with fail
  clear xf0 xf1 xf2 xf3 xf4 xf5 xf6
  refine (isClass_n s a _ HQ.out).mono ?_
  rintro e w2 ⟨rfl, hb⟩
  have B2 := Lib.hid (B1.out.up hb)
  have K2 := Lib.hid (K1.out.below hb)
  have X2 := X1.up hb
  clear hb B1 K1 X1
  obtain ⟨xf0, xf1, xf2, xf3, xf4, xf5, xf6⟩ := id X2
  go_wp2_with fail
  exact bodyPost_ret (v := .tuple #[.int .i64 0, .int .i64 0, .int .i64 18]) (by first | (simp [results, Tryd.results25, go_sem]; done) | (simp [results, Tryd.results25, go_sem]; omega)) rfl ⟨rfl, B2.out.out⟩
set_option maxRecDepth 100000 in
set_option maxHeartbeats 2000000 in
theorem deg_ok (f s a o : Int) (w : World) (h : Sg f) (k : Cls s a) (hk : KT w) :
    Calls Tryd.prog 25 #[.int .i64 f, .agg #[.int .i64 s, .int .i64 a, .int .i64 o]] w fun e w' => e = .returned (.tuple #[.int .i64 ((s - shI ((f + 1) % 7) + 7) % 7), .int .i64 (a - alI f s), .int .i64 0]) ∧ Below w.heap.size w w' := by
  have B0 := Lib.hid ((Bel.refl w).alloc (.cells #[.int .i64 s, .int .i64 a, .int .i64 o] 54))
  have K0 := Lib.hid (hk.below ((Below.refl _ _).alloc (Nat.le_refl _) (.cells #[.int .i64 s, .int .i64 a, .int .i64 o] 54)))
  have X0 := Tri.new w (.int .i64 s) (.int .i64 a) (.int .i64 o) 54 (w.heap.size) (by simp)
  have HP := Lib.hid h
  have HQ := Lib.hid k
  obtain ⟨sb0, sb1⟩ := shI_bd ((f + 1) % 7)
  obtain ⟨al0, al1⟩ := alI_bd f s
  obtain ⟨s0, s1, a0, a1⟩ := k
  have KT1 := fun v hv => tonic_n f v HP.out hv
  have KA := fun v hv => alter_ok f s v HP.out hv
  obtain ⟨G, hT⟩ : ∃ G, shI ((f + 1) % 7) = G := ⟨_, rfl⟩
  obtain ⟨A, hA⟩ : ∃ A, alI f s = A := ⟨_, rfl⟩
  obtain ⟨D, hD⟩ : ∃ D, (f + 1) / 7 = D := ⟨_, rfl⟩
  have HV := Lib.hid (show (Value.tuple #[.int .i64 ((s - G + 7) % 7), .int .i64 (a - A), .int .i64 0]) = .tuple #[.int .i64 ((s - shI ((f + 1) % 7) + 7) % 7), .int .i64 (a - alI f s), .int .i64 0] by rw [hT, hA])
  simp only [hT, hD] at sb0 sb1 KT1
  simp only [hA] at al0 al1 KA
  clear hT hA hD
  replace KT1 := Lib.hid KT1
  replace KA := Lib.hid KA
  go_enter Tryd.func25, Tryd.ntmps25
  obtain ⟨xf0, xf1, xf2, xf3, xf4, xf5, xf6⟩ := id X0
  go_wp2_with fail
  clear xf0 xf1 xf2 xf3 xf4 xf5 xf6
  refine (checkK_ok f _ HP.out).mono ?_
  rintro e w1 ⟨rfl, hb⟩
  have B1 := Lib.hid (B0.out.up hb)
  have K1 := Lib.hid (K0.out.below hb)
  have X1 := X0.up hb
  clear hb B0 K0 X0
  obtain ⟨xf0, xf1, xf2, xf3, xf4, xf5, xf6⟩ := id X1
  go_wp2_with fail
  clear xf0 xf1 xf2 xf3 xf4 xf5 xf6
  refine (isClass_y s a _ HQ.out).mono ?_
  rintro e w2 ⟨rfl, hb⟩
  have B2 := Lib.hid (B1.out.up hb)
  have K2 := Lib.hid (K1.out.below hb)
  have X2 := X1.up hb
  clear hb B1 K1 X1
  obtain ⟨xf0, xf1, xf2, xf3, xf4, xf5, xf6⟩ := id X2
  go_wp2_with fail
  clear xf0 xf1 xf2 xf3 xf4 xf5 xf6
  refine (KT1.out _ K2.out).mono ?_
  rintro e w3 ⟨rfl, hb⟩
  have B3 := Lib.hid (B2.out.up hb)
  have K3 := Lib.hid (K2.out.below hb)
  have X3 := X2.up hb
  clear hb B2 K2 X2
  obtain ⟨xf0, xf1, xf2, xf3, xf4, xf5, xf6⟩ := id X3
  go_wp2_with fail
  have Bd := Lib.hid (Below.drew B3.out.out)
  have Kd := Lib.hid (K3.out.below (Below.drew (Below.refl _ _)))
  have Xd := Lib.hid (X3.up (Below.drew (Below.refl _ _)))
  have hw0 : IntKind.i64.wrap (s - G) = s - G := (IntWalk.i64_left _).trans (IntWalk.wrap64_in _ ⟨by omega, by omega⟩)
  have hw1 : IntKind.i64.wrap (s - G + 7) = s - G + 7 := (IntWalk.i64_left _).trans (IntWalk.wrap64_in _ ⟨by omega, by omega⟩)
  have hw2 : IntKind.i64.wrap (a - A) = a - A := (IntWalk.i64_left _).trans (IntWalk.wrap64_in _ ⟨by omega, by omega⟩)
  have hw3 : (s - G + 7).tmod 7 = (s - G + 7) % 7 := Int.tmod_eq_emod_of_nonneg (by omega)
  go_region_with (first
    | (go_at_call 28; refine (KA.out _ Kd.out).mono ?_; rintro e w4 ⟨rfl, hb⟩; have B4 := Lib.hid (Bel.up (w := w) Bd.out hb); have X4 := Xd.out.up hb; obtain ⟨y0, y1, y2, y3, y4, y5, y6⟩ := id X4; clear hb))
  all_goals
    go_wp2_with fail
    exact bodyPost_ret (v := .tuple #[.int .i64 ((s - G + 7) % 7), .int .i64 (a - A), .int .i64 0]) (by first | (simp [results, Tryd.results25, go_sem]; done) | (simp [results, Tryd.results25, go_sem]; omega)) rfl ⟨congrArg Ending.returned HV.out, B4.out.out⟩
set_option maxRecDepth 100000 in
set_option maxHeartbeats 2000000 in
theorem diat_b1 (f s a o : Int) (w : World) (h : ¬ Sg f) (hk : KT w) :
    Calls Tryd.prog 26 #[.int .i64 f, .agg #[.int .i64 s, .int .i64 a, .int .i64 o]] w fun e w' => e = .returned (.bool false) ∧ Below w.heap.size w w' := by
  have B0 := Lib.hid ((Bel.refl w).alloc (.cells #[.int .i64 s, .int .i64 a, .int .i64 o] 54))
  have K0 := Lib.hid (hk.below ((Below.refl _ _).alloc (Nat.le_refl _) (.cells #[.int .i64 s, .int .i64 a, .int .i64 o] 54)))
  have X0 := Tri.new w (.int .i64 s) (.int .i64 a) (.int .i64 o) 54 (w.heap.size) (by simp)
  have HP := Lib.hid h
  have KC := Lib.hid (fun v => checkK_bad f v HP.out)
  go_enter Tryd.func26, Tryd.ntmps26
  obtain ⟨xf0, xf1, xf2, xf3, xf4, xf5, xf6⟩ := id X0
  go_wp2_with fail
  clear xf0 xf1 xf2 xf3 xf4 xf5 xf6
  refine Qt.regionAll (by kernel_rfl) (by kernel_rfl) ?_
  intro T f F hne
  have RB := Lib.hid (fun g => B0.out.up (F.below g))
  have RK := Lib.hid (fun g => K0.out.below (F.below g))
  have RX := fun g => X0.up (F.below g)
  have RX0 := fun g => (RX g).c0
  have RX1 := fun g => (RX g).c1
  have RX2 := fun g => (RX g).c2
  repeat (go_big_quiet_step (first | (go_at_call 12; with_reducible exact F.call (KC.out _))))
  refine wpQuiet_nil ?_
  rintro _ ⟨g, rfl⟩
  have B1 := Lib.hid (RB.out g)
  have K1 := Lib.hid (RK.out g)
  have X1 := RX g
  clear F RB hne RK RX RX0 RX1 RX2 B0 K0 X0
  generalize f g = w1 at *
  clear f
  obtain ⟨xf0, xf1, xf2, xf3, xf4, xf5, xf6⟩ := id X1
  go_wp2_with fail
  go_ret
  exact ⟨by first | rfl | (simp; done) | (simp; omega), B1.out.out⟩
set_option maxRecDepth 100000 in
set_option maxHeartbeats 2000000 in
theorem diat_b2 (f s a o : Int) (w : World) (h : Sg f) (k : s < 0 ∨ 6 < s) (hk : KT w) :
    Calls Tryd.prog 26 #[.int .i64 f, .agg #[.int .i64 s, .int .i64 a, .int .i64 o]] w fun e w' => e = .returned (.bool false) ∧ Below w.heap.size w w' := by
  have B0 := Lib.hid ((Bel.refl w).alloc (.cells #[.int .i64 s, .int .i64 a, .int .i64 o] 54))
  have K0 := Lib.hid (hk.below ((Below.refl _ _).alloc (Nat.le_refl _) (.cells #[.int .i64 s, .int .i64 a, .int .i64 o] 54)))
  have X0 := Tri.new w (.int .i64 s) (.int .i64 a) (.int .i64 o) 54 (w.heap.size) (by simp)
  have HP := Lib.hid h
  have HQ := Lib.hid k
  have KC := Lib.hid (fun v => checkK_ok f v HP.out)
  go_enter Tryd.func26, Tryd.ntmps26
  obtain ⟨xf0, xf1, xf2, xf3, xf4, xf5, xf6⟩ := id X0
  go_wp2_with fail
  clear xf0 xf1 xf2 xf3 xf4 xf5 xf6
  refine Qt.regionAll (by kernel_rfl) (by kernel_rfl) ?_
  intro T f F hne
  have RB := Lib.hid (fun g => B0.out.up (F.below g))
  have RK := Lib.hid (fun g => K0.out.below (F.below g))
  have RX := fun g => X0.up (F.below g)
  have RX0 := fun g => (RX g).c0
  have RX1 := fun g => (RX g).c1
  have RX2 := fun g => (RX g).c2
  repeat (go_big_quiet_step (first | (go_at_call 12; with_reducible exact F.call (KC.out _)) | (go_at_call 27; with_reducible exact F.call (isStep_n s _ HQ.out))))
  refine wpQuiet_nil ?_
  rintro _ ⟨g, rfl⟩
  have B1 := Lib.hid (RB.out g)
  have K1 := Lib.hid (RK.out g)
  have X1 := RX g
  clear F RB hne RK RX RX0 RX1 RX2 B0 K0 X0
  generalize f g = w1 at *
  clear f
  obtain ⟨xf0, xf1, xf2, xf3, xf4, xf5, xf6⟩ := id X1
  go_wp2_with fail
  go_ret
  exact ⟨by first | rfl | (simp; done) | (simp; omega), B1.out.out⟩
set_option maxRecDepth 100000 in
set_option maxHeartbeats 2000000 in
theorem diat_ok (f s a o : Int) (w : World) (h : Sg f) (s0 : 0 ≤ s) (s1 : s ≤ 6) (hk : KT w) :
    Calls Tryd.prog 26 #[.int .i64 f, .agg #[.int .i64 s, .int .i64 a, .int .i64 o]] w fun e w' => e = .returned (.bool (decide (a = alI f s))) ∧ Below w.heap.size w w' := by
  have B0 := Lib.hid ((Bel.refl w).alloc (.cells #[.int .i64 s, .int .i64 a, .int .i64 o] 54))
  have K0 := Lib.hid (hk.below ((Below.refl _ _).alloc (Nat.le_refl _) (.cells #[.int .i64 s, .int .i64 a, .int .i64 o] 54)))
  have X0 := Tri.new w (.int .i64 s) (.int .i64 a) (.int .i64 o) 54 (w.heap.size) (by simp)
  have HP := Lib.hid h
  have KC := Lib.hid (fun v => checkK_ok f v HP.out)
  have KA := Lib.hid (fun v hv => alter_ok f s v HP.out hv)
  go_enter Tryd.func26, Tryd.ntmps26
  obtain ⟨xf0, xf1, xf2, xf3, xf4, xf5, xf6⟩ := id X0
  go_wp2_with fail
  clear xf0 xf1 xf2 xf3 xf4 xf5 xf6
  refine Qt.regionAll (by kernel_rfl) (by kernel_rfl) ?_
  intro T f F hne
  have RB := Lib.hid (fun g => B0.out.up (F.below g))
  have RK := Lib.hid (fun g => K0.out.below (F.below g))
  have RX := fun g => X0.up (F.below g)
  have RX0 := fun g => (RX g).c0
  have RX1 := fun g => (RX g).c1
  have RX2 := fun g => (RX g).c2
  repeat (go_big_quiet_step (first | (go_at_call 12; with_reducible exact F.call (KC.out _)) | (go_at_call 27; with_reducible exact F.call (isStep_y s _ s0 s1)) | (go_at_call 28; with_reducible exact F.call (KA.out _ (RK.out _)))))
  refine wpQuiet_nil ?_
  rintro _ ⟨g, rfl⟩
  have B1 := Lib.hid (RB.out g)
  have K1 := Lib.hid (RK.out g)
  have X1 := RX g
  clear F RB hne RK RX RX0 RX1 RX2 B0 K0 X0
  generalize f g = w1 at *
  clear f
  obtain ⟨xf0, xf1, xf2, xf3, xf4, xf5, xf6⟩ := id X1
  go_wp2_with fail
  go_ret
  exact ⟨by first | rfl | (simp; done) | (simp; omega), B1.out.out⟩
end Go.Proofs.YtihndkplknoabaaDoor
