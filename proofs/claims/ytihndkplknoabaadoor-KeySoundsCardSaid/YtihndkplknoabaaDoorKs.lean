/- The law KeySounds. -/
import Derived.Test.YtihndkplknoabaaDoorKe
import Derived.Test.YtihndkplknoabaaDoorKn
import Derived.Test.YtihndkplknoabaaDoorKt
namespace Go.Proofs.YtihndkplknoabaaDoor
open Go.RowKit
set_option linter.unusedVariables false
set_option linter.unusedSimpArgs false

theorem numAt (f : Int) (k : Nat) (hk : k < 7) (v : World) : Calls Tryd.prog 24 #[.agg #[.int .i64 ((shI ((f + 1) % 7) + (k : Int)) % 7), .int .i64 (alI f ((shI ((f + 1) % 7) + (k : Int)) % 7)), .int .i64 (4 + (shI ((f + 1) % 7) + (k : Int)) / 7)]] v (fun e w' => e = .returned (.int .i64 (nK f k)) ∧ Below v.heap.size v w') := by
  have h2 := alI_bd f ((shI ((f + 1) % 7) + (k : Int)) % 7)
  have h3 := shI_bd ((f + 1) % 7)
  exact refNumK _ _ _ v (by omega) (by omega) (by omega) (by omega) (by omega) (by omega)
set_option maxRecDepth 100000 in
set_option maxHeartbeats 2000000 in
theorem soLaw1 (x f t m : Int) (w : World) (x0 : 0 ≤ x) (x1 : x ≤ 255) (hf : x % 15 - 7 = f) (k : ¬ Iv t m) (hk : KT w) :
    Calls Tryd.prog 6 #[.int .u8 x, .agg #[.int .i64 t, .int .i64 m]] w fun e w' => e = .returned (.bool true) ∧ Below w.heap.size w w' := by
  have B0 := Lib.hid ((Bel.refl w).alloc (.cells #[.int .i64 t, .int .i64 m] 44))
  have K0 := Lib.hid (hk.below ((Below.refl _ _).alloc (Nat.le_refl _) (.cells #[.int .i64 t, .int .i64 m] 44)))
  have X0 := Duo.new w (.int .i64 t) (.int .i64 m) 44 (w.heap.size) (by simp)
  have HP := Lib.hid (show Sg f from ⟨by omega, by omega⟩)
  have HQ := Lib.hid k
  go_enter Tryd.func6, Tryd.ntmps6
  obtain ⟨xf0, xf1, xf2, xf3, xf4⟩ := id X0
  go_wp2_with fail
  clear xf0 xf1 xf2 xf3 xf4
  refine (transK_b2 f t m _ HP.out HQ.out).mono ?_
  rintro e w1 ⟨rfl, hb⟩
  have B1 := Lib.hid (B0.out.up hb)
  have K1 := Lib.hid (K0.out.below hb)
  have X1 := X0.up hb
  clear hb B0 K0 X0
  obtain ⟨xf0, xf1, xf2, xf3, xf4⟩ := id X1
  go_wp2_with fail
  clear xf0 xf1 xf2 xf3 xf4
  refine (known_any _ K1.out).mono ?_
  rintro e w2 ⟨rfl, hb⟩
  have B2 := Lib.hid (B1.out.up hb)
  have K2 := Lib.hid (K1.out.below hb)
  have X2 := X1.up hb
  clear hb B1 K1 X1
  obtain ⟨xf0, xf1, xf2, xf3, xf4⟩ := id X2
  go_wp2_with fail
  clear xf0 xf1 xf2 xf3 xf4
  refine (known_any _ K2.out).mono ?_
  rintro e w3 ⟨rfl, hb⟩
  have B3 := Lib.hid (B2.out.up hb)
  have K3 := Lib.hid (K2.out.below hb)
  have X3 := X2.up hb
  clear hb B2 K2 X2
  obtain ⟨xf0, xf1, xf2, xf3, xf4⟩ := id X3
  go_wp2_with fail
  go_ret
  exact ⟨by first | rfl | (simp; done), B3.out.out⟩
set_option maxRecDepth 100000 in
set_option maxHeartbeats 2000000 in
theorem soLaw2 (x f t m : Int) (w : World) (x0 : 0 ≤ x) (x1 : x ≤ 255) (hf : x % 15 - 7 = f) (k : Iv t m) (hk : KT w) :
    Calls Tryd.prog 6 #[.int .u8 x, .agg #[.int .i64 t, .int .i64 m]] w fun e w' => e = .returned (.bool true) ∧ Below w.heap.size w w' := by
  have B0 := Lib.hid ((Bel.refl w).alloc (.cells #[.int .i64 t, .int .i64 m] 44))
  have K0 := Lib.hid (hk.below ((Below.refl _ _).alloc (Nat.le_refl _) (.cells #[.int .i64 t, .int .i64 m] 44)))
  have X0 := Duo.new w (.int .i64 t) (.int .i64 m) 44 (w.heap.size) (by simp)
  have h : Sg f := ⟨by omega, by omega⟩
  have HP := Lib.hid h
  have HQ := Lib.hid k
  have rb := red_bd (f + 7 * m + -12 * t)
  have KM := Lib.hid (fun k hk => nK_moved (f := f) (t := t) (m := m) (k := k) h hk)
  have KT1 := fun v => transK_ok f t m v h k
  generalize redK (f + 7 * m + -12 * t) = R at *
  have KTr := Lib.hid KT1
  have SA := Lib.hid (fun v hv => scale_yes f _ 4 v h rfl ⟨by omega, .inl (by omega)⟩ hv)
  have SB := Lib.hid (fun v hv => scale_yes R _ 4 v ⟨rb.1, rb.2⟩ rfl ⟨by omega, .inl (by omega)⟩ hv)
  obtain ⟨t0, t1, m0, m1⟩ := k
  obtain ⟨r0, r1⟩ := rb
  clear KT1 h
  go_enter Tryd.func6, Tryd.ntmps6
  obtain ⟨xf0, xf1, xf2, xf3, xf4⟩ := id X0
  go_wp2_with fail
  clear xf0 xf1 xf2 xf3 xf4
  refine (KTr.out _).mono ?_
  rintro e w1 ⟨rfl, hb⟩
  have B1 := Lib.hid (B0.out.up hb)
  have K1 := Lib.hid (K0.out.below hb)
  have X1 := X0.up hb
  clear hb B0 K0 X0
  obtain ⟨xf0, xf1, xf2, xf3, xf4⟩ := id X1
  go_wp2_with fail
  clear xf0 xf1 xf2 xf3 xf4
  refine (known_any _ K1.out).mono ?_
  rintro e w2 ⟨rfl, hb⟩
  have B2 := Lib.hid (B1.out.up hb)
  have K2 := Lib.hid (K1.out.below hb)
  have X2 := X1.up hb
  clear hb B1 K1 X1
  obtain ⟨xf0, xf1, xf2, xf3, xf4⟩ := id X2
  go_wp2_with fail
  clear xf0 xf1 xf2 xf3 xf4
  refine (SA.out _ K2.out).mono ?_
  rintro e w3 ⟨ba, rfl, hc, hb⟩
  have P3 := Lib.hid hc
  clear hc
  have B3 := Lib.hid (B2.out.up hb)
  have K3 := Lib.hid (K2.out.below hb)
  have X3 := X2.up hb
  clear hb B2 K2 X2
  obtain ⟨xf0, xf1, xf2, xf3, xf4⟩ := id X3
  go_wp2_with fail
  clear xf0 xf1 xf2 xf3 xf4
  refine (SB.out _ K3.out).mono ?_
  rintro e w4 ⟨bb, rfl, hc, hb⟩
  have Q4 := Lib.hid hc
  clear hc
  have B4 := Lib.hid (B3.out.up hb)
  have K4 := Lib.hid (K3.out.below hb)
  have P4 := Lib.hid (P3.out.up hb)
  have X4 := X3.up hb
  clear hb B3 K3 P3 X3
  obtain ⟨xf0, xf1, xf2, xf3, xf4⟩ := id X4
  go_wp2_with fail
  have P5 := P4
  have X5 := Lib.hid X4
  clear xf0 xf1 xf2 xf3 xf4 X4 K4
  go_loopg [12] 7 (fun gm i wr => ∃ k : Nat, k ≤ 7 ∧ gm = 7 - k ∧ i = .int .i64 (k : Int) ∧ Hid (Cel wr ba (tgt f (shI ((f + 1) % 7)) 4)) ∧ Hid (Cel wr bb (tgt R (shI ((R + 1) % 7)) 4)) ∧ Hid (Duo wr w.heap.size (.int .i64 t) (.int .i64 m)) ∧ Hid (Bel w wr))
  case atStart => exact ⟨0, by omega, by omega, rfl, P5, Q4, X5, B4⟩
  case round =>
    obtain ⟨k, hk7, rfl, rfl, HP', HQ', HX, HB⟩ := hrel
    clear P5 Q4 X5 B4 P4
    by_cases hlt : k < 7
    · have c0 := (HP'.out (k * 3) (by omega)).1
      have c1 := (HP'.out (k * 3 + 1) (by omega)).1
      have c2 := (HP'.out (k * 3 + 2) (by omega)).1
      have d0 := (HQ'.out (k * 3) (by omega)).1
      have d1 := (HQ'.out (k * 3 + 1) (by omega)).1
      have d2 := (HQ'.out (k * 3 + 2) (by omega)).1
      rw [tgt0] at c0 d0
      rw [tgt1] at c1 d1
      rw [tgt2] at c2 d2
      have G1 := fun v => numAt f k hlt v
      have G2 := fun v => numAt R k hlt v
      have hm := KM.out k hlt
      obtain ⟨na0, na1⟩ := nK_bd f k hlt
      obtain ⟨nb0, nb1⟩ := nK_bd R k hlt
      generalize alI f ((shI ((f + 1) % 7) + (k : Int)) % 7) = A1 at c1 G1
      generalize (shI ((f + 1) % 7) + (k : Int)) % 7 = S1 at c0 G1
      generalize 4 + (shI ((f + 1) % 7) + (k : Int)) / 7 = O1 at c2 G1
      generalize alI R ((shI ((R + 1) % 7) + (k : Int)) % 7) = A2 at d1 G2
      generalize (shI ((R + 1) % 7) + (k : Int)) % 7 = S2 at d0 G2
      generalize 4 + (shI ((R + 1) % 7) + (k : Int)) / 7 = O2 at d2 G2
      generalize nK f k = Y1 at G1 hm na0 na1
      generalize nK R k = Y2 at G2 hm nb0 nb1
      have e1 : (Y2 - Y1 - m).tmod 12 = 0 := Int.tmod_eq_zero_of_dvd (Int.dvd_of_emod_eq_zero hm)
      have H1 := Lib.hid G1
      have H2 := Lib.hid G2
      have hm2 := Lib.hid hm
      have xc := HX.out.c1
      clear G1 G2 hm
      go_wp2_with fail
      refine Qt.regionAll (by kernel_rfl) (by kernel_rfl) ?_
      intro TT fm F hne
      have r0 := fun g => cell_up (F.below g) c0
      have r1 := fun g => cell_up (F.below g) c1
      have r2 := fun g => cell_up (F.below g) c2
      have r3 := fun g => cell_up (F.below g) d0
      have r4 := fun g => cell_up (F.below g) d1
      have r5 := fun g => cell_up (F.below g) d2
      have r6 := fun g => cell_up (F.below g) xc
      have RB := Lib.hid (fun g => HB.out.up (F.below g))
      have RP := Lib.hid (fun g => HP'.out.up (F.below g))
      have RQ := Lib.hid (fun g => HQ'.out.up (F.below g))
      have RX := Lib.hid (fun g => HX.out.up (F.below g))
      clear c0 c1 c2 d0 d1 d2 xc
      repeat (go_big_quiet_step (first | (go_at_call 24; with_reducible exact F.call (H2.out _)) | (go_at_call 24; with_reducible exact F.call (H1.out _))))
      refine wpQuiet_nil ?_
      rintro _ ⟨g, rfl⟩
      have B6 := Lib.hid (RB.out g)
      have P6 := Lib.hid (RP.out g)
      have Q6 := Lib.hid (RQ.out g)
      have X6 := Lib.hid (RX.out g)
      clear r0 r1 r2 r3 r4 r5 r6 RB RP RQ RX F
      go_wp2_with fail
      go_roundg (7 - (k + 1))
      case measure => omega
      case rel => exact ⟨k + 1, by omega, rfl, by go_num, P6, Q6, X6, B6⟩
    · obtain rfl : k = 7 := by omega
      go_wp2_with fail
      go_ret
      exact ⟨by first | rfl | (simp; done), HB.out.out⟩
theorem law_KeySounds (x t m : Int) (w : World) (x0 : 0 ≤ x) (x1 : x ≤ 255) (hk : KT w) :
    Calls Tryd.prog 6 #[.int .u8 x, .agg #[.int .i64 t, .int .i64 m]] w fun e w' => e = .returned (.bool true) ∧ Below w.heap.size w w' := by
  by_cases k : Iv t m
  · exact soLaw2 x _ t m w x0 x1 rfl k hk
  · exact soLaw1 x _ t m w x0 x1 rfl k hk
end Go.Proofs.YtihndkplknoabaaDoor
