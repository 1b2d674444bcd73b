/- Tuplets: law Inserts. -/
import Derived.Test.YtidggmfgbcmklaaVf
namespace Go.Proofs.Ytidggmfgbcmklaa
open Go.RowKit
set_option linter.unusedVariables false
set_option linter.unusedSimpArgs false

set_option maxRecDepth 100000 in
set_option maxHeartbeats 4000000 in
theorem inserts_n_a (f : Nat → Tp) (n cap : Nat) (ad : Option Addr) (ev p c : Int) (w : World) (hc : n ≤ cap) (h : TsAt w ad n f) (hle : n ≤ 20) (E : Int) (hE : chk f n ev = E) (h0 : E ≠ 0) :
    Calls Try.prog 11 #[.slice ad n cap, .int .i64 ev, .agg #[.int .i64 p, .int .i64 c]] w fun e w' => e = .returned (.bool true) ∧ Below w.heap.size w w' := by
  have hA : (n : Int) ≤ 20 := by omega
  have hT := h
  have HR := Lib.hid (fun ad2 cap2 u (h : TsAt u ad2 n f) => rcheck_ok f n cap2 ad2 ev u h)
  rw [hE] at HR
  have he1 : (E != 0) = true := by simpa using h0
  have he2 : (E == 0) = false := by simpa using h0
  have hbd := chk_bd f n ev
  rw [hE] at hbd
  have HE := Lib.hid hE
  have HN := Lib.hid h0
  clear hE h0
  have B0 := Lib.hid ((Bel.refl w).alloc (.cells #[.int .i64 p, .int .i64 c] 58))
  have T0 := Lib.hid ((Lib.hid hT).out.below ((Below.refl _ _).alloc (Nat.le_refl _) (.cells #[.int .i64 p, .int .i64 c] 58)))
  have P0 := Duo.new w (.int .i64 p) (.int .i64 c) 58 (w.heap.size) (by simp)
  have HT := Lib.hid hT
  clear h hT
  go_enter Try.func11, Try.ntmps11
  obtain ⟨pf0, pf1, pf2, pf3, pf4⟩ := id P0
  go_wp2_with fail
  clear pf0 pf1 pf2 pf3 pf4
  refine (to_ok f n cap ad _ (by omega) T0.out).mono ?_
  rintro e w1 ⟨ad2, cap2, rfl, hb, hU⟩
  have B1 := Lib.hid (B0.out.up hb)
  have T1 := Lib.hid (T0.out.up hb)
  have P1 := P0.up hb
  have U1 := Lib.hid hU
  clear hU
  clear hb B0 T0 P0
  obtain ⟨pf0, pf1, pf2, pf3, pf4⟩ := id P1
  go_wp2_with fail
  clear pf0 pf1 pf2 pf3 pf4
  refine Qt.regionAll (by kernel_rfl) (by kernel_rfl) ?_
  intro T f_ F hne
  have RB := Lib.hid (fun g => B1.out.up (F.below g))
  have RT := Lib.hid (fun g => T1.out.up (F.below g))
  have RU := Lib.hid (fun g => U1.out.up (F.below g))
  have RP := fun g => P1.up (F.below g)
  have RP0 := fun g => (RP g).c0
  have RP1 := fun g => (RP g).c1
  repeat (go_big_quiet_step (fail))
  refine wpQuiet_nil ?_
  rintro _ ⟨gT, rfl⟩
  have B2 := Lib.hid (RB.out gT)
  have T2 := Lib.hid (RT.out gT)
  have U2 := Lib.hid (RU.out gT)
  have P2 := RP gT
  clear F RB hne RT RU RP RP0 RP1 B1 T1 U1 P1
  generalize f_ gT = w2 at *
  clear f_
  obtain ⟨pf0, pf1, pf2, pf3, pf4⟩ := id P2
  go_wp2_with fail
  clear pf0 pf1 pf2 pf3 pf4
  refine (insert_n f n cap ad ev p c E _ T2.out HE.out HN.out).mono ?_
  rintro e w3 ⟨rfl, hb⟩
  have B3 := Lib.hid (B2.out.up hb)
  have T3 := Lib.hid (T2.out.up hb)
  have U3 := Lib.hid (U2.out.up hb)
  have P3 := P2.up hb
  clear hb B2 T2 U2 P2
  obtain ⟨pf0, pf1, pf2, pf3, pf4⟩ := id P3
  go_wp2_with fail
  clear pf0 pf1 pf2 pf3 pf4
  refine (known_ok _).mono ?_
  rintro e w4 ⟨rfl, hb⟩
  have B4 := Lib.hid (B3.out.up hb)
  have T4 := Lib.hid (T3.out.up hb)
  have U4 := Lib.hid (U3.out.up hb)
  have P4 := P3.up hb
  clear hb B3 T3 U3 P3
  obtain ⟨pf0, pf1, pf2, pf3, pf4⟩ := id P4
  go_wp2_with fail
  clear pf0 pf1 pf2 pf3 pf4
  refine (HR.out ad2 cap2 _ U4.out).mono ?_
  rintro e w5 ⟨rfl, hb⟩
  have B5 := Lib.hid (B4.out.up hb)
  have T5 := Lib.hid (T4.out.up hb)
  have U5 := Lib.hid (U4.out.up hb)
  have P5 := P4.up hb
  clear hb B4 T4 U4 P4
  obtain ⟨pf0, pf1, pf2, pf3, pf4⟩ := id P5
  go_wp2_with fail
  go_ret
  exact ⟨rfl, B5.out.out⟩
set_option maxRecDepth 100000 in
set_option maxHeartbeats 4000000 in
theorem inserts_ra_a (f : Nat → Tp) (n cap : Nat) (ad : Option Addr) (ev p c : Int) (w : World) (hc : n ≤ cap) (h : TsAt w ad n f) (hle : n ≤ 20) (hE : chk f n ev = 0) (h1 : p < 0) :
    Calls Try.prog 11 #[.slice ad n cap, .int .i64 ev, .agg #[.int .i64 p, .int .i64 c]] w fun e w' => e = .returned (.bool true) ∧ Below w.heap.size w w' := by
  have hA : (n : Int) ≤ 20 := by omega
  have hT := h
  have HR := Lib.hid (fun ad2 cap2 u (h : TsAt u ad2 n f) => rcheck_ok f n cap2 ad2 ev u h)
  rw [hE] at HR
  have HE := Lib.hid hE
  obtain ⟨hev0, hev1, _, _⟩ := chk_zero hE
  clear hE
  have g1 : decide (p < 0) = true := decide_eq_true h1
  have B0 := Lib.hid ((Bel.refl w).alloc (.cells #[.int .i64 p, .int .i64 c] 58))
  have T0 := Lib.hid ((Lib.hid hT).out.below ((Below.refl _ _).alloc (Nat.le_refl _) (.cells #[.int .i64 p, .int .i64 c] 58)))
  have P0 := Duo.new w (.int .i64 p) (.int .i64 c) 58 (w.heap.size) (by simp)
  have HT := Lib.hid hT
  clear h hT
  go_enter Try.func11, Try.ntmps11
  obtain ⟨pf0, pf1, pf2, pf3, pf4⟩ := id P0
  go_wp2_with fail
  clear pf0 pf1 pf2 pf3 pf4
  refine (to_ok f n cap ad _ (by omega) T0.out).mono ?_
  rintro e w1 ⟨ad2, cap2, rfl, hb, hU⟩
  have B1 := Lib.hid (B0.out.up hb)
  have T1 := Lib.hid (T0.out.up hb)
  have P1 := P0.up hb
  have U1 := Lib.hid hU
  clear hU
  clear hb B0 T0 P0
  obtain ⟨pf0, pf1, pf2, pf3, pf4⟩ := id P1
  go_wp2_with fail
  clear pf0 pf1 pf2 pf3 pf4
  refine Qt.regionAll (by kernel_rfl) (by kernel_rfl) ?_
  intro T f_ F hne
  have RB := Lib.hid (fun g => B1.out.up (F.below g))
  have RT := Lib.hid (fun g => T1.out.up (F.below g))
  have RU := Lib.hid (fun g => U1.out.up (F.below g))
  have RP := fun g => P1.up (F.below g)
  have RP0 := fun g => (RP g).c0
  have RP1 := fun g => (RP g).c1
  repeat (go_big_quiet_step (fail))
  refine wpQuiet_nil ?_
  rintro _ ⟨gT, rfl⟩
  have B2 := Lib.hid (RB.out gT)
  have T2 := Lib.hid (RT.out gT)
  have U2 := Lib.hid (RU.out gT)
  have P2 := RP gT
  clear F RB hne RT RU RP RP0 RP1 B1 T1 U1 P1
  generalize f_ gT = w2 at *
  clear f_
  obtain ⟨pf0, pf1, pf2, pf3, pf4⟩ := id P2
  go_wp2_with fail
  clear pf0 pf1 pf2 pf3 pf4
  refine (insert_ra f n cap ad ev p c _ T2.out HE.out h1).mono ?_
  rintro e w3 ⟨rfl, hb⟩
  have B3 := Lib.hid (B2.out.up hb)
  have T3 := Lib.hid (T2.out.up hb)
  have U3 := Lib.hid (U2.out.up hb)
  have P3 := P2.up hb
  clear hb B2 T2 U2 P2
  obtain ⟨pf0, pf1, pf2, pf3, pf4⟩ := id P3
  go_wp2_with fail
  clear pf0 pf1 pf2 pf3 pf4
  refine (known_ok _).mono ?_
  rintro e w4 ⟨rfl, hb⟩
  have B4 := Lib.hid (B3.out.up hb)
  have T4 := Lib.hid (T3.out.up hb)
  have U4 := Lib.hid (U3.out.up hb)
  have P4 := P3.up hb
  clear hb B3 T3 U3 P3
  obtain ⟨pf0, pf1, pf2, pf3, pf4⟩ := id P4
  go_wp2_with fail
  clear pf0 pf1 pf2 pf3 pf4
  refine (HR.out ad2 cap2 _ U4.out).mono ?_
  rintro e w5 ⟨rfl, hb⟩
  have B5 := Lib.hid (B4.out.up hb)
  have T5 := Lib.hid (T4.out.up hb)
  have U5 := Lib.hid (U4.out.up hb)
  have P5 := P4.up hb
  clear hb B4 T4 U4 P4
  obtain ⟨pf0, pf1, pf2, pf3, pf4⟩ := id P5
  go_wp2_with fail
  go_ret
  exact ⟨rfl, B5.out.out⟩
set_option maxRecDepth 100000 in
set_option maxHeartbeats 4000000 in
theorem inserts_rb_a (f : Nat → Tp) (n cap : Nat) (ad : Option Addr) (ev p c : Int) (w : World) (hc : n ≤ cap) (h : TsAt w ad n f) (hle : n ≤ 20) (hE : chk f n ev = 0) (h1 : 0 ≤ p) (h2 : ev < p) :
    Calls Try.prog 11 #[.slice ad n cap, .int .i64 ev, .agg #[.int .i64 p, .int .i64 c]] w fun e w' => e = .returned (.bool true) ∧ Below w.heap.size w w' := by
  have hA : (n : Int) ≤ 20 := by omega
  have hT := h
  have HR := Lib.hid (fun ad2 cap2 u (h : TsAt u ad2 n f) => rcheck_ok f n cap2 ad2 ev u h)
  rw [hE] at HR
  have HE := Lib.hid hE
  obtain ⟨hev0, hev1, _, _⟩ := chk_zero hE
  clear hE
  have g1 : decide (p < 0) = false := decide_eq_false (by omega)
  have g2 : decide (ev < p) = true := decide_eq_true h2
  have B0 := Lib.hid ((Bel.refl w).alloc (.cells #[.int .i64 p, .int .i64 c] 58))
  have T0 := Lib.hid ((Lib.hid hT).out.below ((Below.refl _ _).alloc (Nat.le_refl _) (.cells #[.int .i64 p, .int .i64 c] 58)))
  have P0 := Duo.new w (.int .i64 p) (.int .i64 c) 58 (w.heap.size) (by simp)
  have HT := Lib.hid hT
  clear h hT
  go_enter Try.func11, Try.ntmps11
  obtain ⟨pf0, pf1, pf2, pf3, pf4⟩ := id P0
  go_wp2_with fail
  clear pf0 pf1 pf2 pf3 pf4
  refine (to_ok f n cap ad _ (by omega) T0.out).mono ?_
  rintro e w1 ⟨ad2, cap2, rfl, hb, hU⟩
  have B1 := Lib.hid (B0.out.up hb)
  have T1 := Lib.hid (T0.out.up hb)
  have P1 := P0.up hb
  have U1 := Lib.hid hU
  clear hU
  clear hb B0 T0 P0
  obtain ⟨pf0, pf1, pf2, pf3, pf4⟩ := id P1
  go_wp2_with fail
  clear pf0 pf1 pf2 pf3 pf4
  refine Qt.regionAll (by kernel_rfl) (by kernel_rfl) ?_
  intro T f_ F hne
  have RB := Lib.hid (fun g => B1.out.up (F.below g))
  have RT := Lib.hid (fun g => T1.out.up (F.below g))
  have RU := Lib.hid (fun g => U1.out.up (F.below g))
  have RP := fun g => P1.up (F.below g)
  have RP0 := fun g => (RP g).c0
  have RP1 := fun g => (RP g).c1
  repeat (go_big_quiet_step (fail))
  refine wpQuiet_nil ?_
  rintro _ ⟨gT, rfl⟩
  have B2 := Lib.hid (RB.out gT)
  have T2 := Lib.hid (RT.out gT)
  have U2 := Lib.hid (RU.out gT)
  have P2 := RP gT
  clear F RB hne RT RU RP RP0 RP1 B1 T1 U1 P1
  generalize f_ gT = w2 at *
  clear f_
  obtain ⟨pf0, pf1, pf2, pf3, pf4⟩ := id P2
  go_wp2_with fail
  clear pf0 pf1 pf2 pf3 pf4
  refine (insert_rb f n cap ad ev p c _ T2.out HE.out h1 h2).mono ?_
  rintro e w3 ⟨rfl, hb⟩
  have B3 := Lib.hid (B2.out.up hb)
  have T3 := Lib.hid (T2.out.up hb)
  have U3 := Lib.hid (U2.out.up hb)
  have P3 := P2.up hb
  clear hb B2 T2 U2 P2
  obtain ⟨pf0, pf1, pf2, pf3, pf4⟩ := id P3
  go_wp2_with fail
  clear pf0 pf1 pf2 pf3 pf4
  refine (known_ok _).mono ?_
  rintro e w4 ⟨rfl, hb⟩
  have B4 := Lib.hid (B3.out.up hb)
  have T4 := Lib.hid (T3.out.up hb)
  have U4 := Lib.hid (U3.out.up hb)
  have P4 := P3.up hb
  clear hb B3 T3 U3 P3
  obtain ⟨pf0, pf1, pf2, pf3, pf4⟩ := id P4
  go_wp2_with fail
  clear pf0 pf1 pf2 pf3 pf4
  refine (HR.out ad2 cap2 _ U4.out).mono ?_
  rintro e w5 ⟨rfl, hb⟩
  have B5 := Lib.hid (B4.out.up hb)
  have T5 := Lib.hid (T4.out.up hb)
  have U5 := Lib.hid (U4.out.up hb)
  have P5 := P4.up hb
  clear hb B4 T4 U4 P4
  obtain ⟨pf0, pf1, pf2, pf3, pf4⟩ := id P5
  go_wp2_with fail
  go_ret
  exact ⟨rfl, B5.out.out⟩
set_option maxRecDepth 100000 in
set_option maxHeartbeats 4000000 in
theorem inserts_rc_a (f : Nat → Tp) (n cap : Nat) (ad : Option Addr) (ev p c : Int) (w : World) (hc : n ≤ cap) (h : TsAt w ad n f) (hle : n ≤ 20) (hE : chk f n ev = 0) (h1 : 0 ≤ p) (h2 : p ≤ ev) (h3 : c < 0) :
    Calls Try.prog 11 #[.slice ad n cap, .int .i64 ev, .agg #[.int .i64 p, .int .i64 c]] w fun e w' => e = .returned (.bool true) ∧ Below w.heap.size w w' := by
  have hA : (n : Int) ≤ 20 := by omega
  have hT := h
  have HR := Lib.hid (fun ad2 cap2 u (h : TsAt u ad2 n f) => rcheck_ok f n cap2 ad2 ev u h)
  rw [hE] at HR
  have HE := Lib.hid hE
  obtain ⟨hev0, hev1, _, _⟩ := chk_zero hE
  clear hE
  have g1 : decide (p < 0) = false := decide_eq_false (by omega)
  have g2 : decide (ev < p) = false := decide_eq_false (by omega)
  have g3 : decide (c < 0) = true := decide_eq_true h3
  have B0 := Lib.hid ((Bel.refl w).alloc (.cells #[.int .i64 p, .int .i64 c] 58))
  have T0 := Lib.hid ((Lib.hid hT).out.below ((Below.refl _ _).alloc (Nat.le_refl _) (.cells #[.int .i64 p, .int .i64 c] 58)))
  have P0 := Duo.new w (.int .i64 p) (.int .i64 c) 58 (w.heap.size) (by simp)
  have HT := Lib.hid hT
  clear h hT
  go_enter Try.func11, Try.ntmps11
  obtain ⟨pf0, pf1, pf2, pf3, pf4⟩ := id P0
  go_wp2_with fail
  clear pf0 pf1 pf2 pf3 pf4
  refine (to_ok f n cap ad _ (by omega) T0.out).mono ?_
  rintro e w1 ⟨ad2, cap2, rfl, hb, hU⟩
  have B1 := Lib.hid (B0.out.up hb)
  have T1 := Lib.hid (T0.out.up hb)
  have P1 := P0.up hb
  have U1 := Lib.hid hU
  clear hU
  clear hb B0 T0 P0
  obtain ⟨pf0, pf1, pf2, pf3, pf4⟩ := id P1
  go_wp2_with fail
  clear pf0 pf1 pf2 pf3 pf4
  refine Qt.regionAll (by kernel_rfl) (by kernel_rfl) ?_
  intro T f_ F hne
  have RB := Lib.hid (fun g => B1.out.up (F.below g))
  have RT := Lib.hid (fun g => T1.out.up (F.below g))
  have RU := Lib.hid (fun g => U1.out.up (F.below g))
  have RP := fun g => P1.up (F.below g)
  have RP0 := fun g => (RP g).c0
  have RP1 := fun g => (RP g).c1
  repeat (go_big_quiet_step (fail))
  refine wpQuiet_nil ?_
  rintro _ ⟨gT, rfl⟩
  have B2 := Lib.hid (RB.out gT)
  have T2 := Lib.hid (RT.out gT)
  have U2 := Lib.hid (RU.out gT)
  have P2 := RP gT
  clear F RB hne RT RU RP RP0 RP1 B1 T1 U1 P1
  generalize f_ gT = w2 at *
  clear f_
  obtain ⟨pf0, pf1, pf2, pf3, pf4⟩ := id P2
  go_wp2_with fail
  clear pf0 pf1 pf2 pf3 pf4
  refine (insert_rc f n cap ad ev p c _ T2.out HE.out h1 h2 h3).mono ?_
  rintro e w3 ⟨rfl, hb⟩
  have B3 := Lib.hid (B2.out.up hb)
  have T3 := Lib.hid (T2.out.up hb)
  have U3 := Lib.hid (U2.out.up hb)
  have P3 := P2.up hb
  clear hb B2 T2 U2 P2
  obtain ⟨pf0, pf1, pf2, pf3, pf4⟩ := id P3
  go_wp2_with fail
  clear pf0 pf1 pf2 pf3 pf4
  refine (known_ok _).mono ?_
  rintro e w4 ⟨rfl, hb⟩
  have B4 := Lib.hid (B3.out.up hb)
  have T4 := Lib.hid (T3.out.up hb)
  have U4 := Lib.hid (U3.out.up hb)
  have P4 := P3.up hb
  clear hb B3 T3 U3 P3
  obtain ⟨pf0, pf1, pf2, pf3, pf4⟩ := id P4
  go_wp2_with fail
  clear pf0 pf1 pf2 pf3 pf4
  refine (HR.out ad2 cap2 _ U4.out).mono ?_
  rintro e w5 ⟨rfl, hb⟩
  have B5 := Lib.hid (B4.out.up hb)
  have T5 := Lib.hid (T4.out.up hb)
  have U5 := Lib.hid (U4.out.up hb)
  have P5 := P4.up hb
  clear hb B4 T4 U4 P4
  obtain ⟨pf0, pf1, pf2, pf3, pf4⟩ := id P5
  go_wp2_with fail
  go_ret
  exact ⟨rfl, B5.out.out⟩
set_option maxRecDepth 100000 in
set_option maxHeartbeats 4000000 in
theorem inserts_rd_a (f : Nat → Tp) (n cap : Nat) (ad : Option Addr) (ev p c : Int) (w : World) (hc : n ≤ cap) (h : TsAt w ad n f) (hle : n ≤ 20) (hE : chk f n ev = 0) (h1 : 0 ≤ p) (h2 : p ≤ ev) (h3 : 0 ≤ c) (h4 : 128 - ev < c) :
    Calls Try.prog 11 #[.slice ad n cap, .int .i64 ev, .agg #[.int .i64 p, .int .i64 c]] w fun e w' => e = .returned (.bool true) ∧ Below w.heap.size w w' := by
  have hA : (n : Int) ≤ 20 := by omega
  have hT := h
  have HR := Lib.hid (fun ad2 cap2 u (h : TsAt u ad2 n f) => rcheck_ok f n cap2 ad2 ev u h)
  rw [hE] at HR
  have HE := Lib.hid hE
  obtain ⟨hev0, hev1, _, _⟩ := chk_zero hE
  clear hE
  have g1 : decide (p < 0) = false := decide_eq_false (by omega)
  have g2 : decide (ev < p) = false := decide_eq_false (by omega)
  have g3 : decide (c < 0) = false := decide_eq_false (by omega)
  have g4 : decide (128 - ev < c) = true := decide_eq_true h4
  have B0 := Lib.hid ((Bel.refl w).alloc (.cells #[.int .i64 p, .int .i64 c] 58))
  have T0 := Lib.hid ((Lib.hid hT).out.below ((Below.refl _ _).alloc (Nat.le_refl _) (.cells #[.int .i64 p, .int .i64 c] 58)))
  have P0 := Duo.new w (.int .i64 p) (.int .i64 c) 58 (w.heap.size) (by simp)
  have HT := Lib.hid hT
  clear h hT
  go_enter Try.func11, Try.ntmps11
  obtain ⟨pf0, pf1, pf2, pf3, pf4⟩ := id P0
  go_wp2_with fail
  clear pf0 pf1 pf2 pf3 pf4
  refine (to_ok f n cap ad _ (by omega) T0.out).mono ?_
  rintro e w1 ⟨ad2, cap2, rfl, hb, hU⟩
  have B1 := Lib.hid (B0.out.up hb)
  have T1 := Lib.hid (T0.out.up hb)
  have P1 := P0.up hb
  have U1 := Lib.hid hU
  clear hU
  clear hb B0 T0 P0
  obtain ⟨pf0, pf1, pf2, pf3, pf4⟩ := id P1
  go_wp2_with fail
  clear pf0 pf1 pf2 pf3 pf4
  refine Qt.regionAll (by kernel_rfl) (by kernel_rfl) ?_
  intro T f_ F hne
  have RB := Lib.hid (fun g => B1.out.up (F.below g))
  have RT := Lib.hid (fun g => T1.out.up (F.below g))
  have RU := Lib.hid (fun g => U1.out.up (F.below g))
  have RP := fun g => P1.up (F.below g)
  have RP0 := fun g => (RP g).c0
  have RP1 := fun g => (RP g).c1
  repeat (go_big_quiet_step (fail))
  refine wpQuiet_nil ?_
  rintro _ ⟨gT, rfl⟩
  have B2 := Lib.hid (RB.out gT)
  have T2 := Lib.hid (RT.out gT)
  have U2 := Lib.hid (RU.out gT)
  have P2 := RP gT
  clear F RB hne RT RU RP RP0 RP1 B1 T1 U1 P1
  generalize f_ gT = w2 at *
  clear f_
  obtain ⟨pf0, pf1, pf2, pf3, pf4⟩ := id P2
  go_wp2_with fail
  clear pf0 pf1 pf2 pf3 pf4
  refine (insert_rd f n cap ad ev p c _ T2.out HE.out h1 h2 h3 h4).mono ?_
  rintro e w3 ⟨rfl, hb⟩
  have B3 := Lib.hid (B2.out.up hb)
  have T3 := Lib.hid (T2.out.up hb)
  have U3 := Lib.hid (U2.out.up hb)
  have P3 := P2.up hb
  clear hb B2 T2 U2 P2
  obtain ⟨pf0, pf1, pf2, pf3, pf4⟩ := id P3
  go_wp2_with fail
  clear pf0 pf1 pf2 pf3 pf4
  refine (known_ok _).mono ?_
  rintro e w4 ⟨rfl, hb⟩
  have B4 := Lib.hid (B3.out.up hb)
  have T4 := Lib.hid (T3.out.up hb)
  have U4 := Lib.hid (U3.out.up hb)
  have P4 := P3.up hb
  clear hb B3 T3 U3 P3
  obtain ⟨pf0, pf1, pf2, pf3, pf4⟩ := id P4
  go_wp2_with fail
  clear pf0 pf1 pf2 pf3 pf4
  refine (HR.out ad2 cap2 _ U4.out).mono ?_
  rintro e w5 ⟨rfl, hb⟩
  have B5 := Lib.hid (B4.out.up hb)
  have T5 := Lib.hid (T4.out.up hb)
  have U5 := Lib.hid (U4.out.up hb)
  have P5 := P4.up hb
  clear hb B4 T4 U4 P4
  obtain ⟨pf0, pf1, pf2, pf3, pf4⟩ := id P5
  go_wp2_with fail
  go_ret
  exact ⟨rfl, B5.out.out⟩
set_option maxRecDepth 100000 in
set_option maxHeartbeats 4000000 in
theorem inserts_ok_a (f : Nat → Tp) (n cap : Nat) (ad : Option Addr) (ev p c : Int) (w : World) (hc : n ≤ cap) (h : TsAt w ad n f) (hle : n ≤ 20) (hE : chk f n ev = 0) (h1 : 0 ≤ p) (h2 : p ≤ ev) (h3 : 0 ≤ c) (h4 : c ≤ 128 - ev) :
    Calls Try.prog 11 #[.slice ad n cap, .int .i64 ev, .agg #[.int .i64 p, .int .i64 c]] w fun e w' => e = .returned (.bool true) ∧ Below w.heap.size w w' := by
  have hA : (n : Int) ≤ 20 := by omega
  have hT := h
  have HR := Lib.hid (fun ad2 cap2 u (h : TsAt u ad2 n f) => rcheck_ok f n cap2 ad2 ev u h)
  rw [hE] at HR
  have HG := Lib.hid (Gd.chk hE)
  have HE := Lib.hid hE
  obtain ⟨hev0, hev1, _, _⟩ := chk_zero hE
  clear hE
  have g1 : decide (p < 0) = false := decide_eq_false (by omega)
  have g2 : decide (ev < p) = false := decide_eq_false (by omega)
  have g3 : decide (c < 0) = false := decide_eq_false (by omega)
  have g4 : decide (128 - ev < c) = false := decide_eq_false (by omega)
  have B0 := Lib.hid ((Bel.refl w).alloc (.cells #[.int .i64 p, .int .i64 c] 58))
  have T0 := Lib.hid ((Lib.hid hT).out.below ((Below.refl _ _).alloc (Nat.le_refl _) (.cells #[.int .i64 p, .int .i64 c] 58)))
  have P0 := Duo.new w (.int .i64 p) (.int .i64 c) 58 (w.heap.size) (by simp)
  have HT := Lib.hid hT
  clear h hT
  go_enter Try.func11, Try.ntmps11
  obtain ⟨pf0, pf1, pf2, pf3, pf4⟩ := id P0
  go_wp2_with fail
  clear pf0 pf1 pf2 pf3 pf4
  refine (to_ok f n cap ad _ (by omega) T0.out).mono ?_
  rintro e w1 ⟨ad2, cap2, rfl, hb, hU⟩
  have B1 := Lib.hid (B0.out.up hb)
  have T1 := Lib.hid (T0.out.up hb)
  have P1 := P0.up hb
  have U1 := Lib.hid hU
  clear hU
  clear hb B0 T0 P0
  obtain ⟨pf0, pf1, pf2, pf3, pf4⟩ := id P1
  go_wp2_with fail
  clear pf0 pf1 pf2 pf3 pf4
  refine Qt.regionAll (by kernel_rfl) (by kernel_rfl) ?_
  intro T f_ F hne
  have RB := Lib.hid (fun g => B1.out.up (F.below g))
  have RT := Lib.hid (fun g => T1.out.up (F.below g))
  have RU := Lib.hid (fun g => U1.out.up (F.below g))
  have RP := fun g => P1.up (F.below g)
  have RP0 := fun g => (RP g).c0
  have RP1 := fun g => (RP g).c1
  repeat (go_big_quiet_step (fail))
  refine wpQuiet_nil ?_
  rintro _ ⟨gT, rfl⟩
  have B2 := Lib.hid (RB.out gT)
  have T2 := Lib.hid (RT.out gT)
  have U2 := Lib.hid (RU.out gT)
  have P2 := RP gT
  clear F RB hne RT RU RP RP0 RP1 B1 T1 U1 P1
  generalize f_ gT = w2 at *
  clear f_
  obtain ⟨pf0, pf1, pf2, pf3, pf4⟩ := id P2
  go_wp2_with fail
  clear pf0 pf1 pf2 pf3 pf4
  refine (insert_ok f n cap ad ev p c _ T2.out HE.out h1 h2 h3 h4).mono ?_
  rintro e w3 ⟨ao, co, rfl, hb, hI⟩
  replace hI := Lib.hid hI
  have B3 := Lib.hid (B2.out.up hb)
  have T3 := Lib.hid (T2.out.up hb)
  have U3 := Lib.hid (U2.out.up hb)
  have P3 := P2.up hb
  clear hb B2 T2 U2 P2
  obtain ⟨pf0, pf1, pf2, pf3, pf4⟩ := id P3
  go_wp2_with fail
  clear pf0 pf1 pf2 pf3 pf4
  refine (known_ok _).mono ?_
  rintro e w4 ⟨rfl, hb⟩
  replace hI := Lib.hid (hI.out.up hb)
  have B4 := Lib.hid (B3.out.up hb)
  have T4 := Lib.hid (T3.out.up hb)
  have U4 := Lib.hid (U3.out.up hb)
  have P4 := P3.up hb
  clear hb B3 T3 U3 P3
  obtain ⟨pf0, pf1, pf2, pf3, pf4⟩ := id P4
  go_wp2_with fail
  clear pf0 pf1 pf2 pf3 pf4
  refine (HR.out ad2 cap2 _ U4.out).mono ?_
  rintro e w5 ⟨rfl, hb⟩
  replace hI := Lib.hid (hI.out.up hb)
  have B5 := Lib.hid (B4.out.up hb)
  have T5 := Lib.hid (T4.out.up hb)
  have U5 := Lib.hid (U4.out.up hb)
  have P5 := P4.up hb
  clear hb B4 T4 U4 P4
  obtain ⟨pf0, pf1, pf2, pf3, pf4⟩ := id P5
  go_wp2_with fail
  clear pf0 pf1 pf2 pf3 pf4
  refine (rinsert_ok f n cap2 ad2 p c _ (by omega) HG.out U5.out h1 (by omega) h3 (by omega)).mono ?_
  rintro e w6 ⟨ad3, cap3, rfl, hb, hV⟩
  replace hI := Lib.hid (hI.out.up hb)
  have hV := Lib.hid hV
  have B6 := Lib.hid (B5.out.up hb)
  have T6 := Lib.hid (T5.out.up hb)
  have U6 := Lib.hid (U5.out.up hb)
  have P6 := P5.up hb
  clear hb B5 T5 U5 P5
  obtain ⟨pf0, pf1, pf2, pf3, pf4⟩ := id P6
  go_wp2_with fail
  clear pf0 pf1 pf2 pf3 pf4
  refine (same_ok (insF f p c) n _ _ _ _ _ hI.out hV.out (by omega)).mono ?_
  rintro e w7 ⟨rfl, hb⟩
  replace hI := Lib.hid (hI.out.up hb)
  have B7 := Lib.hid (B6.out.up hb)
  have T7 := Lib.hid (T6.out.up hb)
  have U7 := Lib.hid (U6.out.up hb)
  have P7 := P6.up hb
  clear hb B6 T6 U6 P6
  obtain ⟨pf0, pf1, pf2, pf3, pf4⟩ := id P7
  go_wp2_with fail
  clear pf0 pf1 pf2 pf3 pf4
  refine (check_v (insF f p c) n _ _ (ev + c) 0 _ hI.out (ins_chk HE.out h1 h2 h3 h4)).mono ?_
  rintro e w8 ⟨rfl, hb⟩
  have B8 := Lib.hid (B7.out.up hb)
  have T8 := Lib.hid (T7.out.up hb)
  have U8 := Lib.hid (U7.out.up hb)
  have P8 := P7.up hb
  clear hb B7 T7 U7 P7
  obtain ⟨pf0, pf1, pf2, pf3, pf4⟩ := id P8
  go_wp2_with fail
  go_ret
  exact ⟨rfl, B8.out.out⟩
set_option maxRecDepth 100000 in
set_option maxHeartbeats 4000000 in
theorem inserts_n_b (f : Nat → Tp) (n cap : Nat) (ad : Option Addr) (ev p c : Int) (w : World) (hc : n ≤ cap) (h : TsAt w ad n f) (hle : 20 < n) (E : Int) (hE : chk f 20 ev = E) (h0 : E ≠ 0) :
    Calls Try.prog 11 #[.slice ad n cap, .int .i64 ev, .agg #[.int .i64 p, .int .i64 c]] w fun e w' => e = .returned (.bool true) ∧ Below w.heap.size w w' := by
  have hA : ¬ (n : Int) ≤ 20 := by omega
  have hc2 : 20 ≤ cap := by omega
  have hT := h.le (show 20 ≤ n by omega)
  have HR := Lib.hid (fun ad2 cap2 u (h : TsAt u ad2 20 f) => rcheck_ok f 20 cap2 ad2 ev u h)
  rw [hE] at HR
  have he1 : (E != 0) = true := by simpa using h0
  have he2 : (E == 0) = false := by simpa using h0
  have hbd := chk_bd f 20 ev
  rw [hE] at hbd
  have HE := Lib.hid hE
  have HN := Lib.hid h0
  clear hE h0
  have B0 := Lib.hid ((Bel.refl w).alloc (.cells #[.int .i64 p, .int .i64 c] 58))
  have T0 := Lib.hid ((Lib.hid hT).out.below ((Below.refl _ _).alloc (Nat.le_refl _) (.cells #[.int .i64 p, .int .i64 c] 58)))
  have P0 := Duo.new w (.int .i64 p) (.int .i64 c) 58 (w.heap.size) (by simp)
  have HT := Lib.hid hT
  clear h hT
  go_enter Try.func11, Try.ntmps11
  obtain ⟨pf0, pf1, pf2, pf3, pf4⟩ := id P0
  go_wp2_with fail
  clear pf0 pf1 pf2 pf3 pf4
  refine (to_ok f 20 cap ad _ (by omega) T0.out).mono ?_
  rintro e w1 ⟨ad2, cap2, rfl, hb, hU⟩
  have B1 := Lib.hid (B0.out.up hb)
  have T1 := Lib.hid (T0.out.up hb)
  have P1 := P0.up hb
  have U1 := Lib.hid hU
  clear hU
  clear hb B0 T0 P0
  obtain ⟨pf0, pf1, pf2, pf3, pf4⟩ := id P1
  go_wp2_with fail
  clear pf0 pf1 pf2 pf3 pf4
  refine Qt.regionAll (by kernel_rfl) (by kernel_rfl) ?_
  intro T f_ F hne
  have RB := Lib.hid (fun g => B1.out.up (F.below g))
  have RT := Lib.hid (fun g => T1.out.up (F.below g))
  have RU := Lib.hid (fun g => U1.out.up (F.below g))
  have RP := fun g => P1.up (F.below g)
  have RP0 := fun g => (RP g).c0
  have RP1 := fun g => (RP g).c1
  repeat (go_big_quiet_step (fail))
  refine wpQuiet_nil ?_
  rintro _ ⟨gT, rfl⟩
  have B2 := Lib.hid (RB.out gT)
  have T2 := Lib.hid (RT.out gT)
  have U2 := Lib.hid (RU.out gT)
  have P2 := RP gT
  clear F RB hne RT RU RP RP0 RP1 B1 T1 U1 P1
  generalize f_ gT = w2 at *
  clear f_
  obtain ⟨pf0, pf1, pf2, pf3, pf4⟩ := id P2
  go_wp2_with fail
  clear pf0 pf1 pf2 pf3 pf4
  refine (insert_n f 20 cap ad ev p c E _ T2.out HE.out HN.out).mono ?_
  rintro e w3 ⟨rfl, hb⟩
  have B3 := Lib.hid (B2.out.up hb)
  have T3 := Lib.hid (T2.out.up hb)
  have U3 := Lib.hid (U2.out.up hb)
  have P3 := P2.up hb
  clear hb B2 T2 U2 P2
  obtain ⟨pf0, pf1, pf2, pf3, pf4⟩ := id P3
  go_wp2_with fail
  clear pf0 pf1 pf2 pf3 pf4
  refine (known_ok _).mono ?_
  rintro e w4 ⟨rfl, hb⟩
  have B4 := Lib.hid (B3.out.up hb)
  have T4 := Lib.hid (T3.out.up hb)
  have U4 := Lib.hid (U3.out.up hb)
  have P4 := P3.up hb
  clear hb B3 T3 U3 P3
  obtain ⟨pf0, pf1, pf2, pf3, pf4⟩ := id P4
  go_wp2_with fail
  clear pf0 pf1 pf2 pf3 pf4
  refine (HR.out ad2 cap2 _ U4.out).mono ?_
  rintro e w5 ⟨rfl, hb⟩
  have B5 := Lib.hid (B4.out.up hb)
  have T5 := Lib.hid (T4.out.up hb)
  have U5 := Lib.hid (U4.out.up hb)
  have P5 := P4.up hb
  clear hb B4 T4 U4 P4
  obtain ⟨pf0, pf1, pf2, pf3, pf4⟩ := id P5
  go_wp2_with fail
  go_ret
  exact ⟨rfl, B5.out.out⟩
set_option maxRecDepth 100000 in
set_option maxHeartbeats 4000000 in
theorem inserts_ra_b (f : Nat → Tp) (n cap : Nat) (ad : Option Addr) (ev p c : Int) (w : World) (hc : n ≤ cap) (h : TsAt w ad n f) (hle : 20 < n) (hE : chk f 20 ev = 0) (h1 : p < 0) :
    Calls Try.prog 11 #[.slice ad n cap, .int .i64 ev, .agg #[.int .i64 p, .int .i64 c]] w fun e w' => e = .returned (.bool true) ∧ Below w.heap.size w w' := by
  have hA : ¬ (n : Int) ≤ 20 := by omega
  have hc2 : 20 ≤ cap := by omega
  have hT := h.le (show 20 ≤ n by omega)
  have HR := Lib.hid (fun ad2 cap2 u (h : TsAt u ad2 20 f) => rcheck_ok f 20 cap2 ad2 ev u h)
  rw [hE] at HR
  have HE := Lib.hid hE
  obtain ⟨hev0, hev1, _, _⟩ := chk_zero hE
  clear hE
  have g1 : decide (p < 0) = true := decide_eq_true h1
  have B0 := Lib.hid ((Bel.refl w).alloc (.cells #[.int .i64 p, .int .i64 c] 58))
  have T0 := Lib.hid ((Lib.hid hT).out.below ((Below.refl _ _).alloc (Nat.le_refl _) (.cells #[.int .i64 p, .int .i64 c] 58)))
  have P0 := Duo.new w (.int .i64 p) (.int .i64 c) 58 (w.heap.size) (by simp)
  have HT := Lib.hid hT
  clear h hT
  go_enter Try.func11, Try.ntmps11
  obtain ⟨pf0, pf1, pf2, pf3, pf4⟩ := id P0
  go_wp2_with fail
  clear pf0 pf1 pf2 pf3 pf4
  refine (to_ok f 20 cap ad _ (by omega) T0.out).mono ?_
  rintro e w1 ⟨ad2, cap2, rfl, hb, hU⟩
  have B1 := Lib.hid (B0.out.up hb)
  have T1 := Lib.hid (T0.out.up hb)
  have P1 := P0.up hb
  have U1 := Lib.hid hU
  clear hU
  clear hb B0 T0 P0
  obtain ⟨pf0, pf1, pf2, pf3, pf4⟩ := id P1
  go_wp2_with fail
  clear pf0 pf1 pf2 pf3 pf4
  refine Qt.regionAll (by kernel_rfl) (by kernel_rfl) ?_
  intro T f_ F hne
  have RB := Lib.hid (fun g => B1.out.up (F.below g))
  have RT := Lib.hid (fun g => T1.out.up (F.below g))
  have RU := Lib.hid (fun g => U1.out.up (F.below g))
  have RP := fun g => P1.up (F.below g)
  have RP0 := fun g => (RP g).c0
  have RP1 := fun g => (RP g).c1
  repeat (go_big_quiet_step (fail))
  refine wpQuiet_nil ?_
  rintro _ ⟨gT, rfl⟩
  have B2 := Lib.hid (RB.out gT)
  have T2 := Lib.hid (RT.out gT)
  have U2 := Lib.hid (RU.out gT)
  have P2 := RP gT
  clear F RB hne RT RU RP RP0 RP1 B1 T1 U1 P1
  generalize f_ gT = w2 at *
  clear f_
  obtain ⟨pf0, pf1, pf2, pf3, pf4⟩ := id P2
  go_wp2_with fail
  clear pf0 pf1 pf2 pf3 pf4
  refine (insert_ra f 20 cap ad ev p c _ T2.out HE.out h1).mono ?_
  rintro e w3 ⟨rfl, hb⟩
  have B3 := Lib.hid (B2.out.up hb)
  have T3 := Lib.hid (T2.out.up hb)
  have U3 := Lib.hid (U2.out.up hb)
  have P3 := P2.up hb
  clear hb B2 T2 U2 P2
  obtain ⟨pf0, pf1, pf2, pf3, pf4⟩ := id P3
  go_wp2_with fail
  clear pf0 pf1 pf2 pf3 pf4
  refine (known_ok _).mono ?_
  rintro e w4 ⟨rfl, hb⟩
  have B4 := Lib.hid (B3.out.up hb)
  have T4 := Lib.hid (T3.out.up hb)
  have U4 := Lib.hid (U3.out.up hb)
  have P4 := P3.up hb
  clear hb B3 T3 U3 P3
  obtain ⟨pf0, pf1, pf2, pf3, pf4⟩ := id P4
  go_wp2_with fail
  clear pf0 pf1 pf2 pf3 pf4
  refine (HR.out ad2 cap2 _ U4.out).mono ?_
  rintro e w5 ⟨rfl, hb⟩
  have B5 := Lib.hid (B4.out.up hb)
  have T5 := Lib.hid (T4.out.up hb)
  have U5 := Lib.hid (U4.out.up hb)
  have P5 := P4.up hb
  clear hb B4 T4 U4 P4
  obtain ⟨pf0, pf1, pf2, pf3, pf4⟩ := id P5
  go_wp2_with fail
  go_ret
  exact ⟨rfl, B5.out.out⟩
set_option maxRecDepth 100000 in
set_option maxHeartbeats 4000000 in
theorem inserts_rb_b (f : Nat → Tp) (n cap : Nat) (ad : Option Addr) (ev p c : Int) (w : World) (hc : n ≤ cap) (h : TsAt w ad n f) (hle : 20 < n) (hE : chk f 20 ev = 0) (h1 : 0 ≤ p) (h2 : ev < p) :
    Calls Try.prog 11 #[.slice ad n cap, .int .i64 ev, .agg #[.int .i64 p, .int .i64 c]] w fun e w' => e = .returned (.bool true) ∧ Below w.heap.size w w' := by
  have hA : ¬ (n : Int) ≤ 20 := by omega
  have hc2 : 20 ≤ cap := by omega
  have hT := h.le (show 20 ≤ n by omega)
  have HR := Lib.hid (fun ad2 cap2 u (h : TsAt u ad2 20 f) => rcheck_ok f 20 cap2 ad2 ev u h)
  rw [hE] at HR
  have HE := Lib.hid hE
  obtain ⟨hev0, hev1, _, _⟩ := chk_zero hE
  clear hE
  have g1 : decide (p < 0) = false := decide_eq_false (by omega)
  have g2 : decide (ev < p) = true := decide_eq_true h2
  have B0 := Lib.hid ((Bel.refl w).alloc (.cells #[.int .i64 p, .int .i64 c] 58))
  have T0 := Lib.hid ((Lib.hid hT).out.below ((Below.refl _ _).alloc (Nat.le_refl _) (.cells #[.int .i64 p, .int .i64 c] 58)))
  have P0 := Duo.new w (.int .i64 p) (.int .i64 c) 58 (w.heap.size) (by simp)
  have HT := Lib.hid hT
  clear h hT
  go_enter Try.func11, Try.ntmps11
  obtain ⟨pf0, pf1, pf2, pf3, pf4⟩ := id P0
  go_wp2_with fail
  clear pf0 pf1 pf2 pf3 pf4
  refine (to_ok f 20 cap ad _ (by omega) T0.out).mono ?_
  rintro e w1 ⟨ad2, cap2, rfl, hb, hU⟩
  have B1 := Lib.hid (B0.out.up hb)
  have T1 := Lib.hid (T0.out.up hb)
  have P1 := P0.up hb
  have U1 := Lib.hid hU
  clear hU
  clear hb B0 T0 P0
  obtain ⟨pf0, pf1, pf2, pf3, pf4⟩ := id P1
  go_wp2_with fail
  clear pf0 pf1 pf2 pf3 pf4
  refine Qt.regionAll (by kernel_rfl) (by kernel_rfl) ?_
  intro T f_ F hne
  have RB := Lib.hid (fun g => B1.out.up (F.below g))
  have RT := Lib.hid (fun g => T1.out.up (F.below g))
  have RU := Lib.hid (fun g => U1.out.up (F.below g))
  have RP := fun g => P1.up (F.below g)
  have RP0 := fun g => (RP g).c0
  have RP1 := fun g => (RP g).c1
  repeat (go_big_quiet_step (fail))
  refine wpQuiet_nil ?_
  rintro _ ⟨gT, rfl⟩
  have B2 := Lib.hid (RB.out gT)
  have T2 := Lib.hid (RT.out gT)
  have U2 := Lib.hid (RU.out gT)
  have P2 := RP gT
  clear F RB hne RT RU RP RP0 RP1 B1 T1 U1 P1
  generalize f_ gT = w2 at *
  clear f_
  obtain ⟨pf0, pf1, pf2, pf3, pf4⟩ := id P2
  go_wp2_with fail
  clear pf0 pf1 pf2 pf3 pf4
  refine (insert_rb f 20 cap ad ev p c _ T2.out HE.out h1 h2).mono ?_
  rintro e w3 ⟨rfl, hb⟩
  have B3 := Lib.hid (B2.out.up hb)
  have T3 := Lib.hid (T2.out.up hb)
  have U3 := Lib.hid (U2.out.up hb)
  have P3 := P2.up hb
  clear hb B2 T2 U2 P2
  obtain ⟨pf0, pf1, pf2, pf3, pf4⟩ := id P3
  go_wp2_with fail
  clear pf0 pf1 pf2 pf3 pf4
  refine (known_ok _).mono ?_
  rintro e w4 ⟨rfl, hb⟩
  have B4 := Lib.hid (B3.out.up hb)
  have T4 := Lib.hid (T3.out.up hb)
  have U4 := Lib.hid (U3.out.up hb)
  have P4 := P3.up hb
  clear hb B3 T3 U3 P3
  obtain ⟨pf0, pf1, pf2, pf3, pf4⟩ := id P4
  go_wp2_with fail
  clear pf0 pf1 pf2 pf3 pf4
  refine (HR.out ad2 cap2 _ U4.out).mono ?_
  rintro e w5 ⟨rfl, hb⟩
  have B5 := Lib.hid (B4.out.up hb)
  have T5 := Lib.hid (T4.out.up hb)
  have U5 := Lib.hid (U4.out.up hb)
  have P5 := P4.up hb
  clear hb B4 T4 U4 P4
  obtain ⟨pf0, pf1, pf2, pf3, pf4⟩ := id P5
  go_wp2_with fail
  go_ret
  exact ⟨rfl, B5.out.out⟩
set_option maxRecDepth 100000 in
set_option maxHeartbeats 4000000 in
theorem inserts_rc_b (f : Nat → Tp) (n cap : Nat) (ad : Option Addr) (ev p c : Int) (w : World) (hc : n ≤ cap) (h : TsAt w ad n f) (hle : 20 < n) (hE : chk f 20 ev = 0) (h1 : 0 ≤ p) (h2 : p ≤ ev) (h3 : c < 0) :
    Calls Try.prog 11 #[.slice ad n cap, .int .i64 ev, .agg #[.int .i64 p, .int .i64 c]] w fun e w' => e = .returned (.bool true) ∧ Below w.heap.size w w' := by
  have hA : ¬ (n : Int) ≤ 20 := by omega
  have hc2 : 20 ≤ cap := by omega
  have hT := h.le (show 20 ≤ n by omega)
  have HR := Lib.hid (fun ad2 cap2 u (h : TsAt u ad2 20 f) => rcheck_ok f 20 cap2 ad2 ev u h)
  rw [hE] at HR
  have HE := Lib.hid hE
  obtain ⟨hev0, hev1, _, _⟩ := chk_zero hE
  clear hE
  have g1 : decide (p < 0) = false := decide_eq_false (by omega)
  have g2 : decide (ev < p) = false := decide_eq_false (by omega)
  have g3 : decide (c < 0) = true := decide_eq_true h3
  have B0 := Lib.hid ((Bel.refl w).alloc (.cells #[.int .i64 p, .int .i64 c] 58))
  have T0 := Lib.hid ((Lib.hid hT).out.below ((Below.refl _ _).alloc (Nat.le_refl _) (.cells #[.int .i64 p, .int .i64 c] 58)))
  have P0 := Duo.new w (.int .i64 p) (.int .i64 c) 58 (w.heap.size) (by simp)
  have HT := Lib.hid hT
  clear h hT
  go_enter Try.func11, Try.ntmps11
  obtain ⟨pf0, pf1, pf2, pf3, pf4⟩ := id P0
  go_wp2_with fail
  clear pf0 pf1 pf2 pf3 pf4
  refine (to_ok f 20 cap ad _ (by omega) T0.out).mono ?_
  rintro e w1 ⟨ad2, cap2, rfl, hb, hU⟩
  have B1 := Lib.hid (B0.out.up hb)
  have T1 := Lib.hid (T0.out.up hb)
  have P1 := P0.up hb
  have U1 := Lib.hid hU
  clear hU
  clear hb B0 T0 P0
  obtain ⟨pf0, pf1, pf2, pf3, pf4⟩ := id P1
  go_wp2_with fail
  clear pf0 pf1 pf2 pf3 pf4
  refine Qt.regionAll (by kernel_rfl) (by kernel_rfl) ?_
  intro T f_ F hne
  have RB := Lib.hid (fun g => B1.out.up (F.below g))
  have RT := Lib.hid (fun g => T1.out.up (F.below g))
  have RU := Lib.hid (fun g => U1.out.up (F.below g))
  have RP := fun g => P1.up (F.below g)
  have RP0 := fun g => (RP g).c0
  have RP1 := fun g => (RP g).c1
  repeat (go_big_quiet_step (fail))
  refine wpQuiet_nil ?_
  rintro _ ⟨gT, rfl⟩
  have B2 := Lib.hid (RB.out gT)
  have T2 := Lib.hid (RT.out gT)
  have U2 := Lib.hid (RU.out gT)
  have P2 := RP gT
  clear F RB hne RT RU RP RP0 RP1 B1 T1 U1 P1
  generalize f_ gT = w2 at *
  clear f_
  obtain ⟨pf0, pf1, pf2, pf3, pf4⟩ := id P2
  go_wp2_with fail
  clear pf0 pf1 pf2 pf3 pf4
  refine (insert_rc f 20 cap ad ev p c _ T2.out HE.out h1 h2 h3).mono ?_
  rintro e w3 ⟨rfl, hb⟩
  have B3 := Lib.hid (B2.out.up hb)
  have T3 := Lib.hid (T2.out.up hb)
  have U3 := Lib.hid (U2.out.up hb)
  have P3 := P2.up hb
  clear hb B2 T2 U2 P2
  obtain ⟨pf0, pf1, pf2, pf3, pf4⟩ := id P3
  go_wp2_with fail
  clear pf0 pf1 pf2 pf3 pf4
  refine (known_ok _).mono ?_
  rintro e w4 ⟨rfl, hb⟩
  have B4 := Lib.hid (B3.out.up hb)
  have T4 := Lib.hid (T3.out.up hb)
  have U4 := Lib.hid (U3.out.up hb)
  have P4 := P3.up hb
  clear hb B3 T3 U3 P3
  obtain ⟨pf0, pf1, pf2, pf3, pf4⟩ := id P4
  go_wp2_with fail
  clear pf0 pf1 pf2 pf3 pf4
  refine (HR.out ad2 cap2 _ U4.out).mono ?_
  rintro e w5 ⟨rfl, hb⟩
  have B5 := Lib.hid (B4.out.up hb)
  have T5 := Lib.hid (T4.out.up hb)
  have U5 := Lib.hid (U4.out.up hb)
  have P5 := P4.up hb
  clear hb B4 T4 U4 P4
  obtain ⟨pf0, pf1, pf2, pf3, pf4⟩ := id P5
  go_wp2_with fail
  go_ret
  exact ⟨rfl, B5.out.out⟩
set_option maxRecDepth 100000 in
set_option maxHeartbeats 4000000 in
theorem inserts_rd_b (f : Nat → Tp) (n cap : Nat) (ad : Option Addr) (ev p c : Int) (w : World) (hc : n ≤ cap) (h : TsAt w ad n f) (hle : 20 < n) (hE : chk f 20 ev = 0) (h1 : 0 ≤ p) (h2 : p ≤ ev) (h3 : 0 ≤ c) (h4 : 128 - ev < c) :
    Calls Try.prog 11 #[.slice ad n cap, .int .i64 ev, .agg #[.int .i64 p, .int .i64 c]] w fun e w' => e = .returned (.bool true) ∧ Below w.heap.size w w' := by
  have hA : ¬ (n : Int) ≤ 20 := by omega
  have hc2 : 20 ≤ cap := by omega
  have hT := h.le (show 20 ≤ n by omega)
  have HR := Lib.hid (fun ad2 cap2 u (h : TsAt u ad2 20 f) => rcheck_ok f 20 cap2 ad2 ev u h)
  rw [hE] at HR
  have HE := Lib.hid hE
  obtain ⟨hev0, hev1, _, _⟩ := chk_zero hE
  clear hE
  have g1 : decide (p < 0) = false := decide_eq_false (by omega)
  have g2 : decide (ev < p) = false := decide_eq_false (by omega)
  have g3 : decide (c < 0) = false := decide_eq_false (by omega)
  have g4 : decide (128 - ev < c) = true := decide_eq_true h4
  have B0 := Lib.hid ((Bel.refl w).alloc (.cells #[.int .i64 p, .int .i64 c] 58))
  have T0 := Lib.hid ((Lib.hid hT).out.below ((Below.refl _ _).alloc (Nat.le_refl _) (.cells #[.int .i64 p, .int .i64 c] 58)))
  have P0 := Duo.new w (.int .i64 p) (.int .i64 c) 58 (w.heap.size) (by simp)
  have HT := Lib.hid hT
  clear h hT
  go_enter Try.func11, Try.ntmps11
  obtain ⟨pf0, pf1, pf2, pf3, pf4⟩ := id P0
  go_wp2_with fail
  clear pf0 pf1 pf2 pf3 pf4
  refine (to_ok f 20 cap ad _ (by omega) T0.out).mono ?_
  rintro e w1 ⟨ad2, cap2, rfl, hb, hU⟩
  have B1 := Lib.hid (B0.out.up hb)
  have T1 := Lib.hid (T0.out.up hb)
  have P1 := P0.up hb
  have U1 := Lib.hid hU
  clear hU
  clear hb B0 T0 P0
  obtain ⟨pf0, pf1, pf2, pf3, pf4⟩ := id P1
  go_wp2_with fail
  clear pf0 pf1 pf2 pf3 pf4
  refine Qt.regionAll (by kernel_rfl) (by kernel_rfl) ?_
  intro T f_ F hne
  have RB := Lib.hid (fun g => B1.out.up (F.below g))
  have RT := Lib.hid (fun g => T1.out.up (F.below g))
  have RU := Lib.hid (fun g => U1.out.up (F.below g))
  have RP := fun g => P1.up (F.below g)
  have RP0 := fun g => (RP g).c0
  have RP1 := fun g => (RP g).c1
  repeat (go_big_quiet_step (fail))
  refine wpQuiet_nil ?_
  rintro _ ⟨gT, rfl⟩
  have B2 := Lib.hid (RB.out gT)
  have T2 := Lib.hid (RT.out gT)
  have U2 := Lib.hid (RU.out gT)
  have P2 := RP gT
  clear F RB hne RT RU RP RP0 RP1 B1 T1 U1 P1
  generalize f_ gT = w2 at *
  clear f_
  obtain ⟨pf0, pf1, pf2, pf3, pf4⟩ := id P2
  go_wp2_with fail
  clear pf0 pf1 pf2 pf3 pf4
  refine (insert_rd f 20 cap ad ev p c _ T2.out HE.out h1 h2 h3 h4).mono ?_
  rintro e w3 ⟨rfl, hb⟩
  have B3 := Lib.hid (B2.out.up hb)
  have T3 := Lib.hid (T2.out.up hb)
  have U3 := Lib.hid (U2.out.up hb)
  have P3 := P2.up hb
  clear hb B2 T2 U2 P2
  obtain ⟨pf0, pf1, pf2, pf3, pf4⟩ := id P3
  go_wp2_with fail
  clear pf0 pf1 pf2 pf3 pf4
  refine (known_ok _).mono ?_
  rintro e w4 ⟨rfl, hb⟩
  have B4 := Lib.hid (B3.out.up hb)
  have T4 := Lib.hid (T3.out.up hb)
  have U4 := Lib.hid (U3.out.up hb)
  have P4 := P3.up hb
  clear hb B3 T3 U3 P3
  obtain ⟨pf0, pf1, pf2, pf3, pf4⟩ := id P4
  go_wp2_with fail
  clear pf0 pf1 pf2 pf3 pf4
  refine (HR.out ad2 cap2 _ U4.out).mono ?_
  rintro e w5 ⟨rfl, hb⟩
  have B5 := Lib.hid (B4.out.up hb)
  have T5 := Lib.hid (T4.out.up hb)
  have U5 := Lib.hid (U4.out.up hb)
  have P5 := P4.up hb
  clear hb B4 T4 U4 P4
  obtain ⟨pf0, pf1, pf2, pf3, pf4⟩ := id P5
  go_wp2_with fail
  go_ret
  exact ⟨rfl, B5.out.out⟩
set_option maxRecDepth 100000 in
set_option maxHeartbeats 4000000 in
theorem inserts_ok_b (f : Nat → Tp) (n cap : Nat) (ad : Option Addr) (ev p c : Int) (w : World) (hc : n ≤ cap) (h : TsAt w ad n f) (hle : 20 < n) (hE : chk f 20 ev = 0) (h1 : 0 ≤ p) (h2 : p ≤ ev) (h3 : 0 ≤ c) (h4 : c ≤ 128 - ev) :
    Calls Try.prog 11 #[.slice ad n cap, .int .i64 ev, .agg #[.int .i64 p, .int .i64 c]] w fun e w' => e = .returned (.bool true) ∧ Below w.heap.size w w' := by
  have hA : ¬ (n : Int) ≤ 20 := by omega
  have hc2 : 20 ≤ cap := by omega
  have hT := h.le (show 20 ≤ n by omega)
  have HR := Lib.hid (fun ad2 cap2 u (h : TsAt u ad2 20 f) => rcheck_ok f 20 cap2 ad2 ev u h)
  rw [hE] at HR
  have HG := Lib.hid (Gd.chk hE)
  have HE := Lib.hid hE
  obtain ⟨hev0, hev1, _, _⟩ := chk_zero hE
  clear hE
  have g1 : decide (p < 0) = false := decide_eq_false (by omega)
  have g2 : decide (ev < p) = false := decide_eq_false (by omega)
  have g3 : decide (c < 0) = false := decide_eq_false (by omega)
  have g4 : decide (128 - ev < c) = false := decide_eq_false (by omega)
  have B0 := Lib.hid ((Bel.refl w).alloc (.cells #[.int .i64 p, .int .i64 c] 58))
  have T0 := Lib.hid ((Lib.hid hT).out.below ((Below.refl _ _).alloc (Nat.le_refl _) (.cells #[.int .i64 p, .int .i64 c] 58)))
  have P0 := Duo.new w (.int .i64 p) (.int .i64 c) 58 (w.heap.size) (by simp)
  have HT := Lib.hid hT
  clear h hT
  go_enter Try.func11, Try.ntmps11
  obtain ⟨pf0, pf1, pf2, pf3, pf4⟩ := id P0
  go_wp2_with fail
  clear pf0 pf1 pf2 pf3 pf4
  refine (to_ok f 20 cap ad _ (by omega) T0.out).mono ?_
  rintro e w1 ⟨ad2, cap2, rfl, hb, hU⟩
  have B1 := Lib.hid (B0.out.up hb)
  have T1 := Lib.hid (T0.out.up hb)
  have P1 := P0.up hb
  have U1 := Lib.hid hU
  clear hU
  clear hb B0 T0 P0
  obtain ⟨pf0, pf1, pf2, pf3, pf4⟩ := id P1
  go_wp2_with fail
  clear pf0 pf1 pf2 pf3 pf4
  refine Qt.regionAll (by kernel_rfl) (by kernel_rfl) ?_
  intro T f_ F hne
  have RB := Lib.hid (fun g => B1.out.up (F.below g))
  have RT := Lib.hid (fun g => T1.out.up (F.below g))
  have RU := Lib.hid (fun g => U1.out.up (F.below g))
  have RP := fun g => P1.up (F.below g)
  have RP0 := fun g => (RP g).c0
  have RP1 := fun g => (RP g).c1
  repeat (go_big_quiet_step (fail))
  refine wpQuiet_nil ?_
  rintro _ ⟨gT, rfl⟩
  have B2 := Lib.hid (RB.out gT)
  have T2 := Lib.hid (RT.out gT)
  have U2 := Lib.hid (RU.out gT)
  have P2 := RP gT
  clear F RB hne RT RU RP RP0 RP1 B1 T1 U1 P1
  generalize f_ gT = w2 at *
  clear f_
  obtain ⟨pf0, pf1, pf2, pf3, pf4⟩ := id P2
  go_wp2_with fail
  clear pf0 pf1 pf2 pf3 pf4
  refine (insert_ok f 20 cap ad ev p c _ T2.out HE.out h1 h2 h3 h4).mono ?_
  rintro e w3 ⟨ao, co, rfl, hb, hI⟩
  replace hI := Lib.hid hI
  have B3 := Lib.hid (B2.out.up hb)
  have T3 := Lib.hid (T2.out.up hb)
  have U3 := Lib.hid (U2.out.up hb)
  have P3 := P2.up hb
  clear hb B2 T2 U2 P2
  obtain ⟨pf0, pf1, pf2, pf3, pf4⟩ := id P3
  go_wp2_with fail
  clear pf0 pf1 pf2 pf3 pf4
  refine (known_ok _).mono ?_
  rintro e w4 ⟨rfl, hb⟩
  replace hI := Lib.hid (hI.out.up hb)
  have B4 := Lib.hid (B3.out.up hb)
  have T4 := Lib.hid (T3.out.up hb)
  have U4 := Lib.hid (U3.out.up hb)
  have P4 := P3.up hb
  clear hb B3 T3 U3 P3
  obtain ⟨pf0, pf1, pf2, pf3, pf4⟩ := id P4
  go_wp2_with fail
  clear pf0 pf1 pf2 pf3 pf4
  refine (HR.out ad2 cap2 _ U4.out).mono ?_
  rintro e w5 ⟨rfl, hb⟩
  replace hI := Lib.hid (hI.out.up hb)
  have B5 := Lib.hid (B4.out.up hb)
  have T5 := Lib.hid (T4.out.up hb)
  have U5 := Lib.hid (U4.out.up hb)
  have P5 := P4.up hb
  clear hb B4 T4 U4 P4
  obtain ⟨pf0, pf1, pf2, pf3, pf4⟩ := id P5
  go_wp2_with fail
  clear pf0 pf1 pf2 pf3 pf4
  refine (rinsert_ok f 20 cap2 ad2 p c _ (by omega) HG.out U5.out h1 (by omega) h3 (by omega)).mono ?_
  rintro e w6 ⟨ad3, cap3, rfl, hb, hV⟩
  replace hI := Lib.hid (hI.out.up hb)
  have hV := Lib.hid hV
  have B6 := Lib.hid (B5.out.up hb)
  have T6 := Lib.hid (T5.out.up hb)
  have U6 := Lib.hid (U5.out.up hb)
  have P6 := P5.up hb
  clear hb B5 T5 U5 P5
  obtain ⟨pf0, pf1, pf2, pf3, pf4⟩ := id P6
  go_wp2_with fail
  clear pf0 pf1 pf2 pf3 pf4
  refine (same_ok (insF f p c) 20 _ _ _ _ _ hI.out hV.out (by omega)).mono ?_
  rintro e w7 ⟨rfl, hb⟩
  replace hI := Lib.hid (hI.out.up hb)
  have B7 := Lib.hid (B6.out.up hb)
  have T7 := Lib.hid (T6.out.up hb)
  have U7 := Lib.hid (U6.out.up hb)
  have P7 := P6.up hb
  clear hb B6 T6 U6 P6
  obtain ⟨pf0, pf1, pf2, pf3, pf4⟩ := id P7
  go_wp2_with fail
  clear pf0 pf1 pf2 pf3 pf4
  refine (check_v (insF f p c) 20 _ _ (ev + c) 0 _ hI.out (ins_chk HE.out h1 h2 h3 h4)).mono ?_
  rintro e w8 ⟨rfl, hb⟩
  have B8 := Lib.hid (B7.out.up hb)
  have T8 := Lib.hid (T7.out.up hb)
  have U8 := Lib.hid (U7.out.up hb)
  have P8 := P7.up hb
  clear hb B7 T7 U7 P7
  obtain ⟨pf0, pf1, pf2, pf3, pf4⟩ := id P8
  go_wp2_with fail
  go_ret
  exact ⟨rfl, B8.out.out⟩
theorem law_TupletInserts (f : Nat → Tp) (n cap : Nat) (ad : Option Addr) (ev p c : Int) (w : World) (hc : n ≤ cap) (h : TsAt w ad n f) (hb1 : -9223372036854775808 ≤ ev ∧ ev ≤ 9223372036854775807) (hb2 : -9223372036854775808 ≤ p ∧ p ≤ 9223372036854775807) (hb3 : -9223372036854775808 ≤ c ∧ c ≤ 9223372036854775807) : Calls Try.prog 11 #[.slice ad n cap, .int .i64 ev, .agg #[.int .i64 p, .int .i64 c]] w fun e w' => e = .returned (.bool true) ∧ Below w.heap.size w w' := by
  by_cases hle : n ≤ 20
  · by_cases hE : chk f n ev = 0
    · by_cases h1 : p < 0
      · exact inserts_ra_a f n cap ad ev p c w hc h hle hE h1
      · by_cases h2 : ev < p
        · exact inserts_rb_a f n cap ad ev p c w hc h hle hE (by omega) h2
        · by_cases h3 : c < 0
          · exact inserts_rc_a f n cap ad ev p c w hc h hle hE (by omega) (by omega) h3
          · by_cases h4 : 128 - ev < c
            · exact inserts_rd_a f n cap ad ev p c w hc h hle hE (by omega) (by omega) (by omega) h4
            · exact inserts_ok_a f n cap ad ev p c w hc h hle hE (by omega) (by omega) (by omega) (by omega)
    · exact inserts_n_a f n cap ad ev p c w hc h hle _ rfl hE
  · by_cases hE : chk f 20 ev = 0
    · by_cases h1 : p < 0
      · exact inserts_ra_b f n cap ad ev p c w hc h (by omega) hE h1
      · by_cases h2 : ev < p
        · exact inserts_rb_b f n cap ad ev p c w hc h (by omega) hE (by omega) h2
        · by_cases h3 : c < 0
          · exact inserts_rc_b f n cap ad ev p c w hc h (by omega) hE (by omega) (by omega) h3
          · by_cases h4 : 128 - ev < c
            · exact inserts_rd_b f n cap ad ev p c w hc h (by omega) hE (by omega) (by omega) (by omega) h4
            · exact inserts_ok_b f n cap ad ev p c w hc h (by omega) hE (by omega) (by omega) (by omega) (by omega)
    · exact inserts_n_b f n cap ad ev p c w hc h (by omega) _ rfl hE
end Go.Proofs.Ytidggmfgbcmklaa
