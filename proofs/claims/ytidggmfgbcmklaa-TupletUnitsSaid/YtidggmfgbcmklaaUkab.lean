/- Tuplets: law Units, without errors (ab). -/
import Derived.Test.YtidggmfgbcmklaaUj
namespace Go.Proofs.Ytidggmfgbcmklaa
open Go.RowKit
set_option linter.unusedVariables false
set_option linter.unusedSimpArgs false

set_option maxRecDepth 100000 in
set_option maxHeartbeats 16000000 in
theorem lunits_y_ab (f : Nat → Tp) (n cap : Nat) (ad : Option Addr) (g : Nat → Int) (m cap2 : Nat) (aw : Option Addr) (J : Nat → Nat) (w : World) (hc : n ≤ cap) (h : TsAt w ad n f) (hcw : m ≤ cap2) (hw : IsAt w aw m g) (hle : n ≤ 20) (hlm : 130 < m) (hE : lsE f n g 130 = 0) (hJ : ∀ i, i < n → UnitOf f n g 130 i (J i)) :
    Calls Try.prog 10 #[.slice ad n cap, .slice aw m cap2] w fun e w' => e = .returned (.bool true) ∧ Below w.heap.size w w' := by
  have hA : (n : Int) ≤ 20 := by omega
  have hT := h
  have hA2 : ¬ (m : Int) ≤ 130 := by omega
  have hc3 : 130 ≤ cap2 := by omega
  have hI := hw.le (show 130 ≤ m by omega)
  have HRL := Lib.hid (fun ad2 c2 u h1 h2 => rlengths_u f n c2 ad2 g 130 cap2 aw u h1 h2 (by omega))
  obtain ⟨hck, hall⟩ := lsE_all hE
  have HG := Lib.hid (Gd.chk hck)
  have hM16 := (chk_zero hck).2.2.1
  have hR := Lib.hid (fun k hk => lenE_zero (hall k hk))
  have hMq : lsM f n g 130 = 130 := if_pos hE
  rw [hE, hMq] at HRL
  obtain ⟨i0, hinf, hz0, hz1, hz2⟩ := info_parts infoI
  have HUS := Lib.hid (fun i (hi : i < n) ho => units_sum hE hi ho (hJ i hi))
  have HV := Lib.hid (fun k => lsV_bd hck g k)
  have HUN := Lib.hid (fun u h1 h2 => units_y f n cap ad g 130 cap2 aw J u (by omega) h1 h2 (by omega) hE hJ)
  replace hJ := Lib.hid hJ
  clear hE hck hall hMq
  have B0 := Lib.hid (Bel.refl w)
  have T0 := Lib.hid (Lib.hid hT).out
  have I0 := Lib.hid (Lib.hid hI).out
  have HI := Lib.hid hI
  clear h hT hw hI
  go_enter Try.func10, Try.ntmps10
  go_wp2_with fail
  refine Qt.regionAll (by kernel_rfl) (by kernel_rfl) ?_
  intro T f_ F hne
  have RB := Lib.hid (fun g => B0.out.up (F.below g))
  have RT := Lib.hid (fun g => T0.out.up (F.below g))
  have RI := Lib.hid (fun g => I0.out.up (F.below g))
  repeat (go_big_quiet_step (fail))
  refine wpQuiet_nil ?_
  rintro _ ⟨gT, rfl⟩
  have B1 := Lib.hid (RB.out gT)
  have T1 := Lib.hid (RT.out gT)
  have I1 := Lib.hid (RI.out gT)
  clear F RB hne RT RI B0 T0 I0
  generalize f_ gT = w1 at *
  clear f_
  go_wp2_with fail
  refine (to_ok f n cap ad _ (by omega) T1.out).mono ?_
  rintro e w2 ⟨ad2, cap3, rfl, hb, hU⟩
  replace hU := Lib.hid hU
  have B2 := Lib.hid (B1.out.up hb)
  have T2 := Lib.hid (T1.out.up hb)
  have I2 := Lib.hid (I1.out.up hb)
  clear hb B1 T1 I1 
  go_wp2_with fail
  refine (HUN.out _ T2.out I2.out).mono ?_
  rintro e w3 ⟨v, rfl, hb, hv⟩
  replace hU := Lib.hid (hU.out.up hb)
  obtain ⟨gb, rfl, hF⟩ := hv.1 rfl
  have GF := Lib.hid hF
  clear hv hF
  have B3 := Lib.hid (B2.out.up hb)
  have T3 := Lib.hid (T2.out.up hb)
  have I3 := Lib.hid (I2.out.up hb)
  clear hb B2 T2 I2 
  go_wp2_with fail
  refine (HRL.out ad2 cap3 _ hU.out I3.out).mono ?_
  rintro e w4 ⟨aw2, cw2, rfl, hb, hWI⟩
  replace hU := Lib.hid (hU.out.up hb)
  replace GF := Lib.hid (GF.out.up hb)
  have GW := Lib.hid hWI
  clear hWI
  have B4 := Lib.hid (B3.out.up hb)
  have T4 := Lib.hid (T3.out.up hb)
  have I4 := Lib.hid (I3.out.up hb)
  clear hb B3 T3 I3 
  go_wp2_with fail
  refine (known_ok _).mono ?_
  rintro e w5 ⟨rfl, hb⟩
  replace hU := Lib.hid (hU.out.up hb)
  replace GF := Lib.hid (GF.out.up hb)
  replace GW := Lib.hid (GW.out.up hb)
  have B5 := Lib.hid (B4.out.up hb)
  have T5 := Lib.hid (T4.out.up hb)
  have I5 := Lib.hid (I4.out.up hb)
  clear hb B4 T4 I4 
  go_wp2_with fail
  have O5 := Lib.hid (show OwnI w5 w5.heap.size (.slice none 0 0) 0 (fun i => (J i : Int) - 1) from World.ownsRow_nil _ _ _ _)
  have hS5 : w5.heap.size ≤ w5.heap.size := Nat.le_refl _
  have hwb := B5.out.size
  have hub := Lib.hid (fun k (hk : k < n) b off (e : ad2 = some ⟨b, off, none⟩) => show b < w5.heap.size from by
    obtain ⟨b', o', e', q0, _⟩ := hU.out k hk
    rw [e] at e'; cases e'
    exact lt_of_cell q0)
  have hfb := Lib.hid (fun (hh : 0 < n) => GF.out.lt hh)
  have hwbk := Lib.hid (fun k (hk : k < 130) b off (e : aw2 = some ⟨b, off, none⟩) => show b < w5.heap.size from by
    obtain ⟨b', o', e', q0⟩ := GW.out k hk
    rw [e] at e'; cases e'
    exact lt_of_cell q0)
  generalize hwbe : w5.heap.size = wb at O5 hub hwb hfb hwbk
  rw [hwbe] at hS5
  replace hS5 : wb ≤ w5.heap.size := by omega
  clear hwbe T5 I5 hA hA2
  go_loopg [11, 10] n (fun gm i v wr => ∃ k : Nat, k ≤ n ∧ gm = n - k ∧ i = .int .i64 (k : Int) ∧ Hid (Bel w wr) ∧ wb ≤ wr.heap.size ∧ Hid (TsAt wr ad2 n f) ∧ Hid (OwnI wr wb v k (fun i => (J i : Int) - 1)) ∧ Hid (Fil wr gb n (fun i => (J i : Int) - 1)) ∧ Hid (IsAt wr aw2 130 (lsV f n g)))
  case atStart => exact ⟨0, by omega, by omega, rfl, B5, hS5, hU, O5, GF, GW⟩
  case round =>
    clear B5 hU O5 hS5 GF GW
    obtain ⟨k, hk, rfl, rfl, B0, hws, U0, O0, F0, I0⟩ := hrel
    obtain ⟨W0, hW0, B0, hws, U0, O0, F0, I0⟩ : ∃ W0, W0 = _ ∧ Hid (Bel w W0) ∧ wb ≤ W0.heap.size ∧ Hid (TsAt W0 ad2 n f) ∧ Hid (OwnI W0 wb _ k (fun i => (J i : Int) - 1)) ∧ Hid (Fil W0 gb n (fun i => (J i : Int) - 1)) ∧ Hid (IsAt W0 aw2 130 (lsV f n g)) := ⟨_, rfl, B0, hws, U0, O0, F0, I0⟩
    subst hW0
    by_cases hlt : k < n
    · have hkM : k < n := by omega
      have hkd : decide ((k : Int) < (n : Int)) = true := decide_eq_true (by omega)
      obtain ⟨hwh, hj10, hjq, hjl⟩ := hJ.out k hlt
      have HX := Lib.hid (show intsF (fun i => (J i : Int) - 1) (k + 1) = intsF (fun i => (J i : Int) - 1) k ++ [.int .i64 ((J k : Int) - 1)] from rfl)
      have HRU := Lib.hid (fun u h1 h2 => runit_y f n cap3 ad2 g 130 cap2 aw k u (by omega) HG.out hkM h1 h2 (by omega) hR.out hwh (J k) hj10 hjq hjl)
      clear hwh hjq hjl
      go_wp2_with fail
      refine (HRU.out _ U0.out (HI.out.up B0.out.out)).mono ?_
      rintro e w1 ⟨rfl, hb⟩
      have B1 := Lib.hid (B0.out.up hb)
      have U1 := Lib.hid (U0.out.up hb)
      have O1 := Lib.hid (O0.out.up hb)
      have hws1 := Nat.le_trans hws hb.size
      have F1 := Lib.hid (F0.out.up hb)
      have I1 := Lib.hid (I0.out.up hb)
      clear hb B0 U0 O0 hws
      generalize hJk : (J k : Int) - 1 = X at *
      have hXb : -1 ≤ X ∧ X ≤ 8 := by omega
      go_wp2_with (first | (at_builtin; refine wpList_append_own _ rfl _ _ 40 rfl wb 3 i0 (.int .i64 0) 1 8 Try.underlying40 hinf hz0 hz1 hz2 rfl (by decide) _ _ _ rfl (World.ownsRow.alloc O1.out _) ⟨w1.heap.size, 0, none⟩ 1 1 [.int .i64 X] rfl rfl (cell1_new _ _ _ _ rfl) (by simp [Value.oneCell']) (by unfold maxLen; omega) (by omega) (by simp; omega) ?_; intro v' w9 hown' hgrow _))
      have hrow := fun r hr => (World.ownsRow.lt O1.out r hr).1
      have hB := Lib.hid (Below.grown (B1.out.alloc _) hgrow (by have := B1.out.size; simp; omega) (fun r hr => Nat.le_trans hwb (hrow r hr)))
      have hU2 := Lib.hid ((U1.out.up ((Below.refl w1.heap.size w1).alloc (Nat.le_refl _) _)).grown hgrow (fun b o e e2 => by have := hrow b e2.symm; have := hub.out k hkM b o e; omega))
      have hS : wb ≤ w9.heap.size := by have := hgrow.size; simp at this; omega
      have hF2 := Lib.hid ((F1.out.up ((Below.refl w1.heap.size w1).alloc (Nat.le_refl _) _)).grown hgrow (fun e2 => by have := hrow gb e2.symm; have := hfb.out (by omega); omega))
      have hI2 := Lib.hid (IsAt.grown (I1.out.up ((Below.refl w1.heap.size w1).alloc (Nat.le_refl _) _)) hgrow (fun k hk b o e e2 => by have := hrow b e2.symm; have := hwbk.out k hk b o e; omega))
      go_roundg (n - (k + 1))
      case measure => omega
      case rel => exact ⟨k + 1, by omega, rfl, by go_num, hB, hS, hU2, by rw [show OwnI w9 wb v' (k + 1) (fun i => (J i : Int) - 1) = w9.ownsRow wb 3 1 v' (k + 1) (intsF (fun i => (J i : Int) - 1) (k + 1)) from rfl, HX.out]; exact hown', hF2, hI2⟩
    · have hkd : decide ((k : Int) < (n : Int)) = false := decide_eq_false (by omega)
      have hkK : k = n := by omega
      rw [hkK] at O0
      obtain ⟨a9, c9, rfl, hN, _⟩ := IsAt.own O0.out
      have N0 := Lib.hid hN
      clear hN O0 hws hwb
      go_wp2_with fail
      go_loopg [14] n (fun gm i wr => ∃ q : Nat, q ≤ n ∧ gm = n - q ∧ i = .int .i64 (q : Int) ∧ Hid (Bel w wr) ∧ Hid (TsAt wr ad2 n f) ∧ Hid (Fil wr gb n (fun i => (J i : Int) - 1)) ∧ Hid (IsAt wr aw2 130 (lsV f n g)) ∧ Hid (IsAt wr a9 n (fun i => (J i : Int) - 1)))
      case atStart => exact ⟨0, by omega, by omega, rfl, B0, U0, F0, I0, N0⟩
      case round =>
        clear B0 U0 F0 I0 N0 hkK hkd hlt hk
        obtain ⟨q, hq, rfl, rfl, B0, U0, F0, I0, N0⟩ := hrel
        obtain ⟨W1, hW1, B0, U0, F0, I0, N0⟩ : ∃ W1, W1 = _ ∧ Hid (Bel w W1) ∧ Hid (TsAt W1 ad2 n f) ∧ Hid (Fil W1 gb n (fun i => (J i : Int) - 1)) ∧ Hid (IsAt W1 aw2 130 (lsV f n g)) ∧ Hid (IsAt W1 a9 n (fun i => (J i : Int) - 1)) := ⟨_, rfl, B0, U0, F0, I0, N0⟩
        subst hW1
        by_cases hqM : q < n
        · have hqd : decide ((q : Int) < (n : Int)) = true := decide_eq_true (by omega)
          obtain ⟨b9, o9, rfl, p1⟩ := N0.out q hqM
          have p0 := (F0.out q hqM).1
          generalize hJq : (J q : Int) - 1 = X at *
          go_wp2_with fail
          refine Qt.regionAll (by kernel_rfl) (by kernel_rfl) ?_
          intro T f_ F hne
          have RB := Lib.hid (fun g => B0.out.up (F.below g))
          have RN := Lib.hid (fun g => N0.out.up (F.below g))
          have RU := Lib.hid (fun g => U0.out.up (F.below g))
          have RF := Lib.hid (fun g => F0.out.up (F.below g))
          have RI := Lib.hid (fun g => I0.out.up (F.below g))
          have R_p0 := fun g => cell_up (F.below g) p0
          have R_p1 := fun g => cell_up (F.below g) p1
          repeat (go_big_quiet_step (fail))
          refine wpQuiet_nil ?_
          rintro _ ⟨gT, rfl⟩
          have B1 := Lib.hid (RB.out gT)
          have N1 := Lib.hid (RN.out gT)
          have U1 := Lib.hid (RU.out gT)
          have F1 := Lib.hid (RF.out gT)
          have I1 := Lib.hid (RI.out gT)
          have n_p0 := R_p0 gT
          have n_p1 := R_p1 gT
          clear F RB hne RN RU RF RI B0 N0 U0 F0 I0 R_p0 p0 R_p1 p1
          generalize f_ gT = w1 at *
          clear f_
          have p0 := n_p0
          clear n_p0
          have p1 := n_p1
          clear n_p1
          go_wp2_with fail
          go_roundg (n - (q + 1))
          case measure => omega
          case rel => exact ⟨q + 1, by omega, rfl, by go_num, B1, U1, F1, I1, N1⟩
        · have hqd : decide ((q : Int) < (n : Int)) = false := decide_eq_false (by omega)
          clear N0
          go_wp2_with fail
          go_loopg [15] n (fun gm i wr => ∃ k : Nat, k ≤ n ∧ gm = n - k ∧ i = .int .i64 (k : Int) ∧ Hid (Bel w wr) ∧ Hid (TsAt wr ad2 n f) ∧ Hid (Fil wr gb n (fun i => (J i : Int) - 1)) ∧ Hid (IsAt wr aw2 130 (lsV f n g)))
          case atStart => exact ⟨0, by omega, by omega, rfl, B0, U0, F0, I0⟩
          case round =>
            clear B0 U0 F0 I0 hqM hqd hq
            obtain ⟨k, hk, rfl, rfl, B0, U0, F0, I0⟩ := hrel
            by_cases hkM : k < n
            · have hkd : decide ((k : Int) < (n : Int)) = true := decide_eq_true (by omega)
              have hsk := Lib.hid (HG.out.sm k hkM)
              go_wp2_with fail
              go_loopg [17, 16] k (fun gm i o wr => ∃ q : Nat, q ≤ k ∧ gm = k - q ∧ i = .int .i64 (q : Int) ∧ o = .bool (outF f k q) ∧ Hid (Bel w wr) ∧ Hid (TsAt wr ad2 n f) ∧ Hid (Fil wr gb n (fun i => (J i : Int) - 1)) ∧ Hid (IsAt wr aw2 130 (lsV f n g)))
              case atStart => exact ⟨0, by omega, by omega, rfl, rfl, B0, U0, F0, I0⟩
              case round =>
                clear B0 U0 F0 I0
                obtain ⟨q, hq, rfl, rfl, rfl, B0, U0, F0, I0⟩ := hrel
                obtain ⟨W1, hW1, B0, U0, F0, I0⟩ : ∃ W1, W1 = _ ∧ Hid (Bel w W1) ∧ Hid (TsAt W1 ad2 n f) ∧ Hid (Fil W1 gb n (fun i => (J i : Int) - 1)) ∧ Hid (IsAt W1 aw2 130 (lsV f n g)) := ⟨_, rfl, B0, U0, F0, I0⟩
                subst hW1
                by_cases hqk : q < k
                · have hsq := Lib.hid (HG.out.sm q (by omega))
                  obtain ⟨bu, ou, rfl, u0, u1, u2, u3⟩ := U0.out k (by omega)
                  obtain ⟨b', o', e, q0, q1, q2, q3⟩ := U0.out q (by omega)
                  cases e
                  have HX := Lib.hid (show outF f k (q + 1) = (outF f k q && !decide (wi (f k) (f q))) from rfl)
                  rcases Bool.eq_false_or_eq_true (outF f k q) with ho | ho
                  · rw [ho] at HX ⊢
                    rw [Bool.true_and] at HX
                    clear ho
                    by_cases hww : wi (f k) (f q)
                    · have hwd : decide (wi (f k) (f q)) = true := decide_eq_true hww
                      rw [hwd] at HX
                      clear hww
                      go_wp2_with fail
                      refine Qt.regionAll (by kernel_rfl) (by kernel_rfl) ?_
                      intro T f_ F hne
                      have RB := Lib.hid (fun g => B0.out.up (F.below g))
                      have RU := Lib.hid (fun g => U0.out.up (F.below g))
                      have RF := Lib.hid (fun g => F0.out.up (F.below g))
                      have RI := Lib.hid (fun g => I0.out.up (F.below g))
                      have R_u0 := fun g => cell_up (F.below g) u0
                      have R_u1 := fun g => cell_up (F.below g) u1
                      have R_u2 := fun g => cell_up (F.below g) u2
                      have R_u3 := fun g => cell_up (F.below g) u3
                      have R_q0 := fun g => cell_up (F.below g) q0
                      have R_q1 := fun g => cell_up (F.below g) q1
                      have R_q2 := fun g => cell_up (F.below g) q2
                      have R_q3 := fun g => cell_up (F.below g) q3
                      repeat (go_big_quiet_step (first | (go_at_call 31; with_reducible exact F.call (within_ok (f k) (f q) _ hsk.out hsq.out))))
                      refine wpQuiet_nil ?_
                      rintro _ ⟨gT, rfl⟩
                      have B1 := Lib.hid (RB.out gT)
                      have U1 := Lib.hid (RU.out gT)
                      have F1 := Lib.hid (RF.out gT)
                      have I1 := Lib.hid (RI.out gT)
                      have n_u0 := R_u0 gT
                      have n_u1 := R_u1 gT
                      have n_u2 := R_u2 gT
                      have n_u3 := R_u3 gT
                      have n_q0 := R_q0 gT
                      have n_q1 := R_q1 gT
                      have n_q2 := R_q2 gT
                      have n_q3 := R_q3 gT
                      clear F RB hne RU RF RI B0 U0 F0 I0 R_u0 u0 R_u1 u1 R_u2 u2 R_u3 u3 R_q0 q0 R_q1 q1 R_q2 q2 R_q3 q3
                      generalize f_ gT = w1 at *
                      clear f_
                      have u0 := n_u0
                      clear n_u0
                      have u1 := n_u1
                      clear n_u1
                      have u2 := n_u2
                      clear n_u2
                      have u3 := n_u3
                      clear n_u3
                      have q0 := n_q0
                      clear n_q0
                      have q1 := n_q1
                      clear n_q1
                      have q2 := n_q2
                      clear n_q2
                      have q3 := n_q3
                      clear n_q3
                      go_wp2_with fail
                      go_roundg (k - (q + 1))
                      case measure => omega
                      case rel => exact ⟨q + 1, by omega, rfl, by go_num, by rw [HX.out]; rfl, B1, U1, F1, I1⟩
                    · have hwd : decide (wi (f k) (f q)) = false := decide_eq_false hww
                      rw [hwd] at HX
                      clear hww
                      go_wp2_with fail
                      refine Qt.regionAll (by kernel_rfl) (by kernel_rfl) ?_
                      intro T f_ F hne
                      have RB := Lib.hid (fun g => B0.out.up (F.below g))
                      have RU := Lib.hid (fun g => U0.out.up (F.below g))
                      have RF := Lib.hid (fun g => F0.out.up (F.below g))
                      have RI := Lib.hid (fun g => I0.out.up (F.below g))
                      have R_u0 := fun g => cell_up (F.below g) u0
                      have R_u1 := fun g => cell_up (F.below g) u1
                      have R_u2 := fun g => cell_up (F.below g) u2
                      have R_u3 := fun g => cell_up (F.below g) u3
                      have R_q0 := fun g => cell_up (F.below g) q0
                      have R_q1 := fun g => cell_up (F.below g) q1
                      have R_q2 := fun g => cell_up (F.below g) q2
                      have R_q3 := fun g => cell_up (F.below g) q3
                      repeat (go_big_quiet_step (first | (go_at_call 31; with_reducible exact F.call (within_ok (f k) (f q) _ hsk.out hsq.out))))
                      refine wpQuiet_nil ?_
                      rintro _ ⟨gT, rfl⟩
                      have B1 := Lib.hid (RB.out gT)
                      have U1 := Lib.hid (RU.out gT)
                      have F1 := Lib.hid (RF.out gT)
                      have I1 := Lib.hid (RI.out gT)
                      have n_u0 := R_u0 gT
                      have n_u1 := R_u1 gT
                      have n_u2 := R_u2 gT
                      have n_u3 := R_u3 gT
                      have n_q0 := R_q0 gT
                      have n_q1 := R_q1 gT
                      have n_q2 := R_q2 gT
                      have n_q3 := R_q3 gT
                      clear F RB hne RU RF RI B0 U0 F0 I0 R_u0 u0 R_u1 u1 R_u2 u2 R_u3 u3 R_q0 q0 R_q1 q1 R_q2 q2 R_q3 q3
                      generalize f_ gT = w1 at *
                      clear f_
                      have u0 := n_u0
                      clear n_u0
                      have u1 := n_u1
                      clear n_u1
                      have u2 := n_u2
                      clear n_u2
                      have u3 := n_u3
                      clear n_u3
                      have q0 := n_q0
                      clear n_q0
                      have q1 := n_q1
                      clear n_q1
                      have q2 := n_q2
                      clear n_q2
                      have q3 := n_q3
                      clear n_q3
                      go_wp2_with fail
                      go_roundg (k - (q + 1))
                      case measure => omega
                      case rel => exact ⟨q + 1, by omega, rfl, by go_num, by rw [HX.out]; rfl, B1, U1, F1, I1⟩
                  · rw [ho] at HX ⊢
                    rw [Bool.false_and] at HX
                    clear ho
                    go_wp2_with fail
                    refine Qt.regionAll (by kernel_rfl) (by kernel_rfl) ?_
                    intro T f_ F hne
                    have RB := Lib.hid (fun g => B0.out.up (F.below g))
                    have RU := Lib.hid (fun g => U0.out.up (F.below g))
                    have RF := Lib.hid (fun g => F0.out.up (F.below g))
                    have RI := Lib.hid (fun g => I0.out.up (F.below g))
                    repeat (go_big_quiet_step (fail))
                    refine wpQuiet_nil ?_
                    rintro _ ⟨gT, rfl⟩
                    have B1 := Lib.hid (RB.out gT)
                    have U1 := Lib.hid (RU.out gT)
                    have F1 := Lib.hid (RF.out gT)
                    have I1 := Lib.hid (RI.out gT)
                    clear F RB hne RU RF RI B0 U0 F0 I0
                    generalize f_ gT = w1 at *
                    clear f_
                    go_wp2_with fail
                    go_roundg (k - (q + 1))
                    case measure => omega
                    case rel => exact ⟨q + 1, by omega, rfl, by go_num, by rw [HX.out], B1, U1, F1, I1⟩
                · obtain rfl : q = k := by omega
                  go_wp2_with fail
                  go_loopg [19, 18] 130 (fun gm i t wr => ∃ x : Nat, x ≤ 130 ∧ gm = 130 - x ∧ i = .int .i64 (x : Int) ∧ t = .int .i64 (sumH (lsV f n g) (f q) x) ∧ Hid (Bel w wr) ∧ Hid (TsAt wr ad2 n f) ∧ Hid (Fil wr gb n (fun i => (J i : Int) - 1)) ∧ Hid (IsAt wr aw2 130 (lsV f n g)))
                  case atStart => exact ⟨0, by omega, by omega, rfl, rfl, B0, U0, F0, I0⟩
                  case round =>
                    clear B0 U0 F0 I0
                    obtain ⟨x, hx, rfl, rfl, rfl, B0, U0, F0, I0⟩ := hrel
                    obtain ⟨W1, hW1, B0, U0, F0, I0⟩ : ∃ W1, W1 = _ ∧ Hid (Bel w W1) ∧ Hid (TsAt W1 ad2 n f) ∧ Hid (Fil W1 gb n (fun i => (J i : Int) - 1)) ∧ Hid (IsAt W1 aw2 130 (lsV f n g)) := ⟨_, rfl, B0, U0, F0, I0⟩
                    subst hW1
                    obtain ⟨bu, ou, rfl, u0, u1, u2, u3⟩ := U0.out q (by omega)
                    by_cases hxK : x < 130
                    · have hxd0 : decide ((x : Int) < 130) = true := decide_eq_true (by omega)
                      obtain ⟨bw2, ow2, rfl, w0⟩ := I0.out x hxK
                      have hsb := sumH_bd (v := lsV f n g) (t := f q) (c := 253671505920) (by omega) 130 (fun e _ _ => HV.out e) x (by omega)
                      obtain ⟨hs0, hs1⟩ := hsb
                      obtain ⟨hv0, hv1⟩ := HV.out x
                      by_cases hh : (f q).has x
                      · have hxd : decide ((f q).has x) = true := decide_eq_true hh
                        have HX := Lib.hid (sumH_has (v := lsV f n g) hh)
                        clear hh
                        generalize hSg : sumH (lsV f n g) (f q) x = S at *
                        generalize hVg : lsV f n g x = V at *
                        clear hSg hVg
                        go_wp2_with fail
                        refine (in_ok (f q) x _ hsk.out).mono ?_
                        rintro e w6 ⟨rfl, hb⟩
                        rw [hxd]
                        have B1 := Lib.hid (B0.out.up hb)
                        have U1 := Lib.hid (U0.out.up hb)
                        have F1 := Lib.hid (F0.out.up hb)
                        have I1 := Lib.hid (I0.out.up hb)
                        replace w0 := cell_up hb w0
                        clear hb
                        go_wp2_with fail
                        go_roundg (130 - (x + 1))
                        case measure => omega
                        case rel => exact ⟨x + 1, by omega, rfl, by go_num, by rw [HX.out], B1, U1, F1, I1⟩
                      · have hxd : decide ((f q).has x) = false := decide_eq_false hh
                        have HX := Lib.hid (sumH_not (v := lsV f n g) hh)
                        clear hh
                        generalize hSg : sumH (lsV f n g) (f q) x = S at *
                        clear hSg
                        go_wp2_with fail
                        refine (in_ok (f q) x _ hsk.out).mono ?_
                        rintro e w6 ⟨rfl, hb⟩
                        rw [hxd]
                        have B1 := Lib.hid (B0.out.up hb)
                        have U1 := Lib.hid (U0.out.up hb)
                        have F1 := Lib.hid (F0.out.up hb)
                        have I1 := Lib.hid (I0.out.up hb)
                        clear hb
                        go_wp2_with fail
                        go_roundg (130 - (x + 1))
                        case measure => omega
                        case rel => exact ⟨x + 1, by omega, rfl, by go_num, by rw [HX.out], B1, U1, F1, I1⟩
                    · have hxd0 : decide ((x : Int) < 130) = false := decide_eq_false (by omega)
                      have hxK2 : x = 130 := by omega
                      have p0 : W1.cell? ⟨gb, q, none⟩ = some (.int .i64 ((J q : Int) - 1)) := (F0.out q hkM).1
                      obtain ⟨_, _, rn0, rn1⟩ := HG.out.rg q hkM
                      have hj10 := (hJ.out q hkM).lt
                      rcases Bool.eq_false_or_eq_true (outF f q q) with ho | ho
                      · have hus := HUS.out q hkM ho
                        rw [← hxK2] at hus
                        rw [ho, hus]
                        clear ho hus hxK2
                        obtain ⟨jj, hjj⟩ : ∃ jj, J q = jj := ⟨_, rfl⟩
                        rw [hjj] at hj10 p0 ⊢
                        clear hjj
                        generalize hNq : (f q).N = NN at *
                        rcases (show jj = 0 ∨ jj = 1 ∨ jj = 2 ∨ jj = 3 ∨ jj = 4 ∨ jj = 5 ∨ jj = 6 ∨ jj = 7 ∨ jj = 8 ∨ jj = 9 by omega) with rfl | rfl | rfl | rfl | rfl | rfl | rfl | rfl | rfl | rfl
                        · have hu : uu 0 = 3870720 := by decide
                          have hbm : (3870720 * NN != 3870720 * NN) = false := by simp
                          rw [hu]
                          clear hu
                          go_wp2_with fail
                          refine Qt.regionAll (by kernel_rfl) (by kernel_rfl) ?_
                          intro T f_ F hne
                          have RB := Lib.hid (fun g => B0.out.up (F.below g))
                          have RU := Lib.hid (fun g => U0.out.up (F.below g))
                          have RF := Lib.hid (fun g => F0.out.up (F.below g))
                          have RI := Lib.hid (fun g => I0.out.up (F.below g))
                          have R_p0 := fun g => cell_up (F.below g) p0
                          have R_u0 := fun g => cell_up (F.below g) u0
                          have R_u1 := fun g => cell_up (F.below g) u1
                          have R_u2 := fun g => cell_up (F.below g) u2
                          have R_u3 := fun g => cell_up (F.below g) u3
                          repeat (go_big_quiet_step (fail))
                          refine wpQuiet_nil ?_
                          rintro _ ⟨gT, rfl⟩
                          have B1 := Lib.hid (RB.out gT)
                          have U1 := Lib.hid (RU.out gT)
                          have F1 := Lib.hid (RF.out gT)
                          have I1 := Lib.hid (RI.out gT)
                          have n_p0 := R_p0 gT
                          have n_u0 := R_u0 gT
                          have n_u1 := R_u1 gT
                          have n_u2 := R_u2 gT
                          have n_u3 := R_u3 gT
                          clear F RB hne RU RF RI B0 U0 F0 I0 R_p0 p0 R_u0 u0 R_u1 u1 R_u2 u2 R_u3 u3
                          generalize f_ gT = w1 at *
                          clear f_
                          have p0 := n_p0
                          clear n_p0
                          have u0 := n_u0
                          clear n_u0
                          have u1 := n_u1
                          clear n_u1
                          have u2 := n_u2
                          clear n_u2
                          have u3 := n_u3
                          clear n_u3
                          go_wp2_with fail
                          go_roundg (n - (q + 1))
                          case measure => omega
                          case rel => exact ⟨q + 1, by omega, rfl, by go_num, B1, U1, F1, I1⟩
                        · have hu : uu 1 = 1935360 := by decide
                          have hbm : (1935360 * NN != 1935360 * NN) = false := by simp
                          rw [hu]
                          clear hu
                          go_wp2_with fail
                          refine Qt.regionAll (by kernel_rfl) (by kernel_rfl) ?_
                          intro T f_ F hne
                          have RB := Lib.hid (fun g => B0.out.up (F.below g))
                          have RU := Lib.hid (fun g => U0.out.up (F.below g))
                          have RF := Lib.hid (fun g => F0.out.up (F.below g))
                          have RI := Lib.hid (fun g => I0.out.up (F.below g))
                          have R_p0 := fun g => cell_up (F.below g) p0
                          have R_u0 := fun g => cell_up (F.below g) u0
                          have R_u1 := fun g => cell_up (F.below g) u1
                          have R_u2 := fun g => cell_up (F.below g) u2
                          have R_u3 := fun g => cell_up (F.below g) u3
                          repeat (go_big_quiet_step (fail))
                          refine wpQuiet_nil ?_
                          rintro _ ⟨gT, rfl⟩
                          have B1 := Lib.hid (RB.out gT)
                          have U1 := Lib.hid (RU.out gT)
                          have F1 := Lib.hid (RF.out gT)
                          have I1 := Lib.hid (RI.out gT)
                          have n_p0 := R_p0 gT
                          have n_u0 := R_u0 gT
                          have n_u1 := R_u1 gT
                          have n_u2 := R_u2 gT
                          have n_u3 := R_u3 gT
                          clear F RB hne RU RF RI B0 U0 F0 I0 R_p0 p0 R_u0 u0 R_u1 u1 R_u2 u2 R_u3 u3
                          generalize f_ gT = w1 at *
                          clear f_
                          have p0 := n_p0
                          clear n_p0
                          have u0 := n_u0
                          clear n_u0
                          have u1 := n_u1
                          clear n_u1
                          have u2 := n_u2
                          clear n_u2
                          have u3 := n_u3
                          clear n_u3
                          go_wp2_with fail
                          go_roundg (n - (q + 1))
                          case measure => omega
                          case rel => exact ⟨q + 1, by omega, rfl, by go_num, B1, U1, F1, I1⟩
                        · have hu : uu 2 = 967680 := by decide
                          have hbm : (967680 * NN != 967680 * NN) = false := by simp
                          rw [hu]
                          clear hu
                          go_wp2_with fail
                          refine Qt.regionAll (by kernel_rfl) (by kernel_rfl) ?_
                          intro T f_ F hne
                          have RB := Lib.hid (fun g => B0.out.up (F.below g))
                          have RU := Lib.hid (fun g => U0.out.up (F.below g))
                          have RF := Lib.hid (fun g => F0.out.up (F.below g))
                          have RI := Lib.hid (fun g => I0.out.up (F.below g))
                          have R_p0 := fun g => cell_up (F.below g) p0
                          have R_u0 := fun g => cell_up (F.below g) u0
                          have R_u1 := fun g => cell_up (F.below g) u1
                          have R_u2 := fun g => cell_up (F.below g) u2
                          have R_u3 := fun g => cell_up (F.below g) u3
                          repeat (go_big_quiet_step (fail))
                          refine wpQuiet_nil ?_
                          rintro _ ⟨gT, rfl⟩
                          have B1 := Lib.hid (RB.out gT)
                          have U1 := Lib.hid (RU.out gT)
                          have F1 := Lib.hid (RF.out gT)
                          have I1 := Lib.hid (RI.out gT)
                          have n_p0 := R_p0 gT
                          have n_u0 := R_u0 gT
                          have n_u1 := R_u1 gT
                          have n_u2 := R_u2 gT
                          have n_u3 := R_u3 gT
                          clear F RB hne RU RF RI B0 U0 F0 I0 R_p0 p0 R_u0 u0 R_u1 u1 R_u2 u2 R_u3 u3
                          generalize f_ gT = w1 at *
                          clear f_
                          have p0 := n_p0
                          clear n_p0
                          have u0 := n_u0
                          clear n_u0
                          have u1 := n_u1
                          clear n_u1
                          have u2 := n_u2
                          clear n_u2
                          have u3 := n_u3
                          clear n_u3
                          go_wp2_with fail
                          go_roundg (n - (q + 1))
                          case measure => omega
                          case rel => exact ⟨q + 1, by omega, rfl, by go_num, B1, U1, F1, I1⟩
                        · have hu : uu 3 = 483840 := by decide
                          have hbm : (483840 * NN != 483840 * NN) = false := by simp
                          rw [hu]
                          clear hu
                          go_wp2_with fail
                          refine Qt.regionAll (by kernel_rfl) (by kernel_rfl) ?_
                          intro T f_ F hne
                          have RB := Lib.hid (fun g => B0.out.up (F.below g))
                          have RU := Lib.hid (fun g => U0.out.up (F.below g))
                          have RF := Lib.hid (fun g => F0.out.up (F.below g))
                          have RI := Lib.hid (fun g => I0.out.up (F.below g))
                          have R_p0 := fun g => cell_up (F.below g) p0
                          have R_u0 := fun g => cell_up (F.below g) u0
                          have R_u1 := fun g => cell_up (F.below g) u1
                          have R_u2 := fun g => cell_up (F.below g) u2
                          have R_u3 := fun g => cell_up (F.below g) u3
                          repeat (go_big_quiet_step (fail))
                          refine wpQuiet_nil ?_
                          rintro _ ⟨gT, rfl⟩
                          have B1 := Lib.hid (RB.out gT)
                          have U1 := Lib.hid (RU.out gT)
                          have F1 := Lib.hid (RF.out gT)
                          have I1 := Lib.hid (RI.out gT)
                          have n_p0 := R_p0 gT
                          have n_u0 := R_u0 gT
                          have n_u1 := R_u1 gT
                          have n_u2 := R_u2 gT
                          have n_u3 := R_u3 gT
                          clear F RB hne RU RF RI B0 U0 F0 I0 R_p0 p0 R_u0 u0 R_u1 u1 R_u2 u2 R_u3 u3
                          generalize f_ gT = w1 at *
                          clear f_
                          have p0 := n_p0
                          clear n_p0
                          have u0 := n_u0
                          clear n_u0
                          have u1 := n_u1
                          clear n_u1
                          have u2 := n_u2
                          clear n_u2
                          have u3 := n_u3
                          clear n_u3
                          go_wp2_with fail
                          go_roundg (n - (q + 1))
                          case measure => omega
                          case rel => exact ⟨q + 1, by omega, rfl, by go_num, B1, U1, F1, I1⟩
                        · have hu : uu 4 = 241920 := by decide
                          have hbm : (241920 * NN != 241920 * NN) = false := by simp
                          rw [hu]
                          clear hu
                          go_wp2_with fail
                          refine Qt.regionAll (by kernel_rfl) (by kernel_rfl) ?_
                          intro T f_ F hne
                          have RB := Lib.hid (fun g => B0.out.up (F.below g))
                          have RU := Lib.hid (fun g => U0.out.up (F.below g))
                          have RF := Lib.hid (fun g => F0.out.up (F.below g))
                          have RI := Lib.hid (fun g => I0.out.up (F.below g))
                          have R_p0 := fun g => cell_up (F.below g) p0
                          have R_u0 := fun g => cell_up (F.below g) u0
                          have R_u1 := fun g => cell_up (F.below g) u1
                          have R_u2 := fun g => cell_up (F.below g) u2
                          have R_u3 := fun g => cell_up (F.below g) u3
                          repeat (go_big_quiet_step (fail))
                          refine wpQuiet_nil ?_
                          rintro _ ⟨gT, rfl⟩
                          have B1 := Lib.hid (RB.out gT)
                          have U1 := Lib.hid (RU.out gT)
                          have F1 := Lib.hid (RF.out gT)
                          have I1 := Lib.hid (RI.out gT)
                          have n_p0 := R_p0 gT
                          have n_u0 := R_u0 gT
                          have n_u1 := R_u1 gT
                          have n_u2 := R_u2 gT
                          have n_u3 := R_u3 gT
                          clear F RB hne RU RF RI B0 U0 F0 I0 R_p0 p0 R_u0 u0 R_u1 u1 R_u2 u2 R_u3 u3
                          generalize f_ gT = w1 at *
                          clear f_
                          have p0 := n_p0
                          clear n_p0
                          have u0 := n_u0
                          clear n_u0
                          have u1 := n_u1
                          clear n_u1
                          have u2 := n_u2
                          clear n_u2
                          have u3 := n_u3
                          clear n_u3
                          go_wp2_with fail
                          go_roundg (n - (q + 1))
                          case measure => omega
                          case rel => exact ⟨q + 1, by omega, rfl, by go_num, B1, U1, F1, I1⟩
                        · have hu : uu 5 = 120960 := by decide
                          have hbm : (120960 * NN != 120960 * NN) = false := by simp
                          rw [hu]
                          clear hu
                          go_wp2_with fail
                          refine Qt.regionAll (by kernel_rfl) (by kernel_rfl) ?_
                          intro T f_ F hne
                          have RB := Lib.hid (fun g => B0.out.up (F.below g))
                          have RU := Lib.hid (fun g => U0.out.up (F.below g))
                          have RF := Lib.hid (fun g => F0.out.up (F.below g))
                          have RI := Lib.hid (fun g => I0.out.up (F.below g))
                          have R_p0 := fun g => cell_up (F.below g) p0
                          have R_u0 := fun g => cell_up (F.below g) u0
                          have R_u1 := fun g => cell_up (F.below g) u1
                          have R_u2 := fun g => cell_up (F.below g) u2
                          have R_u3 := fun g => cell_up (F.below g) u3
                          repeat (go_big_quiet_step (fail))
                          refine wpQuiet_nil ?_
                          rintro _ ⟨gT, rfl⟩
                          have B1 := Lib.hid (RB.out gT)
                          have U1 := Lib.hid (RU.out gT)
                          have F1 := Lib.hid (RF.out gT)
                          have I1 := Lib.hid (RI.out gT)
                          have n_p0 := R_p0 gT
                          have n_u0 := R_u0 gT
                          have n_u1 := R_u1 gT
                          have n_u2 := R_u2 gT
                          have n_u3 := R_u3 gT
                          clear F RB hne RU RF RI B0 U0 F0 I0 R_p0 p0 R_u0 u0 R_u1 u1 R_u2 u2 R_u3 u3
                          generalize f_ gT = w1 at *
                          clear f_
                          have p0 := n_p0
                          clear n_p0
                          have u0 := n_u0
                          clear n_u0
                          have u1 := n_u1
                          clear n_u1
                          have u2 := n_u2
                          clear n_u2
                          have u3 := n_u3
                          clear n_u3
                          go_wp2_with fail
                          go_roundg (n - (q + 1))
                          case measure => omega
                          case rel => exact ⟨q + 1, by omega, rfl, by go_num, B1, U1, F1, I1⟩
                        · have hu : uu 6 = 60480 := by decide
                          have hbm : (60480 * NN != 60480 * NN) = false := by simp
                          rw [hu]
                          clear hu
                          go_wp2_with fail
                          refine Qt.regionAll (by kernel_rfl) (by kernel_rfl) ?_
                          intro T f_ F hne
                          have RB := Lib.hid (fun g => B0.out.up (F.below g))
                          have RU := Lib.hid (fun g => U0.out.up (F.below g))
                          have RF := Lib.hid (fun g => F0.out.up (F.below g))
                          have RI := Lib.hid (fun g => I0.out.up (F.below g))
                          have R_p0 := fun g => cell_up (F.below g) p0
                          have R_u0 := fun g => cell_up (F.below g) u0
                          have R_u1 := fun g => cell_up (F.below g) u1
                          have R_u2 := fun g => cell_up (F.below g) u2
                          have R_u3 := fun g => cell_up (F.below g) u3
                          repeat (go_big_quiet_step (fail))
                          refine wpQuiet_nil ?_
                          rintro _ ⟨gT, rfl⟩
                          have B1 := Lib.hid (RB.out gT)
                          have U1 := Lib.hid (RU.out gT)
                          have F1 := Lib.hid (RF.out gT)
                          have I1 := Lib.hid (RI.out gT)
                          have n_p0 := R_p0 gT
                          have n_u0 := R_u0 gT
                          have n_u1 := R_u1 gT
                          have n_u2 := R_u2 gT
                          have n_u3 := R_u3 gT
                          clear F RB hne RU RF RI B0 U0 F0 I0 R_p0 p0 R_u0 u0 R_u1 u1 R_u2 u2 R_u3 u3
                          generalize f_ gT = w1 at *
                          clear f_
                          have p0 := n_p0
                          clear n_p0
                          have u0 := n_u0
                          clear n_u0
                          have u1 := n_u1
                          clear n_u1
                          have u2 := n_u2
                          clear n_u2
                          have u3 := n_u3
                          clear n_u3
                          go_wp2_with fail
                          go_roundg (n - (q + 1))
                          case measure => omega
                          case rel => exact ⟨q + 1, by omega, rfl, by go_num, B1, U1, F1, I1⟩
                        · have hu : uu 7 = 30240 := by decide
                          have hbm : (30240 * NN != 30240 * NN) = false := by simp
                          rw [hu]
                          clear hu
                          go_wp2_with fail
                          refine Qt.regionAll (by kernel_rfl) (by kernel_rfl) ?_
                          intro T f_ F hne
                          have RB := Lib.hid (fun g => B0.out.up (F.below g))
                          have RU := Lib.hid (fun g => U0.out.up (F.below g))
                          have RF := Lib.hid (fun g => F0.out.up (F.below g))
                          have RI := Lib.hid (fun g => I0.out.up (F.below g))
                          have R_p0 := fun g => cell_up (F.below g) p0
                          have R_u0 := fun g => cell_up (F.below g) u0
                          have R_u1 := fun g => cell_up (F.below g) u1
                          have R_u2 := fun g => cell_up (F.below g) u2
                          have R_u3 := fun g => cell_up (F.below g) u3
                          repeat (go_big_quiet_step (fail))
                          refine wpQuiet_nil ?_
                          rintro _ ⟨gT, rfl⟩
                          have B1 := Lib.hid (RB.out gT)
                          have U1 := Lib.hid (RU.out gT)
                          have F1 := Lib.hid (RF.out gT)
                          have I1 := Lib.hid (RI.out gT)
                          have n_p0 := R_p0 gT
                          have n_u0 := R_u0 gT
                          have n_u1 := R_u1 gT
                          have n_u2 := R_u2 gT
                          have n_u3 := R_u3 gT
                          clear F RB hne RU RF RI B0 U0 F0 I0 R_p0 p0 R_u0 u0 R_u1 u1 R_u2 u2 R_u3 u3
                          generalize f_ gT = w1 at *
                          clear f_
                          have p0 := n_p0
                          clear n_p0
                          have u0 := n_u0
                          clear n_u0
                          have u1 := n_u1
                          clear n_u1
                          have u2 := n_u2
                          clear n_u2
                          have u3 := n_u3
                          clear n_u3
                          go_wp2_with fail
                          go_roundg (n - (q + 1))
                          case measure => omega
                          case rel => exact ⟨q + 1, by omega, rfl, by go_num, B1, U1, F1, I1⟩
                        · have hu : uu 8 = 15120 := by decide
                          have hbm : (15120 * NN != 15120 * NN) = false := by simp
                          rw [hu]
                          clear hu
                          go_wp2_with fail
                          refine Qt.regionAll (by kernel_rfl) (by kernel_rfl) ?_
                          intro T f_ F hne
                          have RB := Lib.hid (fun g => B0.out.up (F.below g))
                          have RU := Lib.hid (fun g => U0.out.up (F.below g))
                          have RF := Lib.hid (fun g => F0.out.up (F.below g))
                          have RI := Lib.hid (fun g => I0.out.up (F.below g))
                          have R_p0 := fun g => cell_up (F.below g) p0
                          have R_u0 := fun g => cell_up (F.below g) u0
                          have R_u1 := fun g => cell_up (F.below g) u1
                          have R_u2 := fun g => cell_up (F.below g) u2
                          have R_u3 := fun g => cell_up (F.below g) u3
                          repeat (go_big_quiet_step (fail))
                          refine wpQuiet_nil ?_
                          rintro _ ⟨gT, rfl⟩
                          have B1 := Lib.hid (RB.out gT)
                          have U1 := Lib.hid (RU.out gT)
                          have F1 := Lib.hid (RF.out gT)
                          have I1 := Lib.hid (RI.out gT)
                          have n_p0 := R_p0 gT
                          have n_u0 := R_u0 gT
                          have n_u1 := R_u1 gT
                          have n_u2 := R_u2 gT
                          have n_u3 := R_u3 gT
                          clear F RB hne RU RF RI B0 U0 F0 I0 R_p0 p0 R_u0 u0 R_u1 u1 R_u2 u2 R_u3 u3
                          generalize f_ gT = w1 at *
                          clear f_
                          have p0 := n_p0
                          clear n_p0
                          have u0 := n_u0
                          clear n_u0
                          have u1 := n_u1
                          clear n_u1
                          have u2 := n_u2
                          clear n_u2
                          have u3 := n_u3
                          clear n_u3
                          go_wp2_with fail
                          go_roundg (n - (q + 1))
                          case measure => omega
                          case rel => exact ⟨q + 1, by omega, rfl, by go_num, B1, U1, F1, I1⟩
                        · have hu : uu 9 = 7560 := by decide
                          have hbm : (7560 * NN != 7560 * NN) = false := by simp
                          rw [hu]
                          clear hu
                          go_wp2_with fail
                          refine Qt.regionAll (by kernel_rfl) (by kernel_rfl) ?_
                          intro T f_ F hne
                          have RB := Lib.hid (fun g => B0.out.up (F.below g))
                          have RU := Lib.hid (fun g => U0.out.up (F.below g))
                          have RF := Lib.hid (fun g => F0.out.up (F.below g))
                          have RI := Lib.hid (fun g => I0.out.up (F.below g))
                          have R_p0 := fun g => cell_up (F.below g) p0
                          have R_u0 := fun g => cell_up (F.below g) u0
                          have R_u1 := fun g => cell_up (F.below g) u1
                          have R_u2 := fun g => cell_up (F.below g) u2
                          have R_u3 := fun g => cell_up (F.below g) u3
                          repeat (go_big_quiet_step (fail))
                          refine wpQuiet_nil ?_
                          rintro _ ⟨gT, rfl⟩
                          have B1 := Lib.hid (RB.out gT)
                          have U1 := Lib.hid (RU.out gT)
                          have F1 := Lib.hid (RF.out gT)
                          have I1 := Lib.hid (RI.out gT)
                          have n_p0 := R_p0 gT
                          have n_u0 := R_u0 gT
                          have n_u1 := R_u1 gT
                          have n_u2 := R_u2 gT
                          have n_u3 := R_u3 gT
                          clear F RB hne RU RF RI B0 U0 F0 I0 R_p0 p0 R_u0 u0 R_u1 u1 R_u2 u2 R_u3 u3
                          generalize f_ gT = w1 at *
                          clear f_
                          have p0 := n_p0
                          clear n_p0
                          have u0 := n_u0
                          clear n_u0
                          have u1 := n_u1
                          clear n_u1
                          have u2 := n_u2
                          clear n_u2
                          have u3 := n_u3
                          clear n_u3
                          go_wp2_with fail
                          go_roundg (n - (q + 1))
                          case measure => omega
                          case rel => exact ⟨q + 1, by omega, rfl, by go_num, B1, U1, F1, I1⟩
                      · rw [ho]
                        clear ho
                        generalize hSg : sumH (lsV f n g) (f q) x = S at *
                        go_wp2_with fail
                        refine Qt.regionAll (by kernel_rfl) (by kernel_rfl) ?_
                        intro T f_ F hne
                        have RB := Lib.hid (fun g => B0.out.up (F.below g))
                        have RU := Lib.hid (fun g => U0.out.up (F.below g))
                        have RF := Lib.hid (fun g => F0.out.up (F.below g))
                        have RI := Lib.hid (fun g => I0.out.up (F.below g))
                        repeat (go_big_quiet_step (fail))
                        refine wpQuiet_nil ?_
                        rintro _ ⟨gT, rfl⟩
                        have B1 := Lib.hid (RB.out gT)
                        have U1 := Lib.hid (RU.out gT)
                        have F1 := Lib.hid (RF.out gT)
                        have I1 := Lib.hid (RI.out gT)
                        clear F RB hne RU RF RI B0 U0 F0 I0
                        generalize f_ gT = w1 at *
                        clear f_
                        go_wp2_with fail
                        go_roundg (n - (q + 1))
                        case measure => omega
                        case rel => exact ⟨q + 1, by omega, rfl, by go_num, B1, U1, F1, I1⟩
            · have hkd : decide ((k : Int) < (n : Int)) = false := decide_eq_false (by omega)
              go_wp2_with fail
              go_ret
              exact ⟨rfl, B0.out.out⟩
end Go.Proofs.Ytidggmfgbcmklaa
