/- Tuplets: law Units, with errors (ab). -/
import Derived.Test.YtidggmfgbcmklaaUi
namespace Go.Proofs.Ytidggmfgbcmklaa
open Go.RowKit
set_option linter.unusedVariables false
set_option linter.unusedSimpArgs false

set_option maxRecDepth 100000 in
set_option maxHeartbeats 2000000 in
theorem lunits_n_ab (f : Nat → Tp) (n cap : Nat) (ad : Option Addr) (g : Nat → Int) (m cap2 : Nat) (aw : Option Addr) (w : World) (hc : n ≤ cap) (h : TsAt w ad n f) (hcw : m ≤ cap2) (hw : IsAt w aw m g) (hle : n ≤ 20) (hlm : 130 < m) (E : Int) (hE : lsE f n g 130 = E) (h0 : E ≠ 0) :
    Calls Try.prog 10 #[.slice ad n cap, .slice aw m cap2] w fun e w' => e = .returned (.bool true) ∧ Below w.heap.size w w' := by
  have hA : (n : Int) ≤ 20 := by omega
  have hT := h
  have hA2 : ¬ (m : Int) ≤ 130 := by omega
  have hc3 : 130 ≤ cap2 := by omega
  have hI := hw.le (show 130 ≤ m by omega)
  have HRL := Lib.hid (fun ad2 c2 u h1 h2 => rlengths_u f n c2 ad2 g 130 cap2 aw u h1 h2 (by omega))
  have HUN := Lib.hid (fun u h1 h2 => units_E f n cap ad g 130 cap2 aw u (by omega) h1 h2 (by omega) E hE h0)
  have hbd := lsE_bd f n 130 g
  rw [hE] at HRL hbd
  have he1 : (E != 0) = true := by simpa using h0
  have he2 : (E == 0) = false := by simpa using h0
  have hMq : lsM f n g 130 = 0 := if_neg (by rw [hE]; exact h0)
  rw [hMq] at HRL
  clear hE h0 hMq
  have B0 := Lib.hid (Bel.refl w)
  have T0 := Lib.hid (Lib.hid hT).out
  have I0 := Lib.hid (Lib.hid hI).out
  clear h hT hw hI
  go_enter Try.func10, Try.ntmps10
  go_wp2_with fail
  refine Qt.regionAll (by kernel_rfl) (by kernel_rfl) ?_
  intro T f_ F hne
  have RB := Lib.hid (fun g => B0.out.up (F.below g))
  have RT := Lib.hid (fun g => T0.out.up (F.below g))
  have RI := Lib.hid (fun g => I0.out.up (F.below g))
  repeat (go_big_quiet_step (fail))
  refine wpQuiet_nil ?_
  rintro _ ⟨gT, rfl⟩
  have B1 := Lib.hid (RB.out gT)
  have T1 := Lib.hid (RT.out gT)
  have I1 := Lib.hid (RI.out gT)
  clear F RB hne RT RI B0 T0 I0
  generalize f_ gT = w1 at *
  clear f_
  go_wp2_with fail
  refine (to_ok f n cap ad _ (by omega) T1.out).mono ?_
  rintro e w2 ⟨ad2, cap3, rfl, hb, hU⟩
  replace hU := Lib.hid hU
  have B2 := Lib.hid (B1.out.up hb)
  have T2 := Lib.hid (T1.out.up hb)
  have I2 := Lib.hid (I1.out.up hb)
  clear hb B1 T1 I1 
  go_wp2_with fail
  refine (HUN.out _ T2.out I2.out).mono ?_
  rintro e w3 ⟨rfl, hb⟩
  replace hU := Lib.hid (hU.out.up hb)
  have B3 := Lib.hid (B2.out.up hb)
  have T3 := Lib.hid (T2.out.up hb)
  have I3 := Lib.hid (I2.out.up hb)
  clear hb B2 T2 I2 
  go_wp2_with fail
  refine (HRL.out ad2 cap3 _ hU.out I3.out).mono ?_
  rintro e w4 ⟨aw2, cw2, rfl, hb, hWI⟩
  clear hWI hU
  have B4 := Lib.hid (B3.out.up hb)
  have T4 := Lib.hid (T3.out.up hb)
  have I4 := Lib.hid (I3.out.up hb)
  clear hb B3 T3 I3 
  go_wp2_with fail
  refine (known_ok _).mono ?_
  rintro e w5 ⟨rfl, hb⟩
  have B5 := Lib.hid (B4.out.up hb)
  have T5 := Lib.hid (T4.out.up hb)
  have I5 := Lib.hid (I4.out.up hb)
  clear hb B4 T4 I4 
  go_wp2_with fail
  go_ret
  exact ⟨rfl, B5.out.out⟩
set_option maxRecDepth 100000 in
set_option maxHeartbeats 8000000 in
theorem lunits_b_ab (f : Nat → Tp) (n cap : Nat) (ad : Option Addr) (g : Nat → Int) (m cap2 : Nat) (aw : Option Addr) (J : Nat → Nat) (w : World) (hc : n ≤ cap) (h : TsAt w ad n f) (hcw : m ≤ cap2) (hw : IsAt w aw m g) (hle : n ≤ 20) (hlm : 130 < m) (hE : lsE f n g 130 = 0) (z : Nat) (hz : z < n) (hJ : ∀ i, i < z → UnitOf f n g 130 i (J i)) (hno : ¬ ∃ j, UnitOf f n g 130 z j) :
    Calls Try.prog 10 #[.slice ad n cap, .slice aw m cap2] w fun e w' => e = .returned (.bool true) ∧ Below w.heap.size w w' := by
  have hA : (n : Int) ≤ 20 := by omega
  have hT := h
  have hA2 : ¬ (m : Int) ≤ 130 := by omega
  have hc3 : 130 ≤ cap2 := by omega
  have hI := hw.le (show 130 ≤ m by omega)
  have HRL := Lib.hid (fun ad2 c2 u h1 h2 => rlengths_u f n c2 ad2 g 130 cap2 aw u h1 h2 (by omega))
  obtain ⟨hck, hall⟩ := lsE_all hE
  have HG := Lib.hid (Gd.chk hck)
  have hM16 := (chk_zero hck).2.2.1
  have hR := Lib.hid (fun k hk => lenE_zero (hall k hk))
  have hMq : lsM f n g 130 = 130 := if_pos hE
  rw [hE, hMq] at HRL
  obtain ⟨i0, hinf, hz0, hz1, hz2⟩ := info_parts infoI
  have HUN := Lib.hid (fun u h1 h2 => units_21 f n cap ad g 130 cap2 aw J u (by omega) h1 h2 (by omega) hE z hz hJ hno)
  replace hJ := Lib.hid hJ
  replace hno := Lib.hid hno
  clear hE hck hall hMq
  have B0 := Lib.hid (Bel.refl w)
  have T0 := Lib.hid (Lib.hid hT).out
  have I0 := Lib.hid (Lib.hid hI).out
  have HI := Lib.hid hI
  clear h hT hw hI
  go_enter Try.func10, Try.ntmps10
  go_wp2_with fail
  refine Qt.regionAll (by kernel_rfl) (by kernel_rfl) ?_
  intro T f_ F hne
  have RB := Lib.hid (fun g => B0.out.up (F.below g))
  have RT := Lib.hid (fun g => T0.out.up (F.below g))
  have RI := Lib.hid (fun g => I0.out.up (F.below g))
  repeat (go_big_quiet_step (fail))
  refine wpQuiet_nil ?_
  rintro _ ⟨gT, rfl⟩
  have B1 := Lib.hid (RB.out gT)
  have T1 := Lib.hid (RT.out gT)
  have I1 := Lib.hid (RI.out gT)
  clear F RB hne RT RI B0 T0 I0
  generalize f_ gT = w1 at *
  clear f_
  go_wp2_with fail
  refine (to_ok f n cap ad _ (by omega) T1.out).mono ?_
  rintro e w2 ⟨ad2, cap3, rfl, hb, hU⟩
  replace hU := Lib.hid hU
  have B2 := Lib.hid (B1.out.up hb)
  have T2 := Lib.hid (T1.out.up hb)
  have I2 := Lib.hid (I1.out.up hb)
  clear hb B1 T1 I1 
  go_wp2_with fail
  refine (HUN.out _ T2.out I2.out).mono ?_
  rintro e w3 ⟨rfl, hb⟩
  replace hU := Lib.hid (hU.out.up hb)
  have B3 := Lib.hid (B2.out.up hb)
  have T3 := Lib.hid (T2.out.up hb)
  have I3 := Lib.hid (I2.out.up hb)
  clear hb B2 T2 I2 
  go_wp2_with fail
  refine (HRL.out ad2 cap3 _ hU.out I3.out).mono ?_
  rintro e w4 ⟨aw2, cw2, rfl, hb, hWI⟩
  replace hU := Lib.hid (hU.out.up hb)
  clear hWI
  have B4 := Lib.hid (B3.out.up hb)
  have T4 := Lib.hid (T3.out.up hb)
  have I4 := Lib.hid (I3.out.up hb)
  clear hb B3 T3 I3 
  go_wp2_with fail
  refine (known_ok _).mono ?_
  rintro e w5 ⟨rfl, hb⟩
  replace hU := Lib.hid (hU.out.up hb)
  have B5 := Lib.hid (B4.out.up hb)
  have T5 := Lib.hid (T4.out.up hb)
  have I5 := Lib.hid (I4.out.up hb)
  clear hb B4 T4 I4 
  go_wp2_with fail
  have O5 := Lib.hid (show OwnI w5 w5.heap.size (.slice none 0 0) 0 (fun i => (J i : Int) - 1) from World.ownsRow_nil _ _ _ _)
  have hS5 : w5.heap.size ≤ w5.heap.size := Nat.le_refl _
  have hwb := B5.out.size
  have hub := Lib.hid (fun k (hk : k < n) b off (e : ad2 = some ⟨b, off, none⟩) => show b < w5.heap.size from by
    obtain ⟨b', o', e', q0, _⟩ := hU.out k hk
    rw [e] at e'; cases e'
    exact lt_of_cell q0)
  generalize hwbe : w5.heap.size = wb at O5 hub hwb
  rw [hwbe] at hS5
  replace hS5 : wb ≤ w5.heap.size := by omega
  clear hwbe T5 I5 hA hA2
  go_loopg [11, 10] n (fun gm i v wr => ∃ k : Nat, k ≤ z ∧ gm = n - k ∧ i = .int .i64 (k : Int) ∧ Hid (Bel w wr) ∧ wb ≤ wr.heap.size ∧ Hid (TsAt wr ad2 n f) ∧ Hid (OwnI wr wb v k (fun i => (J i : Int) - 1)))
  case atStart => exact ⟨0, by omega, by omega, rfl, B5, hS5, hU, O5⟩
  case round =>
    clear B5 hU O5 hS5
    obtain ⟨k, hk, rfl, rfl, B0, hws, U0, O0⟩ := hrel
    obtain ⟨W0, hW0, B0, hws, U0, O0⟩ : ∃ W0, W0 = _ ∧ Hid (Bel w W0) ∧ wb ≤ W0.heap.size ∧ Hid (TsAt W0 ad2 n f) ∧ Hid (OwnI W0 wb _ k (fun i => (J i : Int) - 1)) := ⟨_, rfl, B0, hws, U0, O0⟩
    subst hW0
    by_cases hlt : k < z
    · have hkM : k < n := by omega
      have hkd : decide ((k : Int) < (n : Int)) = true := decide_eq_true (by omega)
      obtain ⟨hwh, hj10, hjq, hjl⟩ := hJ.out k hlt
      have HX := Lib.hid (show intsF (fun i => (J i : Int) - 1) (k + 1) = intsF (fun i => (J i : Int) - 1) k ++ [.int .i64 ((J k : Int) - 1)] from rfl)
      have HRU := Lib.hid (fun u h1 h2 => runit_y f n cap3 ad2 g 130 cap2 aw k u (by omega) HG.out hkM h1 h2 (by omega) hR.out hwh (J k) hj10 hjq hjl)
      clear hwh hjq hjl
      go_wp2_with fail
      refine (HRU.out _ U0.out (HI.out.up B0.out.out)).mono ?_
      rintro e w1 ⟨rfl, hb⟩
      have B1 := Lib.hid (B0.out.up hb)
      have U1 := Lib.hid (U0.out.up hb)
      have O1 := Lib.hid (O0.out.up hb)
      have hws1 := Nat.le_trans hws hb.size
      clear hb B0 U0 O0 hws
      generalize hJk : (J k : Int) - 1 = X at *
      have hXb : -1 ≤ X ∧ X ≤ 8 := by omega
      go_wp2_with (first | (at_builtin; refine wpList_append_own _ rfl _ _ 40 rfl wb 3 i0 (.int .i64 0) 1 8 Try.underlying40 hinf hz0 hz1 hz2 rfl (by decide) _ _ _ rfl (World.ownsRow.alloc O1.out _) ⟨w1.heap.size, 0, none⟩ 1 1 [.int .i64 X] rfl rfl (cell1_new _ _ _ _ rfl) (by simp [Value.oneCell']) (by unfold maxLen; omega) (by omega) (by simp; omega) ?_; intro v' w9 hown' hgrow _))
      have hrow := fun r hr => (World.ownsRow.lt O1.out r hr).1
      have hB := Lib.hid (Below.grown (B1.out.alloc _) hgrow (by have := B1.out.size; simp; omega) (fun r hr => Nat.le_trans hwb (hrow r hr)))
      have hU2 := Lib.hid ((U1.out.up ((Below.refl w1.heap.size w1).alloc (Nat.le_refl _) _)).grown hgrow (fun b o e e2 => by have := hrow b e2.symm; have := hub.out k hkM b o e; omega))
      have hS : wb ≤ w9.heap.size := by have := hgrow.size; simp at this; omega
      go_roundg (n - (k + 1))
      case measure => omega
      case rel => exact ⟨k + 1, by omega, rfl, by go_num, hB, hS, hU2, by rw [show OwnI w9 wb v' (k + 1) (fun i => (J i : Int) - 1) = w9.ownsRow wb 3 1 v' (k + 1) (intsF (fun i => (J i : Int) - 1) (k + 1)) from rfl, HX.out]; exact hown'⟩
    · obtain rfl : k = z := by omega
      have hkd : decide ((k : Int) < (n : Int)) = true := decide_eq_true (by omega)
      have HRU : Hid (∀ u, TsAt u ad2 n f → IsAt u aw 130 g → Calls Try.prog 33 #[.slice ad2 n cap3, .int .i64 (k : Int), .slice aw 130 cap2] u fun e w' => e = .returned (.tuple #[.int .i64 0, .bool false]) ∧ Below u.heap.size u w') := by
        intro u h1 h2
        rcases unit_cases f n g 130 k with h | ⟨zz, y1, y2, y3, y4⟩ | ⟨hwh, hno2⟩
        · exact absurd h hno.out
        · exact runit_bad f n cap3 ad2 g 130 cap2 aw k u (by omega) HG.out (by omega) h1 h2 (by omega) hR.out zz y1 y2 y3 y4
        · exact runit_n f n cap3 ad2 g 130 cap2 aw k u (by omega) HG.out (by omega) h1 h2 (by omega) hR.out hwh hno2
      clear hno hJ
      go_wp2_with fail
      refine (HRU.out _ U0.out (HI.out.up B0.out.out)).mono ?_
      rintro e w1 ⟨rfl, hb⟩
      have B1 := Lib.hid (B0.out.up hb)
      clear hb
      go_wp2_with fail
      go_ret
      exact ⟨rfl, B1.out.out⟩
end Go.Proofs.Ytidggmfgbcmklaa
