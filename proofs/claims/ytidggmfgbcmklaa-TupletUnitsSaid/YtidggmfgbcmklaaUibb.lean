/- Tuplets: law Units, with errors (bb). -/
import Derived.Test.YtidggmfgbcmklaaUi
namespace Go.Proofs.Ytidggmfgbcmklaa
open Go.RowKit
set_option linter.unusedVariables false
set_option linter.unusedSimpArgs false

set_option maxRecDepth 100000 in
set_option maxHeartbeats 2000000 in
theorem lunits_n_bb (f : Nat → Tp) (n cap : Nat) (ad : Option Addr) (g : Nat → Int) (m cap2 : Nat) (aw : Option Addr) (w : World) (hc : n ≤ cap) (h : TsAt w ad n f) (hcw : m ≤ cap2) (hw : IsAt w aw m g) (hle : 20 < n) (hlm : 130 < m) (E : Int) (hE : lsE f 20 g 130 = E) (h0 : E ≠ 0) :
    Calls Try.prog 10 #[.slice ad n cap, .slice aw m cap2] w fun e w' => e = .returned (.bool true) ∧ Below w.heap.size w w' := by
  have hA : ¬ (n : Int) ≤ 20 := by omega
  have hc2 : 20 ≤ cap := by omega
  have hT := h.le (show 20 ≤ n by omega)
  have hA2 : ¬ (m : Int) ≤ 130 := by omega
  have hc3 : 130 ≤ cap2 := by omega
  have hI := hw.le (show 130 ≤ m by omega)
  have HRL := Lib.hid (fun ad2 c2 u h1 h2 => rlengths_u f 20 c2 ad2 g 130 cap2 aw u h1 h2 (by omega))
  have HUN := Lib.hid (fun u h1 h2 => units_E f 20 cap ad g 130 cap2 aw u (by omega) h1 h2 (by omega) E hE h0)
  have hbd := lsE_bd f 20 130 g
  rw [hE] at HRL hbd
  have he1 : (E != 0) = true := by simpa using h0
  have he2 : (E == 0) = false := by simpa using h0
  have hMq : lsM f 20 g 130 = 0 := if_neg (by rw [hE]; exact h0)
  rw [hMq] at HRL
  clear hE h0 hMq
  have B0 := Lib.hid (Bel.refl w)
  have T0 := Lib.hid (Lib.hid hT).out
  have I0 := Lib.hid (Lib.hid hI).out
  clear h hT hw hI
  go_enter Try.func10, Try.ntmps10
  go_wp2_with fail
  refine Qt.regionAll (by kernel_rfl) (by kernel_rfl) ?_
  intro T f_ F hne
  have RB := Lib.hid (fun g => B0.out.up (F.below g))
  have RT := Lib.hid (fun g => T0.out.up (F.below g))
  have RI := Lib.hid (fun g => I0.out.up (F.below g))
  repeat (go_big_quiet_step (fail))
  refine wpQuiet_nil ?_
  rintro _ ⟨gT, rfl⟩
  have B1 := Lib.hid (RB.out gT)
  have T1 := Lib.hid (RT.out gT)
  have I1 := Lib.hid (RI.out gT)
  clear F RB hne RT RI B0 T0 I0
  generalize f_ gT = w1 at *
  clear f_
  go_wp2_with fail
  refine (to_ok f 20 cap ad _ (by omega) T1.out).mono ?_
  rintro e w2 ⟨ad2, cap3, rfl, hb, hU⟩
  replace hU := Lib.hid hU
  have B2 := Lib.hid (B1.out.up hb)
  have T2 := Lib.hid (T1.out.up hb)
  have I2 := Lib.hid (I1.out.up hb)
  clear hb B1 T1 I1 
  go_wp2_with fail
  refine (HUN.out _ T2.out I2.out).mono ?_
  rintro e w3 ⟨rfl, hb⟩
  replace hU := Lib.hid (hU.out.up hb)
  have B3 := Lib.hid (B2.out.up hb)
  have T3 := Lib.hid (T2.out.up hb)
  have I3 := Lib.hid (I2.out.up hb)
  clear hb B2 T2 I2 
  go_wp2_with fail
  refine (HRL.out ad2 cap3 _ hU.out I3.out).mono ?_
  rintro e w4 ⟨aw2, cw2, rfl, hb, hWI⟩
  clear hWI hU
  have B4 := Lib.hid (B3.out.up hb)
  have T4 := Lib.hid (T3.out.up hb)
  have I4 := Lib.hid (I3.out.up hb)
  clear hb B3 T3 I3 
  go_wp2_with fail
  refine (known_ok _).mono ?_
  rintro e w5 ⟨rfl, hb⟩
  have B5 := Lib.hid (B4.out.up hb)
  have T5 := Lib.hid (T4.out.up hb)
  have I5 := Lib.hid (I4.out.up hb)
  clear hb B4 T4 I4 
  go_wp2_with fail
  go_ret
  exact ⟨rfl, B5.out.out⟩
end Go.Proofs.Ytidggmfgbcmklaa
