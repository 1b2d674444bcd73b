/- Tuplets: law Lengths. -/
import Derived.Test.YtidggmfgbcmklaaTll
namespace Go.Proofs.Ytidggmfgbcmklaa
open Go.RowKit
set_option linter.unusedVariables false
set_option linter.unusedSimpArgs false

set_option maxRecDepth 100000 in
set_option maxHeartbeats 2000000 in
theorem law_TupletLengths_aa (f : Nat → Tp) (n cap : Nat) (ad : Option Addr) (g : Nat → Int) (m cap2 : Nat) (aw : Option Addr) (w : World) (hc : n ≤ cap) (h : TsAt w ad n f) (hcw : m ≤ cap2) (hw : IsAt w aw m g) (hle : n ≤ 20) (hlm : m ≤ 130) :
    Calls Try.prog 6 #[.slice ad n cap, .slice aw m cap2] w fun e w' => e = .returned (.bool true) ∧ Below w.heap.size w w' := by
  have hA : (n : Int) ≤ 20 := by omega
  have hT := h
  have hA2 : (m : Int) ≤ 130 := by omega
  have hI := hw
  have HL := Lib.hid (fun u h1 h2 => lengths_u f n cap ad g m cap2 aw u h1 h2 (by omega))
  have HR := Lib.hid (fun ad2 c2 u h1 h2 => rlengths_u f n c2 ad2 g m cap2 aw u h1 h2 (by omega))
  have HS := Lib.hid (fun u h1 h2 => sum_u f n cap ad g m cap2 aw u h1 h2 (by omega))
  have hbd := lsE_bd f n m g
  have hMl := lsM_le f n g m
  have hMk : lsM f n g m ≤ 130 := by omega
  have HV := Lib.hid (fun k => lsM_V (f := f) (n := n) (m := m) (g := g) k)
  generalize lsM f n g m = q at *
  generalize lsE f n g m = E at *
  generalize lsV f n g = V at *
  have hsm := sumF_bdM 253671505920 q HV.out
  clear hMl
  have B0 := Lib.hid (Bel.refl w)
  have T0 := Lib.hid (Lib.hid hT).out
  have I0 := Lib.hid (Lib.hid hI).out
  clear h hT hw hI
  go_enter Try.func6, Try.ntmps6
  go_wp2_with fail
  refine Qt.regionAll (by kernel_rfl) (by kernel_rfl) ?_
  intro T f F hne
  have RB := Lib.hid (fun g => B0.out.up (F.below g))
  have RT := Lib.hid (fun g => T0.out.up (F.below g))
  have RI := Lib.hid (fun g => I0.out.up (F.below g))
  repeat (go_big_quiet_step (fail))
  refine wpQuiet_nil ?_
  rintro _ ⟨g, rfl⟩
  have B1 := Lib.hid (RB.out g)
  have T1 := Lib.hid (RT.out g)
  have I1 := Lib.hid (RI.out g)
  clear F RB hne RT RI B0 T0 I0
  generalize f g = w1 at *
  clear f
  go_wp2_with fail
  refine (HL.out _ T1.out I1.out).mono ?_
  rintro e w2 ⟨ao, co, rfl, hb, hOI, hco⟩
  replace hOI := Lib.hid hOI
  have B2 := Lib.hid (B1.out.up hb)
  have T2 := Lib.hid (T1.out.up hb)
  have I2 := Lib.hid (I1.out.up hb)
  clear hb B1 T1 I1 
  go_wp2_with fail
  refine (to_ok f n cap ad _ (by omega) T2.out).mono ?_
  rintro e w3 ⟨ad2, cap3, rfl, hb, hU⟩
  replace hOI := Lib.hid (hOI.out.up hb)
  replace hU := Lib.hid hU
  have B3 := Lib.hid (B2.out.up hb)
  have T3 := Lib.hid (T2.out.up hb)
  have I3 := Lib.hid (I2.out.up hb)
  clear hb B2 T2 I2 
  go_wp2_with fail
  refine (HR.out ad2 cap3 _ hU.out I3.out).mono ?_
  rintro e w4 ⟨aw2, cw2, rfl, hb, hWI⟩
  replace hOI := Lib.hid (hOI.out.up hb)
  replace hWI := Lib.hid hWI
  clear hU
  have B4 := Lib.hid (B3.out.up hb)
  have T4 := Lib.hid (T3.out.up hb)
  have I4 := Lib.hid (I3.out.up hb)
  clear hb B3 T3 I3 
  go_wp2_with fail
  refine (HS.out _ T4.out I4.out).mono ?_
  rintro e w5 ⟨rfl, hb⟩
  replace hOI := Lib.hid (hOI.out.up hb)
  replace hWI := Lib.hid (hWI.out.up hb)
  have B5 := Lib.hid (B4.out.up hb)
  have T5 := Lib.hid (T4.out.up hb)
  have I5 := Lib.hid (I4.out.up hb)
  clear hb B4 T4 I4 
  obtain ⟨sb0, sb1⟩ := hsm
  clear T5 I5 hA hA2
  go_wp2_with fail
  go_loopg [12, 11] q (fun gm i t wr => ∃ k : Nat, k ≤ q ∧ gm = q - k ∧ i = .int .i64 (k : Int) ∧ t = .int .i64 (sumF V k) ∧ Hid (Bel w wr) ∧ Hid (IsAt wr ao q V) ∧ Hid (IsAt wr aw2 q V))
  case atStart => exact ⟨0, by omega, by omega, rfl, rfl, B5, hOI, hWI⟩
  case round =>
    clear B5 hOI hWI
    obtain ⟨k, hk, rfl, rfl, rfl, B0, O0, I0⟩ := hrel
    obtain ⟨W0, hW0, B0, O0, I0⟩ : ∃ W0, W0 = _ ∧ Hid (Bel w W0) ∧ Hid (IsAt W0 ao q V) ∧ Hid (IsAt W0 aw2 q V) := ⟨_, rfl, B0, O0, I0⟩
    subst hW0
    by_cases hlt : k < q
    · obtain ⟨b1, o1, rfl, q1⟩ := I0.out k hlt
      have hv1 := HV.out k hlt
      have hs1 := sumF_bdM 253671505920 k (fun j hj => HV.out j (by omega))
      have HX := Lib.hid (show sumF V (k + 1) = sumF V k + V k from rfl)
      obtain ⟨hs1, hs2⟩ := hs1
      obtain ⟨hv1, hv2⟩ := hv1
      generalize hSk : sumF V k = S at *
      generalize hVk : V k = X at *
      clear hSk hVk
      go_wp2_with fail
      go_roundg (q - (k + 1))
      case measure => omega
      case rel => exact ⟨k + 1, by omega, rfl, by go_num, by rw [HX.out], B0, O0, I0⟩
    · obtain rfl : k = q := by omega
      go_wp2_with fail
      refine (known_ok _).mono ?_
      rintro e w5 ⟨rfl, hb⟩
      have B1 := Lib.hid (B0.out.up hb)
      have O1 := Lib.hid (O0.out.up hb)
      have I1 := Lib.hid (I0.out.up hb)
      clear hb
      go_wp2_with fail
      refine (numbers_ok V k _ _ _ _ _ O1.out I1.out (by omega)).mono ?_
      rintro e w6 ⟨rfl, hb⟩
      have B2 := Lib.hid (B1.out.up hb)
      clear hb
      go_wp2_with fail
      go_ret
      exact ⟨rfl, B2.out.out⟩
set_option maxRecDepth 100000 in
set_option maxHeartbeats 2000000 in
theorem law_TupletLengths_ab (f : Nat → Tp) (n cap : Nat) (ad : Option Addr) (g : Nat → Int) (m cap2 : Nat) (aw : Option Addr) (w : World) (hc : n ≤ cap) (h : TsAt w ad n f) (hcw : m ≤ cap2) (hw : IsAt w aw m g) (hle : n ≤ 20) (hlm : 130 < m) :
    Calls Try.prog 6 #[.slice ad n cap, .slice aw m cap2] w fun e w' => e = .returned (.bool true) ∧ Below w.heap.size w w' := by
  have hA : (n : Int) ≤ 20 := by omega
  have hT := h
  have hA2 : ¬ (m : Int) ≤ 130 := by omega
  have hc3 : 130 ≤ cap2 := by omega
  have hI := hw.le (show 130 ≤ m by omega)
  have HL := Lib.hid (fun u h1 h2 => lengths_u f n cap ad g 130 cap2 aw u h1 h2 (by omega))
  have HR := Lib.hid (fun ad2 c2 u h1 h2 => rlengths_u f n c2 ad2 g 130 cap2 aw u h1 h2 (by omega))
  have HS := Lib.hid (fun u h1 h2 => sum_u f n cap ad g 130 cap2 aw u h1 h2 (by omega))
  have hbd := lsE_bd f n 130 g
  have hMl := lsM_le f n g 130
  have hMk : lsM f n g 130 ≤ 130 := by omega
  have HV := Lib.hid (fun k => lsM_V (f := f) (n := n) (m := 130) (g := g) k)
  generalize lsM f n g 130 = q at *
  generalize lsE f n g 130 = E at *
  generalize lsV f n g = V at *
  have hsm := sumF_bdM 253671505920 q HV.out
  clear hMl
  have B0 := Lib.hid (Bel.refl w)
  have T0 := Lib.hid (Lib.hid hT).out
  have I0 := Lib.hid (Lib.hid hI).out
  clear h hT hw hI
  go_enter Try.func6, Try.ntmps6
  go_wp2_with fail
  refine Qt.regionAll (by kernel_rfl) (by kernel_rfl) ?_
  intro T f F hne
  have RB := Lib.hid (fun g => B0.out.up (F.below g))
  have RT := Lib.hid (fun g => T0.out.up (F.below g))
  have RI := Lib.hid (fun g => I0.out.up (F.below g))
  repeat (go_big_quiet_step (fail))
  refine wpQuiet_nil ?_
  rintro _ ⟨g, rfl⟩
  have B1 := Lib.hid (RB.out g)
  have T1 := Lib.hid (RT.out g)
  have I1 := Lib.hid (RI.out g)
  clear F RB hne RT RI B0 T0 I0
  generalize f g = w1 at *
  clear f
  go_wp2_with fail
  refine (HL.out _ T1.out I1.out).mono ?_
  rintro e w2 ⟨ao, co, rfl, hb, hOI, hco⟩
  replace hOI := Lib.hid hOI
  have B2 := Lib.hid (B1.out.up hb)
  have T2 := Lib.hid (T1.out.up hb)
  have I2 := Lib.hid (I1.out.up hb)
  clear hb B1 T1 I1 
  go_wp2_with fail
  refine (to_ok f n cap ad _ (by omega) T2.out).mono ?_
  rintro e w3 ⟨ad2, cap3, rfl, hb, hU⟩
  replace hOI := Lib.hid (hOI.out.up hb)
  replace hU := Lib.hid hU
  have B3 := Lib.hid (B2.out.up hb)
  have T3 := Lib.hid (T2.out.up hb)
  have I3 := Lib.hid (I2.out.up hb)
  clear hb B2 T2 I2 
  go_wp2_with fail
  refine (HR.out ad2 cap3 _ hU.out I3.out).mono ?_
  rintro e w4 ⟨aw2, cw2, rfl, hb, hWI⟩
  replace hOI := Lib.hid (hOI.out.up hb)
  replace hWI := Lib.hid hWI
  clear hU
  have B4 := Lib.hid (B3.out.up hb)
  have T4 := Lib.hid (T3.out.up hb)
  have I4 := Lib.hid (I3.out.up hb)
  clear hb B3 T3 I3 
  go_wp2_with fail
  refine (HS.out _ T4.out I4.out).mono ?_
  rintro e w5 ⟨rfl, hb⟩
  replace hOI := Lib.hid (hOI.out.up hb)
  replace hWI := Lib.hid (hWI.out.up hb)
  have B5 := Lib.hid (B4.out.up hb)
  have T5 := Lib.hid (T4.out.up hb)
  have I5 := Lib.hid (I4.out.up hb)
  clear hb B4 T4 I4 
  obtain ⟨sb0, sb1⟩ := hsm
  clear T5 I5 hA hA2
  go_wp2_with fail
  go_loopg [12, 11] q (fun gm i t wr => ∃ k : Nat, k ≤ q ∧ gm = q - k ∧ i = .int .i64 (k : Int) ∧ t = .int .i64 (sumF V k) ∧ Hid (Bel w wr) ∧ Hid (IsAt wr ao q V) ∧ Hid (IsAt wr aw2 q V))
  case atStart => exact ⟨0, by omega, by omega, rfl, rfl, B5, hOI, hWI⟩
  case round =>
    clear B5 hOI hWI
    obtain ⟨k, hk, rfl, rfl, rfl, B0, O0, I0⟩ := hrel
    obtain ⟨W0, hW0, B0, O0, I0⟩ : ∃ W0, W0 = _ ∧ Hid (Bel w W0) ∧ Hid (IsAt W0 ao q V) ∧ Hid (IsAt W0 aw2 q V) := ⟨_, rfl, B0, O0, I0⟩
    subst hW0
    by_cases hlt : k < q
    · obtain ⟨b1, o1, rfl, q1⟩ := I0.out k hlt
      have hv1 := HV.out k hlt
      have hs1 := sumF_bdM 253671505920 k (fun j hj => HV.out j (by omega))
      have HX := Lib.hid (show sumF V (k + 1) = sumF V k + V k from rfl)
      obtain ⟨hs1, hs2⟩ := hs1
      obtain ⟨hv1, hv2⟩ := hv1
      generalize hSk : sumF V k = S at *
      generalize hVk : V k = X at *
      clear hSk hVk
      go_wp2_with fail
      go_roundg (q - (k + 1))
      case measure => omega
      case rel => exact ⟨k + 1, by omega, rfl, by go_num, by rw [HX.out], B0, O0, I0⟩
    · obtain rfl : k = q := by omega
      go_wp2_with fail
      refine (known_ok _).mono ?_
      rintro e w5 ⟨rfl, hb⟩
      have B1 := Lib.hid (B0.out.up hb)
      have O1 := Lib.hid (O0.out.up hb)
      have I1 := Lib.hid (I0.out.up hb)
      clear hb
      go_wp2_with fail
      refine (numbers_ok V k _ _ _ _ _ O1.out I1.out (by omega)).mono ?_
      rintro e w6 ⟨rfl, hb⟩
      have B2 := Lib.hid (B1.out.up hb)
      clear hb
      go_wp2_with fail
      go_ret
      exact ⟨rfl, B2.out.out⟩
set_option maxRecDepth 100000 in
set_option maxHeartbeats 2000000 in
theorem law_TupletLengths_ba (f : Nat → Tp) (n cap : Nat) (ad : Option Addr) (g : Nat → Int) (m cap2 : Nat) (aw : Option Addr) (w : World) (hc : n ≤ cap) (h : TsAt w ad n f) (hcw : m ≤ cap2) (hw : IsAt w aw m g) (hle : 20 < n) (hlm : m ≤ 130) :
    Calls Try.prog 6 #[.slice ad n cap, .slice aw m cap2] w fun e w' => e = .returned (.bool true) ∧ Below w.heap.size w w' := by
  have hA : ¬ (n : Int) ≤ 20 := by omega
  have hc2 : 20 ≤ cap := by omega
  have hT := h.le (show 20 ≤ n by omega)
  have hA2 : (m : Int) ≤ 130 := by omega
  have hI := hw
  have HL := Lib.hid (fun u h1 h2 => lengths_u f 20 cap ad g m cap2 aw u h1 h2 (by omega))
  have HR := Lib.hid (fun ad2 c2 u h1 h2 => rlengths_u f 20 c2 ad2 g m cap2 aw u h1 h2 (by omega))
  have HS := Lib.hid (fun u h1 h2 => sum_u f 20 cap ad g m cap2 aw u h1 h2 (by omega))
  have hbd := lsE_bd f 20 m g
  have hMl := lsM_le f 20 g m
  have hMk : lsM f 20 g m ≤ 130 := by omega
  have HV := Lib.hid (fun k => lsM_V (f := f) (n := 20) (m := m) (g := g) k)
  generalize lsM f 20 g m = q at *
  generalize lsE f 20 g m = E at *
  generalize lsV f 20 g = V at *
  have hsm := sumF_bdM 253671505920 q HV.out
  clear hMl
  have B0 := Lib.hid (Bel.refl w)
  have T0 := Lib.hid (Lib.hid hT).out
  have I0 := Lib.hid (Lib.hid hI).out
  clear h hT hw hI
  go_enter Try.func6, Try.ntmps6
  go_wp2_with fail
  refine Qt.regionAll (by kernel_rfl) (by kernel_rfl) ?_
  intro T f F hne
  have RB := Lib.hid (fun g => B0.out.up (F.below g))
  have RT := Lib.hid (fun g => T0.out.up (F.below g))
  have RI := Lib.hid (fun g => I0.out.up (F.below g))
  repeat (go_big_quiet_step (fail))
  refine wpQuiet_nil ?_
  rintro _ ⟨g, rfl⟩
  have B1 := Lib.hid (RB.out g)
  have T1 := Lib.hid (RT.out g)
  have I1 := Lib.hid (RI.out g)
  clear F RB hne RT RI B0 T0 I0
  generalize f g = w1 at *
  clear f
  go_wp2_with fail
  refine (HL.out _ T1.out I1.out).mono ?_
  rintro e w2 ⟨ao, co, rfl, hb, hOI, hco⟩
  replace hOI := Lib.hid hOI
  have B2 := Lib.hid (B1.out.up hb)
  have T2 := Lib.hid (T1.out.up hb)
  have I2 := Lib.hid (I1.out.up hb)
  clear hb B1 T1 I1 
  go_wp2_with fail
  refine (to_ok f 20 cap ad _ (by omega) T2.out).mono ?_
  rintro e w3 ⟨ad2, cap3, rfl, hb, hU⟩
  replace hOI := Lib.hid (hOI.out.up hb)
  replace hU := Lib.hid hU
  have B3 := Lib.hid (B2.out.up hb)
  have T3 := Lib.hid (T2.out.up hb)
  have I3 := Lib.hid (I2.out.up hb)
  clear hb B2 T2 I2 
  go_wp2_with fail
  refine (HR.out ad2 cap3 _ hU.out I3.out).mono ?_
  rintro e w4 ⟨aw2, cw2, rfl, hb, hWI⟩
  replace hOI := Lib.hid (hOI.out.up hb)
  replace hWI := Lib.hid hWI
  clear hU
  have B4 := Lib.hid (B3.out.up hb)
  have T4 := Lib.hid (T3.out.up hb)
  have I4 := Lib.hid (I3.out.up hb)
  clear hb B3 T3 I3 
  go_wp2_with fail
  refine (HS.out _ T4.out I4.out).mono ?_
  rintro e w5 ⟨rfl, hb⟩
  replace hOI := Lib.hid (hOI.out.up hb)
  replace hWI := Lib.hid (hWI.out.up hb)
  have B5 := Lib.hid (B4.out.up hb)
  have T5 := Lib.hid (T4.out.up hb)
  have I5 := Lib.hid (I4.out.up hb)
  clear hb B4 T4 I4 
  obtain ⟨sb0, sb1⟩ := hsm
  clear T5 I5 hA hA2
  go_wp2_with fail
  go_loopg [12, 11] q (fun gm i t wr => ∃ k : Nat, k ≤ q ∧ gm = q - k ∧ i = .int .i64 (k : Int) ∧ t = .int .i64 (sumF V k) ∧ Hid (Bel w wr) ∧ Hid (IsAt wr ao q V) ∧ Hid (IsAt wr aw2 q V))
  case atStart => exact ⟨0, by omega, by omega, rfl, rfl, B5, hOI, hWI⟩
  case round =>
    clear B5 hOI hWI
    obtain ⟨k, hk, rfl, rfl, rfl, B0, O0, I0⟩ := hrel
    obtain ⟨W0, hW0, B0, O0, I0⟩ : ∃ W0, W0 = _ ∧ Hid (Bel w W0) ∧ Hid (IsAt W0 ao q V) ∧ Hid (IsAt W0 aw2 q V) := ⟨_, rfl, B0, O0, I0⟩
    subst hW0
    by_cases hlt : k < q
    · obtain ⟨b1, o1, rfl, q1⟩ := I0.out k hlt
      have hv1 := HV.out k hlt
      have hs1 := sumF_bdM 253671505920 k (fun j hj => HV.out j (by omega))
      have HX := Lib.hid (show sumF V (k + 1) = sumF V k + V k from rfl)
      obtain ⟨hs1, hs2⟩ := hs1
      obtain ⟨hv1, hv2⟩ := hv1
      generalize hSk : sumF V k = S at *
      generalize hVk : V k = X at *
      clear hSk hVk
      go_wp2_with fail
      go_roundg (q - (k + 1))
      case measure => omega
      case rel => exact ⟨k + 1, by omega, rfl, by go_num, by rw [HX.out], B0, O0, I0⟩
    · obtain rfl : k = q := by omega
      go_wp2_with fail
      refine (known_ok _).mono ?_
      rintro e w5 ⟨rfl, hb⟩
      have B1 := Lib.hid (B0.out.up hb)
      have O1 := Lib.hid (O0.out.up hb)
      have I1 := Lib.hid (I0.out.up hb)
      clear hb
      go_wp2_with fail
      refine (numbers_ok V k _ _ _ _ _ O1.out I1.out (by omega)).mono ?_
      rintro e w6 ⟨rfl, hb⟩
      have B2 := Lib.hid (B1.out.up hb)
      clear hb
      go_wp2_with fail
      go_ret
      exact ⟨rfl, B2.out.out⟩
set_option maxRecDepth 100000 in
set_option maxHeartbeats 2000000 in
theorem law_TupletLengths_bb (f : Nat → Tp) (n cap : Nat) (ad : Option Addr) (g : Nat → Int) (m cap2 : Nat) (aw : Option Addr) (w : World) (hc : n ≤ cap) (h : TsAt w ad n f) (hcw : m ≤ cap2) (hw : IsAt w aw m g) (hle : 20 < n) (hlm : 130 < m) :
    Calls Try.prog 6 #[.slice ad n cap, .slice aw m cap2] w fun e w' => e = .returned (.bool true) ∧ Below w.heap.size w w' := by
  have hA : ¬ (n : Int) ≤ 20 := by omega
  have hc2 : 20 ≤ cap := by omega
  have hT := h.le (show 20 ≤ n by omega)
  have hA2 : ¬ (m : Int) ≤ 130 := by omega
  have hc3 : 130 ≤ cap2 := by omega
  have hI := hw.le (show 130 ≤ m by omega)
  have HL := Lib.hid (fun u h1 h2 => lengths_u f 20 cap ad g 130 cap2 aw u h1 h2 (by omega))
  have HR := Lib.hid (fun ad2 c2 u h1 h2 => rlengths_u f 20 c2 ad2 g 130 cap2 aw u h1 h2 (by omega))
  have HS := Lib.hid (fun u h1 h2 => sum_u f 20 cap ad g 130 cap2 aw u h1 h2 (by omega))
  have hbd := lsE_bd f 20 130 g
  have hMl := lsM_le f 20 g 130
  have hMk : lsM f 20 g 130 ≤ 130 := by omega
  have HV := Lib.hid (fun k => lsM_V (f := f) (n := 20) (m := 130) (g := g) k)
  generalize lsM f 20 g 130 = q at *
  generalize lsE f 20 g 130 = E at *
  generalize lsV f 20 g = V at *
  have hsm := sumF_bdM 253671505920 q HV.out
  clear hMl
  have B0 := Lib.hid (Bel.refl w)
  have T0 := Lib.hid (Lib.hid hT).out
  have I0 := Lib.hid (Lib.hid hI).out
  clear h hT hw hI
  go_enter Try.func6, Try.ntmps6
  go_wp2_with fail
  refine Qt.regionAll (by kernel_rfl) (by kernel_rfl) ?_
  intro T f F hne
  have RB := Lib.hid (fun g => B0.out.up (F.below g))
  have RT := Lib.hid (fun g => T0.out.up (F.below g))
  have RI := Lib.hid (fun g => I0.out.up (F.below g))
  repeat (go_big_quiet_step (fail))
  refine wpQuiet_nil ?_
  rintro _ ⟨g, rfl⟩
  have B1 := Lib.hid (RB.out g)
  have T1 := Lib.hid (RT.out g)
  have I1 := Lib.hid (RI.out g)
  clear F RB hne RT RI B0 T0 I0
  generalize f g = w1 at *
  clear f
  go_wp2_with fail
  refine (HL.out _ T1.out I1.out).mono ?_
  rintro e w2 ⟨ao, co, rfl, hb, hOI, hco⟩
  replace hOI := Lib.hid hOI
  have B2 := Lib.hid (B1.out.up hb)
  have T2 := Lib.hid (T1.out.up hb)
  have I2 := Lib.hid (I1.out.up hb)
  clear hb B1 T1 I1 
  go_wp2_with fail
  refine (to_ok f 20 cap ad _ (by omega) T2.out).mono ?_
  rintro e w3 ⟨ad2, cap3, rfl, hb, hU⟩
  replace hOI := Lib.hid (hOI.out.up hb)
  replace hU := Lib.hid hU
  have B3 := Lib.hid (B2.out.up hb)
  have T3 := Lib.hid (T2.out.up hb)
  have I3 := Lib.hid (I2.out.up hb)
  clear hb B2 T2 I2 
  go_wp2_with fail
  refine (HR.out ad2 cap3 _ hU.out I3.out).mono ?_
  rintro e w4 ⟨aw2, cw2, rfl, hb, hWI⟩
  replace hOI := Lib.hid (hOI.out.up hb)
  replace hWI := Lib.hid hWI
  clear hU
  have B4 := Lib.hid (B3.out.up hb)
  have T4 := Lib.hid (T3.out.up hb)
  have I4 := Lib.hid (I3.out.up hb)
  clear hb B3 T3 I3 
  go_wp2_with fail
  refine (HS.out _ T4.out I4.out).mono ?_
  rintro e w5 ⟨rfl, hb⟩
  replace hOI := Lib.hid (hOI.out.up hb)
  replace hWI := Lib.hid (hWI.out.up hb)
  have B5 := Lib.hid (B4.out.up hb)
  have T5 := Lib.hid (T4.out.up hb)
  have I5 := Lib.hid (I4.out.up hb)
  clear hb B4 T4 I4 
  obtain ⟨sb0, sb1⟩ := hsm
  clear T5 I5 hA hA2
  go_wp2_with fail
  go_loopg [12, 11] q (fun gm i t wr => ∃ k : Nat, k ≤ q ∧ gm = q - k ∧ i = .int .i64 (k : Int) ∧ t = .int .i64 (sumF V k) ∧ Hid (Bel w wr) ∧ Hid (IsAt wr ao q V) ∧ Hid (IsAt wr aw2 q V))
  case atStart => exact ⟨0, by omega, by omega, rfl, rfl, B5, hOI, hWI⟩
  case round =>
    clear B5 hOI hWI
    obtain ⟨k, hk, rfl, rfl, rfl, B0, O0, I0⟩ := hrel
    obtain ⟨W0, hW0, B0, O0, I0⟩ : ∃ W0, W0 = _ ∧ Hid (Bel w W0) ∧ Hid (IsAt W0 ao q V) ∧ Hid (IsAt W0 aw2 q V) := ⟨_, rfl, B0, O0, I0⟩
    subst hW0
    by_cases hlt : k < q
    · obtain ⟨b1, o1, rfl, q1⟩ := I0.out k hlt
      have hv1 := HV.out k hlt
      have hs1 := sumF_bdM 253671505920 k (fun j hj => HV.out j (by omega))
      have HX := Lib.hid (show sumF V (k + 1) = sumF V k + V k from rfl)
      obtain ⟨hs1, hs2⟩ := hs1
      obtain ⟨hv1, hv2⟩ := hv1
      generalize hSk : sumF V k = S at *
      generalize hVk : V k = X at *
      clear hSk hVk
      go_wp2_with fail
      go_roundg (q - (k + 1))
      case measure => omega
      case rel => exact ⟨k + 1, by omega, rfl, by go_num, by rw [HX.out], B0, O0, I0⟩
    · obtain rfl : k = q := by omega
      go_wp2_with fail
      refine (known_ok _).mono ?_
      rintro e w5 ⟨rfl, hb⟩
      have B1 := Lib.hid (B0.out.up hb)
      have O1 := Lib.hid (O0.out.up hb)
      have I1 := Lib.hid (I0.out.up hb)
      clear hb
      go_wp2_with fail
      refine (numbers_ok V k _ _ _ _ _ O1.out I1.out (by omega)).mono ?_
      rintro e w6 ⟨rfl, hb⟩
      have B2 := Lib.hid (B1.out.up hb)
      clear hb
      go_wp2_with fail
      go_ret
      exact ⟨rfl, B2.out.out⟩
theorem law_TupletLengths (f : Nat → Tp) (n cap : Nat) (ad : Option Addr) (g : Nat → Int) (m cap2 : Nat) (aw : Option Addr) (w : World) (hc : n ≤ cap) (h : TsAt w ad n f) (hcw : m ≤ cap2) (hw : IsAt w aw m g) : Calls Try.prog 6 #[.slice ad n cap, .slice aw m cap2] w fun e w' => e = .returned (.bool true) ∧ Below w.heap.size w w' := by
  by_cases hle : n ≤ 20 <;> by_cases hlm : m ≤ 130
  · exact law_TupletLengths_aa f n cap ad g m cap2 aw w hc h hcw hw hle hlm
  · exact law_TupletLengths_ab f n cap ad g m cap2 aw w hc h hcw hw hle (by omega)
  · exact law_TupletLengths_ba f n cap ad g m cap2 aw w hc h hcw hw (by omega) hlm
  · exact law_TupletLengths_bb f n cap ad g m cap2 aw w hc h hcw hw (by omega) (by omega)
end Go.Proofs.Ytidggmfgbcmklaa
