/- Tuplets: law Checks. -/
import Derived.Test.YtidggmfgbcmklaaTz
namespace Go.Proofs.Ytidggmfgbcmklaa
open Go.RowKit
set_option linter.unusedVariables false
set_option linter.unusedSimpArgs false

set_option maxRecDepth 100000 in
set_option maxHeartbeats 2000000 in
theorem law_TupletChecks_a (f : Nat → Tp) (n cap : Nat) (ad : Option Addr) (ev : Int) (w : World) (hc : n ≤ cap) (h : TsAt w ad n f) (hle : n ≤ 20) :
    Calls Try.prog 3 #[.slice ad n cap, .int .i64 ev] w fun e w' => e = .returned (.bool true) ∧ Below w.heap.size w w' := by
  have hA : (n : Int) ≤ 20 := by omega
  have hT := h
  have hbd := chk_bd f n ev
  obtain ⟨E, hE⟩ : ∃ E, chk f n ev = E := ⟨_, rfl⟩
  have HC := Lib.hid (fun u (h : TsAt u ad n f) => check_ok f n cap ad ev u h)
  have HR := Lib.hid (fun ad2 cap2 u (h : TsAt u ad2 n f) => rcheck_ok f n cap2 ad2 ev u h)
  rw [hE] at HC HR hbd
  clear hE
  have B0 := Lib.hid (Bel.refl w)
  have T0 := Lib.hid (Lib.hid hT).out
  clear h hT
  go_enter Try.func3, Try.ntmps3
  go_wp2_with fail
  refine (known_ok _).mono ?_
  rintro e w1 ⟨rfl, hb⟩
  have B1 := Lib.hid (B0.out.up hb)
  have T1 := Lib.hid (T0.out.up hb)
  clear hb B0 T0 
  go_wp2_with fail
  refine (HC.out _ T1.out).mono ?_
  rintro e w2 ⟨rfl, hb⟩
  have B2 := Lib.hid (B1.out.up hb)
  have T2 := Lib.hid (T1.out.up hb)
  clear hb B1 T1 
  go_wp2_with fail
  refine (to_ok f n cap ad _ (by omega) T2.out).mono ?_
  rintro e w3 ⟨ad2, cap2, rfl, hb, hU⟩
  replace hU := Lib.hid hU
  have B3 := Lib.hid (B2.out.up hb)
  have T3 := Lib.hid (T2.out.up hb)
  clear hb B2 T2 
  go_wp2_with fail
  refine (HR.out ad2 cap2 _ hU.out).mono ?_
  rintro e w4 ⟨rfl, hb⟩
  have B4 := Lib.hid (B3.out.up hb)
  have T4 := Lib.hid (T3.out.up hb)
  clear hb B3 T3 
  go_wp2_with fail
  go_ret
  exact ⟨rfl, B4.out.out⟩
set_option maxRecDepth 100000 in
set_option maxHeartbeats 2000000 in
theorem law_TupletChecks_b (f : Nat → Tp) (n cap : Nat) (ad : Option Addr) (ev : Int) (w : World) (hc : n ≤ cap) (h : TsAt w ad n f) (hle : 20 < n) :
    Calls Try.prog 3 #[.slice ad n cap, .int .i64 ev] w fun e w' => e = .returned (.bool true) ∧ Below w.heap.size w w' := by
  have hA : ¬ (n : Int) ≤ 20 := by omega
  have hc2 : 20 ≤ cap := by omega
  have hT := h.le (show 20 ≤ n by omega)
  have hbd := chk_bd f 20 ev
  obtain ⟨E, hE⟩ : ∃ E, chk f 20 ev = E := ⟨_, rfl⟩
  have HC := Lib.hid (fun u (h : TsAt u ad 20 f) => check_ok f 20 cap ad ev u h)
  have HR := Lib.hid (fun ad2 cap2 u (h : TsAt u ad2 20 f) => rcheck_ok f 20 cap2 ad2 ev u h)
  rw [hE] at HC HR hbd
  clear hE
  have B0 := Lib.hid (Bel.refl w)
  have T0 := Lib.hid (Lib.hid hT).out
  clear h hT
  go_enter Try.func3, Try.ntmps3
  go_wp2_with fail
  refine (known_ok _).mono ?_
  rintro e w1 ⟨rfl, hb⟩
  have B1 := Lib.hid (B0.out.up hb)
  have T1 := Lib.hid (T0.out.up hb)
  clear hb B0 T0 
  go_wp2_with fail
  refine (HC.out _ T1.out).mono ?_
  rintro e w2 ⟨rfl, hb⟩
  have B2 := Lib.hid (B1.out.up hb)
  have T2 := Lib.hid (T1.out.up hb)
  clear hb B1 T1 
  go_wp2_with fail
  refine (to_ok f 20 cap ad _ (by omega) T2.out).mono ?_
  rintro e w3 ⟨ad2, cap2, rfl, hb, hU⟩
  replace hU := Lib.hid hU
  have B3 := Lib.hid (B2.out.up hb)
  have T3 := Lib.hid (T2.out.up hb)
  clear hb B2 T2 
  go_wp2_with fail
  refine (HR.out ad2 cap2 _ hU.out).mono ?_
  rintro e w4 ⟨rfl, hb⟩
  have B4 := Lib.hid (B3.out.up hb)
  have T4 := Lib.hid (T3.out.up hb)
  clear hb B3 T3 
  go_wp2_with fail
  go_ret
  exact ⟨rfl, B4.out.out⟩
theorem law_TupletChecks (f : Nat → Tp) (n cap : Nat) (ad : Option Addr) (ev : Int) (w : World) (hc : n ≤ cap) (h : TsAt w ad n f)  :
    Calls Try.prog 3 #[.slice ad n cap, .int .i64 ev] w fun e w' => e = .returned (.bool true) ∧ Below w.heap.size w w' := by
  by_cases hle : n ≤ 20
  · exact law_TupletChecks_a f n cap ad ev w hc h hle 
  · exact law_TupletChecks_b f n cap ad ev w hc h (by omega) 
end Go.Proofs.Ytidggmfgbcmklaa
