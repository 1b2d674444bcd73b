/- Spans: law Checks. -/
import Derived.Test.YtabafabebodojaaDoorSq
import Derived.Test.YtabafabebodojaaDoorSt
import Derived.Test.YtabafabebodojaaDoorSu
namespace Go.Proofs.YtabafabebodojaaDoor
open Go.RowKit
set_option linter.unusedVariables false
set_option linter.unusedSimpArgs false

set_option maxRecDepth 100000 in
set_option maxHeartbeats 2000000 in
theorem law_checks_many (f : Nat → Sp) (n cap : Nat) (ad : Option Addr) (w : World) (hk : KT w) (h : 20 < n) :
    Calls Tryd.prog 5 #[.slice ad n cap] w fun e w' => e = .returned (.bool true) ∧ Below w.heap.size w w' := by
  have g0 : decide ((20 : Int) < (n : Int)) = true := decide_eq_true (by omega)
  have g1 : decide (20 < n) = true := decide_eq_true (by omega)
  have B0 := Lib.hid (Bel.refl w)
  have K0 := Lib.hid hk
  go_enter Tryd.func5, Tryd.ntmps5
  go_wp2_with fail
  refine (known_ok _ K0.out).mono ?_
  rintro e w1 ⟨rfl, hb⟩
  have B1 := Lib.hid (B0.out.up hb)
  have K1 := Lib.hid (K0.out.below hb)
  clear hb B0 K0 
  go_wp2_with fail
  refine (known_ok _ K1.out).mono ?_
  rintro e w2 ⟨rfl, hb⟩
  have B2 := Lib.hid (B1.out.up hb)
  have K2 := Lib.hid (K1.out.below hb)
  clear hb B1 K1 
  go_wp2_with fail
  go_ret
  exact ⟨rfl, B2.out.out⟩
set_option maxRecDepth 100000 in
set_option maxHeartbeats 2000000 in
theorem law_checks_few (f : Nat → Sp) (n cap : Nat) (ad : Option Addr) (w : World) (hk : KT w) (hn : n ≤ 20) (h : SpAt w ad n f) :
    Calls Tryd.prog 5 #[.slice ad n cap] w fun e w' => e = .returned (.bool true) ∧ Below w.heap.size w w' := by
  have g0 : decide ((20 : Int) < (n : Int)) = false := decide_eq_false (by omega)
  have g1 : decide (20 < n) = false := decide_eq_false (by omega)
  obtain ⟨r1, r2, hr⟩ : ∃ r1 r2, fst f n 0 = (r1, r2) := ⟨_, _, rfl⟩
  have HX := Lib.hid hr
  have HS := Lib.hid h
  have HK := Lib.hid hk
  clear hr h hk
  go_enter Tryd.func5, Tryd.ntmps5
  go_wp2_with fail
  refine (known_ok _ HK.out).mono ?_
  rintro e w1 ⟨rfl, hb⟩
  have B1 := Lib.hid (Bel.up (Bel.refl w) hb)
  clear hb
  go_wp2_with fail
  refine (list_ok n cap ad f _ (by omega) (HS.out.up B1.out.out)).mono ?_
  rintro e w2 ⟨v, rfl, hb, ho⟩
  obtain ⟨ad2, cap2, rfl, hs⟩ := SpAt.of_sps ho
  have B2 := Lib.hid (B1.out.up hb)
  have HL := Lib.hid hs
  clear hb ho hs B1
  go_wp2_with fail
  refine (check_ok n cap2 ad2 f r1 r2 _ (by omega) HL.out HX.out).mono ?_
  rintro e w3 ⟨rfl, hb⟩
  have B3 := Lib.hid (B2.out.up hb)
  clear hb B2
  go_wp2_with fail
  refine (rcheck_ok n cap ad f r1 r2 _ (by omega) (HS.out.up B3.out.out) HX.out).mono ?_
  rintro e w4 ⟨rfl, hb⟩
  have B4 := Lib.hid (B3.out.up hb)
  clear hb B3
  go_wp2_with fail
  go_ret
  exact ⟨rfl, B4.out.out⟩
theorem law_SpannerChecks (f : Nat → Sp) (n cap : Nat) (ad : Option Addr) (w : World) (h : SpAt w ad n f) (hk : KT w) :
    Calls Tryd.prog 5 #[.slice ad n cap] w fun e w' => e = .returned (.bool true) ∧ Below w.heap.size w w' := by
  by_cases hn : n ≤ 20
  · exact law_checks_few f n cap ad w hk hn h
  · exact law_checks_many f n cap ad w hk (by omega)
end Go.Proofs.YtabafabebodojaaDoor
