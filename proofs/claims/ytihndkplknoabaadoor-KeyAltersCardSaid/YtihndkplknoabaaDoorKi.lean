/- The law KeyAlters. -/
import Derived.Test.YtihndkplknoabaaDoorKe
import Derived.Test.YtihndkplknoabaaDoorKh
namespace Go.Proofs.YtihndkplknoabaaDoor
open Go.RowKit
set_option linter.unusedVariables false
set_option linter.unusedSimpArgs false

set_option maxRecDepth 100000 in
set_option maxHeartbeats 2000000 in
theorem kaLaw1 (f r : Int) (w : World) (h : ¬ Sg f) (hk : KT w) :
    Calls Tryd.prog 3 #[.int .i64 f, .int .i64 r] w fun e w' => e = .returned (.bool true) ∧ Below w.heap.size w w' := by
  have B0 := Lib.hid (Bel.refl w)
  have K0 := Lib.hid hk
  have HP := Lib.hid h
  go_enter Tryd.func3, Tryd.ntmps3
  go_wp2_with fail
  refine (alterK_b1 f r _ HP.out K0.out).mono ?_
  rintro e w1 ⟨rfl, hb⟩
  have B1 := Lib.hid (B0.out.up hb)
  have K1 := Lib.hid (K0.out.below hb)
  clear hb B0 K0 
  go_wp2_with fail
  refine (sigK_bad f _ HP.out K1.out).mono ?_
  rintro e w2 ⟨rfl, hb⟩
  have B2 := Lib.hid (B1.out.up hb)
  have K2 := Lib.hid (K1.out.below hb)
  clear hb B1 K1 
  go_wp2_with fail
  refine (known_any _ K2.out).mono ?_
  rintro e w3 ⟨rfl, hb⟩
  have B3 := Lib.hid (B2.out.up hb)
  have K3 := Lib.hid (K2.out.below hb)
  clear hb B2 K2 
  go_wp2_with fail
  refine (checkK_bad f _ HP.out).mono ?_
  rintro e w4 ⟨rfl, hb⟩
  have B4 := Lib.hid (B3.out.up hb)
  have K4 := Lib.hid (K3.out.below hb)
  clear hb B3 K3 
  go_wp2_with fail
  refine (isK_bad f _ HP.out).mono ?_
  rintro e w5 ⟨rfl, hb⟩
  have B5 := Lib.hid (B4.out.up hb)
  have K5 := Lib.hid (K4.out.below hb)
  clear hb B4 K4 
  go_wp2_with fail
  refine (isK_bad f _ HP.out).mono ?_
  rintro e w6 ⟨rfl, hb⟩
  have B6 := Lib.hid (B5.out.up hb)
  have K6 := Lib.hid (K5.out.below hb)
  clear hb B5 K5 
  go_wp2_with fail
  refine (checkK_bad f _ HP.out).mono ?_
  rintro e w7 ⟨rfl, hb⟩
  have B7 := Lib.hid (B6.out.up hb)
  have K7 := Lib.hid (K6.out.below hb)
  clear hb B6 K6 
  go_wp2_with fail
  go_ret
  exact ⟨by first | rfl | (simp; done), B7.out.out⟩
def RW (b : Nat) (L : List Int) (w : World) : Prop := Row1 w b L
theorem RW.up {w w' : World} {b : Nat} {L : List Int} (h : RW b L w) (hb : Below w.heap.size w w') : RW b L w' := Row1.up h hb
set_option maxRecDepth 100000 in
set_option maxHeartbeats 2000000 in
theorem kaLaw2 (f r : Int) (w : World) (h : Sg f) (k : r < 0 ∨ 6 < r) (hk : KT w) :
    Calls Tryd.prog 3 #[.int .i64 f, .int .i64 r] w fun e w' => e = .returned (.bool true) ∧ Below w.heap.size w w' := by
  have B0 := Lib.hid (Bel.refl w)
  have K0 := Lib.hid hk
  have HP := Lib.hid h
  have HQ := Lib.hid k
  go_enter Tryd.func3, Tryd.ntmps3
  go_wp2_with fail
  refine (alterK_b2 f r _ HP.out HQ.out K0.out).mono ?_
  rintro e w1 ⟨rfl, hb⟩
  have B1 := Lib.hid (B0.out.up hb)
  have K1 := Lib.hid (K0.out.below hb)
  clear hb B0 K0 
  go_wp2_with fail
  refine (sigK_ok f _ HP.out K1.out).mono ?_
  rintro e w2 ⟨b, rfl, hr, hb⟩
  have R2 := Lib.hid (show RW b (sigL f) w2 from hr)
  clear hr
  have B2 := Lib.hid (B1.out.up hb)
  have K2 := Lib.hid (K1.out.below hb)
  clear hb B1 K1 
  go_wp2_with fail
  refine (known_any _ K2.out).mono ?_
  rintro e w3 ⟨rfl, hb⟩
  have B3 := Lib.hid (B2.out.up hb)
  have K3 := Lib.hid (K2.out.below hb)
  have R3 := Lib.hid (R2.out.up hb)
  clear hb B2 K2 R2 
  go_wp2_with fail
  refine (checkK_ok f _ HP.out).mono ?_
  rintro e w4 ⟨rfl, hb⟩
  have B4 := Lib.hid (B3.out.up hb)
  have K4 := Lib.hid (K3.out.below hb)
  have R4 := Lib.hid (R3.out.up hb)
  clear hb B3 K3 R3 
  go_wp2_with fail
  refine (isK_ok f _ HP.out).mono ?_
  rintro e w5 ⟨rfl, hb⟩
  have B5 := Lib.hid (B4.out.up hb)
  have K5 := Lib.hid (K4.out.below hb)
  have R5 := Lib.hid (R4.out.up hb)
  clear hb B4 K4 R4 
  go_wp2_with fail
  refine (isK_ok f _ HP.out).mono ?_
  rintro e w6 ⟨rfl, hb⟩
  have B6 := Lib.hid (B5.out.up hb)
  have K6 := Lib.hid (K5.out.below hb)
  have R6 := Lib.hid (R5.out.up hb)
  clear hb B5 K5 R5 
  go_wp2_with fail
  refine (refSig_ok f _ HP.out).mono ?_
  rintro e w7 ⟨v, rfl, hown, hb⟩
  obtain ⟨ad, cap, rfl, hrow⟩ := row1_own hown
  have HS := Lib.hid hrow
  clear hown hrow
  have B7 := Lib.hid (B6.out.up hb)
  have K7 := Lib.hid (K6.out.below hb)
  have R7 := Lib.hid (R6.out.up hb)
  clear hb B6 K6 R6 
  go_wp2_with fail
  refine (numbers_same (sigL f) b 7 ad cap _ (sigL_len HP.out) R7.out HS.out).mono ?_
  rintro e w8 ⟨rfl, hb⟩
  have B8 := Lib.hid (B7.out.up hb)
  have K8 := Lib.hid (K7.out.below hb)
  have R8 := Lib.hid (R7.out.up hb)
  clear hb B7 K7 R7 
  go_wp2_with fail
  all_goals
    go_ret
    exact ⟨by first | rfl | (simp; done), B8.out.out⟩
set_option maxRecDepth 100000 in
set_option maxHeartbeats 2000000 in
theorem kaLaw3 (f r : Int) (w : World) (h : Sg f) (r0 : 0 ≤ r) (r1 : r ≤ 6) (hk : KT w) :
    Calls Tryd.prog 3 #[.int .i64 f, .int .i64 r] w fun e w' => e = .returned (.bool true) ∧ Below w.heap.size w w' := by
  have B0 := Lib.hid (Bel.refl w)
  have K0 := Lib.hid hk
  have HP := Lib.hid h
  go_enter Tryd.func3, Tryd.ntmps3
  go_wp2_with fail
  refine (alterK_ok f r _ HP.out r0 r1 K0.out).mono ?_
  rintro e w1 ⟨rfl, hb⟩
  have B1 := Lib.hid (B0.out.up hb)
  have K1 := Lib.hid (K0.out.below hb)
  clear hb B0 K0 
  go_wp2_with fail
  refine (sigK_ok f _ HP.out K1.out).mono ?_
  rintro e w2 ⟨b, rfl, hr, hb⟩
  have R2 := Lib.hid (show RW b (sigL f) w2 from hr)
  clear hr
  have B2 := Lib.hid (B1.out.up hb)
  have K2 := Lib.hid (K1.out.below hb)
  clear hb B1 K1 
  go_wp2_with fail
  refine (known_any _ K2.out).mono ?_
  rintro e w3 ⟨rfl, hb⟩
  have B3 := Lib.hid (B2.out.up hb)
  have K3 := Lib.hid (K2.out.below hb)
  have R3 := Lib.hid (R2.out.up hb)
  clear hb B2 K2 R2 
  go_wp2_with fail
  refine (checkK_ok f _ HP.out).mono ?_
  rintro e w4 ⟨rfl, hb⟩
  have B4 := Lib.hid (B3.out.up hb)
  have K4 := Lib.hid (K3.out.below hb)
  have R4 := Lib.hid (R3.out.up hb)
  clear hb B3 K3 R3 
  go_wp2_with fail
  refine (isK_ok f _ HP.out).mono ?_
  rintro e w5 ⟨rfl, hb⟩
  have B5 := Lib.hid (B4.out.up hb)
  have K5 := Lib.hid (K4.out.below hb)
  have R5 := Lib.hid (R4.out.up hb)
  clear hb B4 K4 R4 
  go_wp2_with fail
  refine (isK_ok f _ HP.out).mono ?_
  rintro e w6 ⟨rfl, hb⟩
  have B6 := Lib.hid (B5.out.up hb)
  have K6 := Lib.hid (K5.out.below hb)
  have R6 := Lib.hid (R5.out.up hb)
  clear hb B5 K5 R5 
  go_wp2_with fail
  refine (refSig_ok f _ HP.out).mono ?_
  rintro e w7 ⟨v, rfl, hown, hb⟩
  obtain ⟨ad, cap, rfl, hrow⟩ := row1_own hown
  have HS := Lib.hid hrow
  clear hown hrow
  have B7 := Lib.hid (B6.out.up hb)
  have K7 := Lib.hid (K6.out.below hb)
  have R7 := Lib.hid (R6.out.up hb)
  clear hb B6 K6 R6 
  go_wp2_with fail
  refine (numbers_same (sigL f) b 7 ad cap _ (sigL_len HP.out) R7.out HS.out).mono ?_
  rintro e w8 ⟨rfl, hb⟩
  have B8 := Lib.hid (B7.out.up hb)
  have K8 := Lib.hid (K7.out.below hb)
  have R8 := Lib.hid (R7.out.up hb)
  clear hb B7 K7 R7 
  go_wp2_with fail
  refine (refAlter_ok f r _ HP.out).mono ?_
  rintro e w9 ⟨rfl, hb⟩
  have B9 := Lib.hid (B8.out.up hb)
  have K9 := Lib.hid (K8.out.below hb)
  have R9 := Lib.hid (R8.out.up hb)
  clear hb B8 K8 R8 
  go_wp2_with fail
  all_goals
    go_ret
    exact ⟨by first | rfl | (simp; done), B9.out.out⟩
theorem law_KeyAlters (f r : Int) (w : World) (hk : KT w) :
    Calls Tryd.prog 3 #[.int .i64 f, .int .i64 r] w fun e w' => e = .returned (.bool true) ∧ Below w.heap.size w w' := by
  by_cases h : Sg f
  · by_cases k : r < 0 ∨ 6 < r
    · exact kaLaw2 f r w h k hk
    · exact kaLaw3 f r w h (by omega) (by omega) hk
  · exact kaLaw1 f r w h hk
end Go.Proofs.YtihndkplknoabaaDoor
