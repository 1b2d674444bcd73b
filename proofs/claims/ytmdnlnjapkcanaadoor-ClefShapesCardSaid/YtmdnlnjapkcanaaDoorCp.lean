/- Clefs: law ClefSignatures. -/
import Derived.Test.YtmdnlnjapkcanaaDoorCo
namespace Go.Proofs.YtmdnlnjapkcanaaDoor
open Go.RowKit
set_option linter.unusedVariables false
set_option linter.unusedSimpArgs false

theorem rsgn_any (c f : Int) (w : World) (h : Cl c) (k : Sg f) :
    Calls Tryd.prog 25 #[.int .i64 c, .int .i64 f] w fun e w' => ∃ v, e = .returned v ∧ w'.ownsRow w.heap.size 3 1 v (sgnL c f).length (ints (sgnL c f)) ∧ Below w.heap.size w w' := by
  by_cases hf : f < 0
  · exact rsgn_neg c f w h k hf
  · exact rsgn_pos c f w h k (by omega)
theorem sgn_any (c f : Int) (w : World) (h : Cl c) (k : Sg f) (hc : CW w) :
    Calls Tryd.prog 24 #[.int .i64 c, .int .i64 f] w fun e w' => ∃ b, e = .returned (.tuple #[.slice (some ⟨b, 0, none⟩) (sgnL c f).length (sgnL c f).length, .int .i64 0]) ∧ Row1 w' b (sgnL c f) ∧ Below w.heap.size w w' := by
  by_cases hf : f < 0
  · exact sgn_neg c f w h k hf hc
  · exact sgn_pos c f w h k (by omega) hc
set_option maxRecDepth 100000 in
set_option maxHeartbeats 2000000 in
theorem sigLaw1 (c f : Int) (w : World) (h : ¬ Cl c) (hc : CW w) :
    Calls Tryd.prog 8 #[.int .i64 c, .int .i64 f] w fun e w' => e = .returned (.bool true) ∧ Below w.heap.size w w' := by
  have HP := Lib.hid h
  have B0 := Lib.hid (Bel.refl w)
  have C0 := Lib.hid hc
  go_enter Tryd.func8, Tryd.ntmps8
  go_wp2_with fail
  refine (known_ok _ C0.out).mono ?_
  rintro e w1 ⟨rfl, hb⟩
  have B1 := Lib.hid (B0.out.up hb)
  have C1 := Lib.hid (C0.out.below hb)
  clear hb B0 C0 
  go_wp2_with fail
  refine (sgn_b1 c f _ HP.out C1.out).mono ?_
  rintro e w2 ⟨rfl, hb⟩
  have B2 := Lib.hid (B1.out.up hb)
  have C2 := Lib.hid (C1.out.below hb)
  clear hb B1 C1 
  go_wp2_with fail
  refine (valid_bad c _ HP.out).mono ?_
  rintro e w3 ⟨rfl, hb⟩
  have B3 := Lib.hid (B2.out.up hb)
  have C3 := Lib.hid (C2.out.below hb)
  clear hb B2 C2 
  go_wp2_with fail
  go_ret
  exact ⟨rfl, B3.out.out⟩
set_option maxRecDepth 100000 in
set_option maxHeartbeats 2000000 in
theorem sigLaw2 (c f : Int) (w : World) (h : Cl c) (q : f < -7) (hc : CW w) :
    Calls Tryd.prog 8 #[.int .i64 c, .int .i64 f] w fun e w' => e = .returned (.bool true) ∧ Below w.heap.size w w' := by
  have HP := Lib.hid h
  have B0 := Lib.hid (Bel.refl w)
  have C0 := Lib.hid hc
  go_enter Tryd.func8, Tryd.ntmps8
  go_wp2_with fail
  refine (known_ok _ C0.out).mono ?_
  rintro e w1 ⟨rfl, hb⟩
  have B1 := Lib.hid (B0.out.up hb)
  have C1 := Lib.hid (C0.out.below hb)
  clear hb B0 C0 
  go_wp2_with fail
  refine (sgn_b2 c f _ HP.out (fun k => by have := k.f0; have := k.f1; omega) C1.out).mono ?_
  rintro e w2 ⟨rfl, hb⟩
  have B2 := Lib.hid (B1.out.up hb)
  have C2 := Lib.hid (C1.out.below hb)
  clear hb B1 C1 
  go_wp2_with fail
  refine (valid_ok c _ HP.out).mono ?_
  rintro e w3 ⟨rfl, hb⟩
  have B3 := Lib.hid (B2.out.up hb)
  have C3 := Lib.hid (C2.out.below hb)
  clear hb B2 C2 
  go_wp2_with fail
  go_ret
  exact ⟨rfl, B3.out.out⟩
set_option maxRecDepth 100000 in
set_option maxHeartbeats 2000000 in
theorem sigLaw3 (c f : Int) (w : World) (h : Cl c) (q0 : -7 ≤ f) (q : 7 < f) (hc : CW w) :
    Calls Tryd.prog 8 #[.int .i64 c, .int .i64 f] w fun e w' => e = .returned (.bool true) ∧ Below w.heap.size w w' := by
  have HP := Lib.hid h
  have B0 := Lib.hid (Bel.refl w)
  have C0 := Lib.hid hc
  go_enter Tryd.func8, Tryd.ntmps8
  go_wp2_with fail
  refine (known_ok _ C0.out).mono ?_
  rintro e w1 ⟨rfl, hb⟩
  have B1 := Lib.hid (B0.out.up hb)
  have C1 := Lib.hid (C0.out.below hb)
  clear hb B0 C0 
  go_wp2_with fail
  refine (sgn_b2 c f _ HP.out (fun k => by have := k.f0; have := k.f1; omega) C1.out).mono ?_
  rintro e w2 ⟨rfl, hb⟩
  have B2 := Lib.hid (B1.out.up hb)
  have C2 := Lib.hid (C1.out.below hb)
  clear hb B1 C1 
  go_wp2_with fail
  refine (valid_ok c _ HP.out).mono ?_
  rintro e w3 ⟨rfl, hb⟩
  have B3 := Lib.hid (B2.out.up hb)
  have C3 := Lib.hid (C2.out.below hb)
  clear hb B2 C2 
  go_wp2_with fail
  go_ret
  exact ⟨rfl, B3.out.out⟩
set_option maxRecDepth 100000 in
set_option maxHeartbeats 2000000 in
theorem sigLaw4 (c f : Int) (w : World) (h : Cl c) (k : Sg f) (hc : CW w) :
    Calls Tryd.prog 8 #[.int .i64 c, .int .i64 f] w fun e w' => e = .returned (.bool true) ∧ Below w.heap.size w w' := by
  have HP := Lib.hid h
  have HQ := Lib.hid k
  have g0 := k.f0
  have g1 := k.f1
  have HL := Lib.hid (show (sgnL c f).length ≤ 1000 by have := sigL_len k; simp [sgnL]; omega)
  have B0 := Lib.hid (Bel.refl w)
  have C0 := Lib.hid hc
  go_enter Tryd.func8, Tryd.ntmps8
  go_wp2_with fail
  refine (known_ok _ C0.out).mono ?_
  rintro e w1 ⟨rfl, hb⟩
  have B1 := Lib.hid (B0.out.up hb)
  have C1 := Lib.hid (C0.out.below hb)
  clear hb B0 C0 
  go_wp2_with fail
  refine (sgn_any c f _ HP.out HQ.out C1.out).mono ?_
  rintro e w2 ⟨b2, rfl, hr, hb⟩
  have J2 := Lib.hid (show OptRow _ (some ⟨b2, 0, none⟩) (sgnL c f) from fun _ => ⟨b2, rfl, hr⟩)
  clear hr
  have B2 := Lib.hid (B1.out.up hb)
  have C2 := Lib.hid (C1.out.below hb)
  clear hb B1 C1 
  go_wp2_with fail
  refine (valid_ok c _ HP.out).mono ?_
  rintro e w3 ⟨rfl, hb⟩
  have B3 := Lib.hid (B2.out.up hb)
  have C3 := Lib.hid (C2.out.below hb)
  have J3 := Lib.hid (J2.out.up hb)
  clear hb B2 C2 J2 
  go_wp2_with fail
  refine (rsgn_any c f _ HP.out HQ.out).mono ?_
  rintro e w4 ⟨v4, rfl, hown, hb⟩
  obtain ⟨ad4, cap4, rfl, hr4⟩ := row1_own hown
  have G4 := Lib.hid (show OptRow _ ad4 (sgnL c f) from hr4)
  clear hown hr4
  have B4 := Lib.hid (B3.out.up hb)
  have C4 := Lib.hid (C3.out.below hb)
  have J4 := Lib.hid (J3.out.up hb)
  clear hb B3 C3 J3 
  go_wp2_with fail
  refine (numbers_same (sgnL c f) (some ⟨b2, 0, none⟩) _ ad4 cap4 _ HL.out J4.out G4.out).mono ?_
  rintro e w5 ⟨rfl, hb⟩
  have B5 := Lib.hid (B4.out.up hb)
  have C5 := Lib.hid (C4.out.below hb)
  have J5 := Lib.hid (J4.out.up hb)
  have G5 := Lib.hid (G4.out.up hb)
  clear hb B4 C4 J4 G4 
  go_wp2_with fail
  go_ret
  exact ⟨rfl, B5.out.out⟩
theorem law_ClefSignatures (c f : Int) (w : World) (hc : CW w) : Calls Tryd.prog 8 #[.int .i64 c, .int .i64 f] w fun e w' => e = .returned (.bool true) ∧ Below w.heap.size w w' := by
  by_cases h : Cl c
  · by_cases k0 : f < -7
    · exact sigLaw2 c f w h k0 hc
    · by_cases k1 : 7 < f
      · exact sigLaw3 c f w h (by omega) k1 hc
      · exact sigLaw4 c f w h ⟨by omega, by omega⟩ hc
  · exact sigLaw1 c f w h hc
end Go.Proofs.YtmdnlnjapkcanaaDoor
