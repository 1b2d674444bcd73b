/- The law IntervalEnharmonics. -/
import Derived.Test.YtfbogakmhaiddaaDoorIp
namespace Go.Proofs.YtfbogakmhaiddaaDoor
open Go.RowKit
set_option linter.unusedVariables false
set_option linter.unusedSimpArgs false

set_option maxRecDepth 100000 in
set_option maxHeartbeats 2000000 in
theorem ieLaw1 (s a o : Int) (w : World) (h : ¬ Pit s a o) (ht : PT w) (hi : IT w) :
    Calls Tryd.prog 9 #[.agg #[.int .i64 s, .int .i64 a, .int .i64 o]] w fun e w' => e = .returned (.bool true) ∧ Below w.heap.size w w' := by
  have B0 := Lib.hid ((Bel.refl w).alloc (.cells #[.int .i64 s, .int .i64 a, .int .i64 o] 41))
  have T0 := Lib.hid (ht.below ((Below.refl _ _).alloc (Nat.le_refl _) (.cells #[.int .i64 s, .int .i64 a, .int .i64 o] 41)))
  have I0 := Lib.hid (hi.below ((Below.refl _ _).alloc (Nat.le_refl _) (.cells #[.int .i64 s, .int .i64 a, .int .i64 o] 41)))
  have X0 := Tri.new w (.int .i64 s) (.int .i64 a) (.int .i64 o) 41 (w.heap.size) (by simp)
  have HP := Lib.hid h
  go_enter Tryd.func9, Tryd.ntmps9
  obtain ⟨xf0, xf1, xf2, xf3, xf4, xf5, xf6⟩ := id X0
  go_wp2_with fail
  clear xf0 xf1 xf2 xf3 xf4 xf5 xf6
  refine (ienh_bad s a o _ HP.out T0.out).mono ?_
  rintro e w1 ⟨rfl, hb⟩
  have B1 := Lib.hid (B0.out.up hb)
  have T1 := Lib.hid (T0.out.below hb)
  have I1 := Lib.hid (I0.out.below hb)
  have X1 := X0.up hb
  clear hb B0 T0 I0 X0
  obtain ⟨xf0, xf1, xf2, xf3, xf4, xf5, xf6⟩ := id X1
  go_wp2_with fail
  clear xf0 xf1 xf2 xf3 xf4 xf5 xf6
  refine (known_any _ T1.out I1.out).mono ?_
  rintro e w2 ⟨rfl, hb⟩
  have B2 := Lib.hid (B1.out.up hb)
  have T2 := Lib.hid (T1.out.below hb)
  have I2 := Lib.hid (I1.out.below hb)
  have X2 := X1.up hb
  clear hb B1 T1 I1 X1
  obtain ⟨xf0, xf1, xf2, xf3, xf4, xf5, xf6⟩ := id X2
  go_wp2_with fail
  clear xf0 xf1 xf2 xf3 xf4 xf5 xf6
  refine (valid_no s a o _ HP.out).mono ?_
  rintro e w3 ⟨rfl, hb⟩
  have B3 := Lib.hid (B2.out.up hb)
  have T3 := Lib.hid (T2.out.below hb)
  have I3 := Lib.hid (I2.out.below hb)
  have X3 := X2.up hb
  clear hb B2 T2 I2 X2
  obtain ⟨xf0, xf1, xf2, xf3, xf4, xf5, xf6⟩ := id X3
  go_wp2_with fail
  go_ret
  exact ⟨by first | rfl | (simp; done), B3.out.out⟩
set_option maxRecDepth 100000 in
set_option maxHeartbeats 2000000 in
theorem ieLaw2 (s a o : Int) (w : World) (h : Pit s a o) (ht : PT w) (hi : IT w) :
    Calls Tryd.prog 9 #[.agg #[.int .i64 s, .int .i64 a, .int .i64 o]] w fun e w' => e = .returned (.bool true) ∧ Below w.heap.size w w' := by
  have B0 := Lib.hid ((Bel.refl w).alloc (.cells #[.int .i64 s, .int .i64 a, .int .i64 o] 41))
  have T0 := Lib.hid (ht.below ((Below.refl _ _).alloc (Nat.le_refl _) (.cells #[.int .i64 s, .int .i64 a, .int .i64 o] 41)))
  have I0 := Lib.hid (hi.below ((Below.refl _ _).alloc (Nat.le_refl _) (.cells #[.int .i64 s, .int .i64 a, .int .i64 o] 41)))
  have X0 := Tri.new w (.int .i64 s) (.int .i64 a) (.int .i64 o) 41 (w.heap.size) (by simp)
  have HP := Lib.hid h
  have N0 := h.n0; have N1 := h.n1
  go_enter Tryd.func9, Tryd.ntmps9
  obtain ⟨xf0, xf1, xf2, xf3, xf4, xf5, xf6⟩ := id X0
  go_wp2_with fail
  clear xf0 xf1 xf2 xf3 xf4 xf5 xf6
  refine (ienh_ok s a o _ HP.out T0.out).mono ?_
  rintro e w1 ⟨g, cap, rfl, hrow, hb⟩
  have G1 := Lib.hid hrow
  clear hrow
  have B1 := Lib.hid (B0.out.up hb)
  have T1 := Lib.hid (T0.out.below hb)
  have I1 := Lib.hid (I0.out.below hb)
  have X1 := X0.up hb
  clear hb B0 T0 I0 X0
  obtain ⟨xf0, xf1, xf2, xf3, xf4, xf5, xf6⟩ := id X1
  go_wp2_with fail
  clear xf0 xf1 xf2 xf3 xf4 xf5 xf6
  refine (known_any _ T1.out I1.out).mono ?_
  rintro e w2 ⟨rfl, hb⟩
  have B2 := Lib.hid (B1.out.up hb)
  have T2 := Lib.hid (T1.out.below hb)
  have I2 := Lib.hid (I1.out.below hb)
  have G2 := Lib.hid (G1.out.up hb)
  have X2 := X1.up hb
  clear hb B1 T1 I1 G1 X1
  obtain ⟨xf0, xf1, xf2, xf3, xf4, xf5, xf6⟩ := id X2
  go_wp2_with fail
  clear xf0 xf1 xf2 xf3 xf4 xf5 xf6
  refine (valid_yes s a o _ HP.out).mono ?_
  rintro e w3 ⟨rfl, hb⟩
  have B3 := Lib.hid (B2.out.up hb)
  have T3 := Lib.hid (T2.out.below hb)
  have I3 := Lib.hid (I2.out.below hb)
  have G3 := Lib.hid (G2.out.up hb)
  have X3 := X2.up hb
  clear hb B2 T2 I2 G2 X2
  obtain ⟨xf0, xf1, xf2, xf3, xf4, xf5, xf6⟩ := id X3
  go_wp2_with fail
  clear xf0 xf1 xf2 xf3 xf4 xf5 xf6
  refine (refNum_any s a o _ HP.out.s0 HP.out.s1 HP.out.a0 HP.out.a1 HP.out.o0 HP.out.o1).mono ?_
  rintro e w4 ⟨rfl, hb⟩
  have B4 := Lib.hid (B3.out.up hb)
  have T4 := Lib.hid (T3.out.below hb)
  have I4 := Lib.hid (I3.out.below hb)
  have G4 := Lib.hid (G3.out.up hb)
  have X4 := X3.up hb
  clear hb B3 T3 I3 G3 X3
  obtain ⟨xf0, xf1, xf2, xf3, xf4, xf5, xf6⟩ := id X4
  go_wp2_with fail
  clear xf0 xf1 xf2 xf3 xf4 xf5 xf6
  refine (refAll_any (numP s a o) _ (by omega) (by omega)).mono ?_
  rintro e w5 ⟨v, rfl, hown, hb⟩
  rw [refA_enh] at hown
  have hne := enhL_some N0 N1
  have hlen := enhL_len (numP s a o)
  obtain ⟨g2, cap2, rfl, hg2, hrow2⟩ := rows_of_own hown hne
  have S5 := Lib.hid (show Row3 w5 g2 (enhL (numP s a o)) from hrow2)
  clear hown hg2 hrow2
  have B5 := Lib.hid (B4.out.up hb)
  have T5 := Lib.hid (T4.out.below hb)
  have I5 := Lib.hid (I4.out.below hb)
  have G5 := Lib.hid (G4.out.up hb)
  have X5 := X4.up hb
  clear hb B4 T4 I4 G4 X4
  obtain ⟨xf0, xf1, xf2, xf3, xf4, xf5, xf6⟩ := id X5
  generalize enhL (numP s a o) = L at *
  go_wp2_with fail
  go_loopg [6] L.length (fun gm i wr => ∃ k : Nat, k ≤ L.length ∧ gm = L.length - k ∧ i = .int .i64 (k : Int) ∧ Hid (Below w5.heap.size w5 wr))
  case atStart => exact ⟨0, by omega, by omega, rfl, Lib.hid (Below.refl _ _)⟩
  case round =>
    obtain ⟨k, hk, rfl, rfl, HS⟩ := hrel
    by_cases hlt : k < L.length
    · obtain ⟨q, hq⟩ : ∃ q, L[k]? = some q := ⟨_, List.getElem?_eq_getElem hlt⟩
      obtain ⟨q1, q2, q3⟩ := G5.out.up HS.out k q hq
      obtain ⟨p1, p2, p3⟩ := S5.out.up HS.out k q hq
      clear hq
      go_wp2_with fail
      go_quiet (fail)
      go_wp2_with fail
      go_roundg (L.length - (k + 1))
      case measure => omega
      case rel => exact ⟨k + 1, by omega, rfl, by go_num, Lib.hid (by first | exact HS.out | exact below_drewN HS.out _ | exact Below.drew HS.out)⟩
    · obtain rfl : k = L.length := by omega
      go_wp2_with fail
      go_ret
      exact ⟨rfl, B5.out.up HS.out⟩
theorem law_IntervalEnharmonics (s a o : Int) (w : World) (ht : PT w) (hi : IT w) :
    Calls Tryd.prog 9 #[.agg #[.int .i64 s, .int .i64 a, .int .i64 o]] w fun e w' => e = .returned (.bool true) ∧ Below w.heap.size w w' := by
  by_cases h : Pit s a o
  · exact ieLaw2 s a o w h ht hi
  · exact ieLaw1 s a o w h ht hi
end Go.Proofs.YtfbogakmhaiddaaDoor
