/- Clefs: law ClefPositions. -/
import Derived.Test.YtmdnlnjapkcanaaDoorCj
namespace Go.Proofs.YtmdnlnjapkcanaaDoor
open Go.RowKit
set_option linter.unusedVariables false
set_option linter.unusedSimpArgs false

set_option maxRecDepth 100000 in
set_option maxHeartbeats 2000000 in
theorem posLaw1 (c s a o : Int) (w : World) (h : ¬ Cl c) (hc : CW w) :
    Calls Tryd.prog 3 #[.int .i64 c, .agg #[.int .i64 s, .int .i64 a, .int .i64 o]] w fun e w' => e = .returned (.bool true) ∧ Below w.heap.size w w' := by
  have HP := Lib.hid h
  have B0 := Lib.hid ((Bel.refl w).alloc (.cells #[.int .i64 s, .int .i64 a, .int .i64 o] 23))
  have C0 := Lib.hid (hc.below ((Below.refl _ _).alloc (Nat.le_refl _) (.cells #[.int .i64 s, .int .i64 a, .int .i64 o] 23)))
  have X0 := Tri.new w (.int .i64 s) (.int .i64 a) (.int .i64 o) 23 (w.heap.size) (by simp)
  go_enter Tryd.func3, Tryd.ntmps3
  obtain ⟨xf0, xf1, xf2, xf3, xf4, xf5, xf6⟩ := id X0
  go_wp2_with fail
  clear xf0 xf1 xf2 xf3 xf4 xf5 xf6
  refine (known_ok _ C0.out).mono ?_
  rintro e w1 ⟨rfl, hb⟩
  have B1 := Lib.hid (B0.out.up hb)
  have C1 := Lib.hid (C0.out.below hb)
  have X1 := X0.up hb
  clear hb B0 C0 X0
  obtain ⟨xf0, xf1, xf2, xf3, xf4, xf5, xf6⟩ := id X1
  go_wp2_with fail
  clear xf0 xf1 xf2 xf3 xf4 xf5 xf6
  refine (pos_bad1 c s a o _ HP.out C1.out).mono ?_
  rintro e w2 ⟨rfl, hb⟩
  have B2 := Lib.hid (B1.out.up hb)
  have C2 := Lib.hid (C1.out.below hb)
  have X2 := X1.up hb
  clear hb B1 C1 X1
  obtain ⟨xf0, xf1, xf2, xf3, xf4, xf5, xf6⟩ := id X2
  go_wp2_with fail
  clear xf0 xf1 xf2 xf3 xf4 xf5 xf6
  refine (kind_bad c _ HP.out).mono ?_
  rintro e w3 ⟨rfl, hb⟩
  have B3 := Lib.hid (B2.out.up hb)
  have C3 := Lib.hid (C2.out.below hb)
  have X3 := X2.up hb
  clear hb B2 C2 X2
  obtain ⟨xf0, xf1, xf2, xf3, xf4, xf5, xf6⟩ := id X3
  go_wp2_with fail
  clear xf0 xf1 xf2 xf3 xf4 xf5 xf6
  refine (checkC_bad c _ HP.out).mono ?_
  rintro e w4 ⟨rfl, hb⟩
  have B4 := Lib.hid (B3.out.up hb)
  have C4 := Lib.hid (C3.out.below hb)
  have X4 := X3.up hb
  clear hb B3 C3 X3
  obtain ⟨xf0, xf1, xf2, xf3, xf4, xf5, xf6⟩ := id X4
  go_wp2_with fail
  go_ret
  exact ⟨rfl, B4.out.out⟩
set_option maxRecDepth 100000 in
set_option maxHeartbeats 2000000 in
theorem posLaw2 (c s a o : Int) (w : World) (h : Cl c) (hp : ¬ Pit s a o) (hc : CW w) :
    Calls Tryd.prog 3 #[.int .i64 c, .agg #[.int .i64 s, .int .i64 a, .int .i64 o]] w fun e w' => e = .returned (.bool true) ∧ Below w.heap.size w w' := by
  have HP := Lib.hid h
  have HQ := Lib.hid hp
  have B0 := Lib.hid ((Bel.refl w).alloc (.cells #[.int .i64 s, .int .i64 a, .int .i64 o] 23))
  have C0 := Lib.hid (hc.below ((Below.refl _ _).alloc (Nat.le_refl _) (.cells #[.int .i64 s, .int .i64 a, .int .i64 o] 23)))
  have X0 := Tri.new w (.int .i64 s) (.int .i64 a) (.int .i64 o) 23 (w.heap.size) (by simp)
  go_enter Tryd.func3, Tryd.ntmps3
  obtain ⟨xf0, xf1, xf2, xf3, xf4, xf5, xf6⟩ := id X0
  go_wp2_with fail
  clear xf0 xf1 xf2 xf3 xf4 xf5 xf6
  refine (known_ok _ C0.out).mono ?_
  rintro e w1 ⟨rfl, hb⟩
  have B1 := Lib.hid (B0.out.up hb)
  have C1 := Lib.hid (C0.out.below hb)
  have X1 := X0.up hb
  clear hb B0 C0 X0
  obtain ⟨xf0, xf1, xf2, xf3, xf4, xf5, xf6⟩ := id X1
  go_wp2_with fail
  clear xf0 xf1 xf2 xf3 xf4 xf5 xf6
  refine (pos_bad2 c s a o _ HP.out HQ.out C1.out).mono ?_
  rintro e w2 ⟨rfl, hb⟩
  have B2 := Lib.hid (B1.out.up hb)
  have C2 := Lib.hid (C1.out.below hb)
  have X2 := X1.up hb
  clear hb B1 C1 X1
  obtain ⟨xf0, xf1, xf2, xf3, xf4, xf5, xf6⟩ := id X2
  go_wp2_with fail
  clear xf0 xf1 xf2 xf3 xf4 xf5 xf6
  refine (kind_ok c _ HP.out).mono ?_
  rintro e w3 ⟨rfl, hb⟩
  have B3 := Lib.hid (B2.out.up hb)
  have C3 := Lib.hid (C2.out.below hb)
  have X3 := X2.up hb
  clear hb B2 C2 X2
  obtain ⟨xf0, xf1, xf2, xf3, xf4, xf5, xf6⟩ := id X3
  go_wp2_with fail
  clear xf0 xf1 xf2 xf3 xf4 xf5 xf6
  refine (checkC_ok c _ HP.out).mono ?_
  rintro e w4 ⟨rfl, hb⟩
  have B4 := Lib.hid (B3.out.up hb)
  have C4 := Lib.hid (C3.out.below hb)
  have X4 := X3.up hb
  clear hb B3 C3 X3
  obtain ⟨xf0, xf1, xf2, xf3, xf4, xf5, xf6⟩ := id X4
  go_wp2_with fail
  clear xf0 xf1 xf2 xf3 xf4 xf5 xf6
  refine (exists_no s a o _ HQ.out).mono ?_
  rintro e w5 ⟨rfl, hb⟩
  have B5 := Lib.hid (B4.out.up hb)
  have C5 := Lib.hid (C4.out.below hb)
  have X5 := X4.up hb
  clear hb B4 C4 X4
  obtain ⟨xf0, xf1, xf2, xf3, xf4, xf5, xf6⟩ := id X5
  go_wp2_with fail
  go_ret
  exact ⟨rfl, B5.out.out⟩
set_option maxRecDepth 100000 in
set_option maxHeartbeats 2000000 in
theorem posLaw3 (c s a o : Int) (w : World) (h : Cl c) (hp : Pit s a o) (hc : CW w) :
    Calls Tryd.prog 3 #[.int .i64 c, .agg #[.int .i64 s, .int .i64 a, .int .i64 o]] w fun e w' => e = .returned (.bool true) ∧ Below w.heap.size w w' := by
  have HP := Lib.hid h
  have HQ := Lib.hid hp
  have B0 := Lib.hid ((Bel.refl w).alloc (.cells #[.int .i64 s, .int .i64 a, .int .i64 o] 23))
  have C0 := Lib.hid (hc.below ((Below.refl _ _).alloc (Nat.le_refl _) (.cells #[.int .i64 s, .int .i64 a, .int .i64 o] 23)))
  have X0 := Tri.new w (.int .i64 s) (.int .i64 a) (.int .i64 o) 23 (w.heap.size) (by simp)
  go_enter Tryd.func3, Tryd.ntmps3
  obtain ⟨xf0, xf1, xf2, xf3, xf4, xf5, xf6⟩ := id X0
  go_wp2_with fail
  clear xf0 xf1 xf2 xf3 xf4 xf5 xf6
  refine (known_ok _ C0.out).mono ?_
  rintro e w1 ⟨rfl, hb⟩
  have B1 := Lib.hid (B0.out.up hb)
  have C1 := Lib.hid (C0.out.below hb)
  have X1 := X0.up hb
  clear hb B0 C0 X0
  obtain ⟨xf0, xf1, xf2, xf3, xf4, xf5, xf6⟩ := id X1
  go_wp2_with fail
  clear xf0 xf1 xf2 xf3 xf4 xf5 xf6
  refine (pos_ok c s a o _ HP.out HQ.out C1.out).mono ?_
  rintro e w2 ⟨rfl, hb⟩
  have B2 := Lib.hid (B1.out.up hb)
  have C2 := Lib.hid (C1.out.below hb)
  have X2 := X1.up hb
  clear hb B1 C1 X1
  obtain ⟨xf0, xf1, xf2, xf3, xf4, xf5, xf6⟩ := id X2
  go_wp2_with fail
  clear xf0 xf1 xf2 xf3 xf4 xf5 xf6
  refine (kind_ok c _ HP.out).mono ?_
  rintro e w3 ⟨rfl, hb⟩
  have B3 := Lib.hid (B2.out.up hb)
  have C3 := Lib.hid (C2.out.below hb)
  have X3 := X2.up hb
  clear hb B2 C2 X2
  obtain ⟨xf0, xf1, xf2, xf3, xf4, xf5, xf6⟩ := id X3
  go_wp2_with fail
  clear xf0 xf1 xf2 xf3 xf4 xf5 xf6
  refine (checkC_ok c _ HP.out).mono ?_
  rintro e w4 ⟨rfl, hb⟩
  have B4 := Lib.hid (B3.out.up hb)
  have C4 := Lib.hid (C3.out.below hb)
  have X4 := X3.up hb
  clear hb B3 C3 X3
  obtain ⟨xf0, xf1, xf2, xf3, xf4, xf5, xf6⟩ := id X4
  go_wp2_with fail
  clear xf0 xf1 xf2 xf3 xf4 xf5 xf6
  refine (exists_yes s a o _ HQ.out).mono ?_
  rintro e w5 ⟨rfl, hb⟩
  have B5 := Lib.hid (B4.out.up hb)
  have C5 := Lib.hid (C4.out.below hb)
  have X5 := X4.up hb
  clear hb B4 C4 X4
  obtain ⟨xf0, xf1, xf2, xf3, xf4, xf5, xf6⟩ := id X5
  go_wp2_with fail
  clear xf0 xf1 xf2 xf3 xf4 xf5 xf6
  refine (rpos_ok c s a o _ HP.out HQ.out.s0 HQ.out.s1 HQ.out.o0 HQ.out.o1).mono ?_
  rintro e w6 ⟨rfl, hb⟩
  have B6 := Lib.hid (B5.out.up hb)
  have C6 := Lib.hid (C5.out.below hb)
  have X6 := X5.up hb
  clear hb B5 C5 X5
  obtain ⟨xf0, xf1, xf2, xf3, xf4, xf5, xf6⟩ := id X6
  go_wp2_with fail
  go_ret
  exact ⟨rfl, B6.out.out⟩
theorem law_ClefPositions (c s a o : Int) (w : World) (hc : CW w) : Calls Tryd.prog 3 #[.int .i64 c, .agg #[.int .i64 s, .int .i64 a, .int .i64 o]] w fun e w' => e = .returned (.bool true) ∧ Below w.heap.size w w' := by
  by_cases h : Cl c
  · by_cases hp : Pit s a o
    · exact posLaw3 c s a o w h hp hc
    · exact posLaw2 c s a o w h hp hc
  · exact posLaw1 c s a o w h hc
end Go.Proofs.YtmdnlnjapkcanaaDoor
