/- The walk of the chapter's examples. -/
import Derived.Test.YtknojlccfjdpeaaDoorRk
import Derived.Test.YtknojlccfjdpeaaDoorRh
namespace Go.Proofs.YtknojlccfjdpeaaDoor
open Go.RowKit Go.Sort
set_option linter.unusedVariables false
set_option linter.unusedSimpArgs false

set_option maxHeartbeats 400000 in
/-- a text in which split finds an error -/
theorem parse_err (s : ByteArray) (A X : Int) (w : World) (hx : (X == 0) = false)
    (h : ∀ w : World, Calls Tryd.prog 17 #[.string s] w fun e w' => e = .returned (.tuple #[.int .i64 0, .int .i64 0, .int .i64 A, .int .i64 X]) ∧ Below w.heap.size w w') :
    Calls Tryd.prog 7 #[.string s] w fun e w' => e = .returned (.tuple #[.agg #[.int .i64 0, .int .i64 0], .int .i64 A, .int .i64 X]) ∧ Below w.heap.size w w' := by
  have H := Lib.hid h
  clear h
  go_enter Tryd.func7, Tryd.ntmps7
  go_wp2_with fail
  refine (H.out _).mono ?_
  rintro e w1 ⟨rfl, hb⟩
  have B1 := Lib.hid (((Bel.refl w).alloc _).up hb)
  have R1 := (Two.new _ (.int .i64 0) (.int .i64 0) 24 w.heap.size rfl).up hb
  clear hb
  obtain ⟨y1, y2, y3, y4, y5⟩ := id R1
  go_wp2
  exact bodyPost_ret (v := .tuple #[.agg #[.int .i64 0, .int .i64 0], .int .i64 A, .int .i64 X]) (by simp [results, Tryd.results7, go_sem, y2, y3]) rfl ⟨rfl, by repeat (first | exact B1.out.out | refine Below.setCell ?_ (by simp) _)⟩

theorem split_known (w : World) : Calls Tryd.prog 17 #[.string ⟨#[49, 47]⟩] w fun e w' => e = .returned (.tuple #[.int .i64 0, .int .i64 0, .int .i64 2, .int .i64 4]) ∧ Below w.heap.size w w' :=
  split_err2 ⟨#[49, 47]⟩ false 0 w (by decide) (by decide) (.inr ⟨rfl, rfl⟩) (by decide) 1 0 2 4 1 ⟨by decide, by decide⟩ (by unfold Hid; rfl) (by decide) (by decide) (by unfold Hid; rfl) (by decide)
theorem parse_known (w : World) : Calls Tryd.prog 7 #[.string ⟨#[49, 47]⟩] w fun e w' => e = .returned (.tuple #[.agg #[.int .i64 0, .int .i64 0], .int .i64 2, .int .i64 4]) ∧ Below w.heap.size w w' :=
  parse_err _ 2 4 w (by decide) split_known
theorem of_known1 (w : World) : Calls Tryd.prog 15 #[.int .i64 6, .int .i64 (-4)] w fun e w' => e = .returned (.tuple #[.agg #[.int .i64 (-3), .int .i64 1], .int .i64 0]) ∧ Below w.heap.size w w' := by
  have h := of_any 6 (-4) w (by omega) (by omega) (by omega) (by omega)
  rwa [show ofV 6 (-4) = .tuple #[.agg #[.int .i64 (-3), .int .i64 1], .int .i64 0] from by simp [ofV, Rat1.ofQ, Rat1.mx]] at h
theorem of_known2 (w : World) : Calls Tryd.prog 15 #[.int .i64 355, .int .i64 113] w fun e w' => e = .returned (.tuple #[.agg #[.int .i64 355, .int .i64 112], .int .i64 0]) ∧ Below w.heap.size w w' := by
  have h := of_any 355 113 w (by omega) (by omega) (by omega) (by omega)
  rwa [show ofV 355 113 = .tuple #[.agg #[.int .i64 355, .int .i64 112], .int .i64 0] from by simp [ofV, Rat1.ofQ, Rat1.mx]] at h
theorem best_known (w : World) : Calls Tryd.prog 20 #[.agg #[.int .i64 355, .int .i64 112], .int .i64 10] w fun e w' => e = .returned (.tuple #[.agg #[.int .i64 22, .int .i64 6], .int .i64 0]) ∧ Below w.heap.size w w' := by
  refine (best_near 355 112 10 w ⟨by omega, by omega, by omega, by omega, by omega, by simp⟩).mono ?_
  rintro e w' ⟨p, q, ⟨h1, h2, h3, h4, h5, h6, h7⟩, rfl, hb⟩
  have h := (h7 22 7 (by omega) (by omega)).1
  have e : Rat1.gap 355 (112 + 1) (22, 7) = 1 := by simp [Rat1.gap]
  rw [e] at h
  have hq : p = 22 ∧ q = 7 := by
    unfold Rat1.gap at h
    simp only at h
    have hq : q = 1 ∨ q = 2 ∨ q = 3 ∨ q = 4 ∨ q = 5 ∨ q = 6 ∨ q = 7 ∨ q = 8 ∨ q = 9 ∨ q = 10 := by omega
    rcases hq with rfl | rfl | rfl | rfl | rfl | rfl | rfl | rfl | rfl | rfl <;> split at h <;> omega
  obtain ⟨rfl, rfl⟩ := hq
  exact ⟨rfl, hb⟩
theorem text_known (w : World) (ht : Tab w) : Calls Tryd.prog 8 #[.agg #[.int .i64 (-3), .int .i64 1]] w fun e w' => e = .returned (.string ⟨#[45, 51, 47, 50]⟩) ∧ Below w.heap.size w w' := by
  have h := text_frac (-3) 1 w (by omega) (by omega) (by omega) (by omega) ht
  rwa [show Lib.itoa (-3) ++ 47 :: Lib.itoa (1 + 1) = [45, 51, 47, 50] from by simp [Lib.itoa, Lib.decDigits]] at h
theorem floor_known (w : World) : Calls Tryd.prog 22 #[.agg #[.int .i64 (-3), .int .i64 1]] w fun e w' => e = .returned (.int .i64 (-2)) ∧ Below w.heap.size w w' := Floor_any (-3) 1 w (by omega) (by omega) (by omega) (by omega)
theorem ceil_known (w : World) : Calls Tryd.prog 23 #[.agg #[.int .i64 (-3), .int .i64 1]] w fun e w' => e = .returned (.int .i64 (-1)) ∧ Below w.heap.size w w' := Ceil_any (-3) 1 w (by omega) (by omega) (by omega) (by omega)
theorem round_known (w : World) : Calls Tryd.prog 24 #[.agg #[.int .i64 (-3), .int .i64 1]] w fun e w' => e = .returned (.int .i64 (-1)) ∧ Below w.heap.size w w' := Round_any (-3) 1 w (by omega) (by omega) (by omega) (by omega)
theorem den_known1 (w : World) : Calls Tryd.prog 19 #[.agg #[.int .i64 (-3), .int .i64 1]] w fun e w' => e = .returned (.int .i64 2) ∧ Below w.heap.size w w' := den_any (-3) 1 w (by omega) (by omega)
theorem den_known2 (w : World) : Calls Tryd.prog 19 #[.agg #[.int .i64 22, .int .i64 6]] w fun e w' => e = .returned (.int .i64 7) ∧ Below w.heap.size w w' := den_any 22 6 w (by omega) (by omega)

set_option maxRecDepth 100000 in
set_option maxHeartbeats 2000000 in
theorem known_any (w : World) (ht : Tab w) :
    Calls Tryd.prog 9 #[] w fun e w' => e = .returned (.bool true) ∧ Below w.heap.size w w' := by
  have HT := Lib.hid ht
  clear ht
  go_enter Tryd.func9, Tryd.ntmps9
  go_wp2_with fail
  refine (of_known1 _).mono ?_
  rintro e w1 ⟨rfl, hb⟩
  have B1 := Lib.hid ((Bel.refl w).up hb)
  clear hb
  go_wp2_with fail
  refine (of_known2 _).mono ?_
  rintro e w2 ⟨rfl, hb⟩
  have B2 := Lib.hid (((B1.out).alloc _).up hb)
  have Tx2 := (Two.new _ _ _ _ (w1.heap.size) (by simp)).up hb
  clear hb
  obtain ⟨x02, x12, x22, x32, x42⟩ := id Tx2
  go_wp2_with fail
  refine (best_known _).mono ?_
  rintro e w3 ⟨rfl, hb⟩
  have B3 := Lib.hid (((B2.out).alloc _).up hb)
  have Tx3 := ((Tx2).alloc _).up hb
  have Ty3 := (Two.new _ _ _ _ (w2.heap.size) (by simp)).up hb
  clear hb Tx2 x02 x12 x22 x32 x42
  obtain ⟨x03, x13, x23, x33, x43⟩ := id Tx3
  obtain ⟨y03, y13, y23, y33, y43⟩ := id Ty3
  go_wp2_with fail
  refine (parse_known _).mono ?_
  rintro e w4 ⟨rfl, hb⟩
  have B4 := Lib.hid (((B3.out).alloc _).up hb)
  have Tx4 := ((Tx3).alloc _).up hb
  have Tb4 := (Two.new _ _ _ _ (w3.heap.size) (by simp)).up hb
  clear hb Tx3 Ty3 x03 x13 x23 x33 x43 y03 y13 y23 y33 y43
  obtain ⟨x04, x14, x24, x34, x44⟩ := id Tx4
  obtain ⟨b04, b14, b24, b34, b44⟩ := id Tb4
  go_wp2_with fail
  refine (num_any _ _ _).mono ?_
  rintro e w5 ⟨rfl, hb⟩
  have B5 := Lib.hid (((B4.out).alloc _).up hb)
  have Tx5 := ((Tx4).alloc _).up hb
  have Tb5 := ((Tb4).alloc _).up hb
  have Tz5 := (Two.new _ _ _ _ (w4.heap.size) (by simp)).up hb
  clear hb Tx4 Tb4 x04 x14 x24 x34 x44 b04 b14 b24 b34 b44
  obtain ⟨x05, x15, x25, x35, x45⟩ := id Tx5
  obtain ⟨b05, b15, b25, b35, b45⟩ := id Tb5
  obtain ⟨z05, z15, z25, z35, z45⟩ := id Tz5
  go_wp2_with fail
  refine (den_known1 _).mono ?_
  rintro e w6 ⟨rfl, hb⟩
  have B6 := Lib.hid ((B5.out).up hb)
  have Tx6 := (Tx5).up hb
  have Tb6 := (Tb5).up hb
  have Tz6 := (Tz5).up hb
  clear hb Tx5 Tb5 Tz5 x05 x15 x25 x35 x45 b05 b15 b25 b35 b45 z05 z15 z25 z35 z45
  obtain ⟨x06, x16, x26, x36, x46⟩ := id Tx6
  obtain ⟨b06, b16, b26, b36, b46⟩ := id Tb6
  obtain ⟨z06, z16, z26, z36, z46⟩ := id Tz6
  go_wp2_with fail
  refine (text_known _ (HT.out.below B6.out.out)).mono ?_
  rintro e w7 ⟨rfl, hb⟩
  have B7 := Lib.hid ((B6.out).up hb)
  have Tx7 := (Tx6).up hb
  have Tb7 := (Tb6).up hb
  have Tz7 := (Tz6).up hb
  clear hb Tx6 Tb6 Tz6 x06 x16 x26 x36 x46 b06 b16 b26 b36 b46 z06 z16 z26 z36 z46
  obtain ⟨x07, x17, x27, x37, x47⟩ := id Tx7
  obtain ⟨b07, b17, b27, b37, b47⟩ := id Tb7
  obtain ⟨z07, z17, z27, z37, z47⟩ := id Tz7
  go_wp2_with fail
  refine (floor_known _).mono ?_
  rintro e w8 ⟨rfl, hb⟩
  have B8 := Lib.hid ((B7.out).up hb)
  have Tx8 := (Tx7).up hb
  have Tb8 := (Tb7).up hb
  have Tz8 := (Tz7).up hb
  clear hb Tx7 Tb7 Tz7 x07 x17 x27 x37 x47 b07 b17 b27 b37 b47 z07 z17 z27 z37 z47
  obtain ⟨x08, x18, x28, x38, x48⟩ := id Tx8
  obtain ⟨b08, b18, b28, b38, b48⟩ := id Tb8
  obtain ⟨z08, z18, z28, z38, z48⟩ := id Tz8
  go_wp2_with fail
  refine (ceil_known _).mono ?_
  rintro e w9 ⟨rfl, hb⟩
  have B9 := Lib.hid ((B8.out).up hb)
  have Tx9 := (Tx8).up hb
  have Tb9 := (Tb8).up hb
  have Tz9 := (Tz8).up hb
  clear hb Tx8 Tb8 Tz8 x08 x18 x28 x38 x48 b08 b18 b28 b38 b48 z08 z18 z28 z38 z48
  obtain ⟨x09, x19, x29, x39, x49⟩ := id Tx9
  obtain ⟨b09, b19, b29, b39, b49⟩ := id Tb9
  obtain ⟨z09, z19, z29, z39, z49⟩ := id Tz9
  go_wp2_with fail
  refine (round_known _).mono ?_
  rintro e w10 ⟨rfl, hb⟩
  have B10 := Lib.hid ((B9.out).up hb)
  have Tx10 := (Tx9).up hb
  have Tb10 := (Tb9).up hb
  have Tz10 := (Tz9).up hb
  clear hb Tx9 Tb9 Tz9 x09 x19 x29 x39 x49 b09 b19 b29 b39 b49 z09 z19 z29 z39 z49
  obtain ⟨x010, x110, x210, x310, x410⟩ := id Tx10
  obtain ⟨b010, b110, b210, b310, b410⟩ := id Tb10
  obtain ⟨z010, z110, z210, z310, z410⟩ := id Tz10
  go_wp2_with fail
  refine (num_any _ _ _).mono ?_
  rintro e w11 ⟨rfl, hb⟩
  have B11 := Lib.hid ((B10.out).up hb)
  have Tx11 := (Tx10).up hb
  have Tb11 := (Tb10).up hb
  have Tz11 := (Tz10).up hb
  clear hb Tx10 Tb10 Tz10 x010 x110 x210 x310 x410 b010 b110 b210 b310 b410 z010 z110 z210 z310 z410
  obtain ⟨x011, x111, x211, x311, x411⟩ := id Tx11
  obtain ⟨b011, b111, b211, b311, b411⟩ := id Tb11
  obtain ⟨z011, z111, z211, z311, z411⟩ := id Tz11
  go_wp2_with fail
  refine (den_known2 _).mono ?_
  rintro e w12 ⟨rfl, hb⟩
  have B12 := Lib.hid ((B11.out).up hb)
  have Tx12 := (Tx11).up hb
  have Tb12 := (Tb11).up hb
  have Tz12 := (Tz11).up hb
  clear hb Tx11 Tb11 Tz11 x011 x111 x211 x311 x411 b011 b111 b211 b311 b411 z011 z111 z211 z311 z411
  obtain ⟨x012, x112, x212, x312, x412⟩ := id Tx12
  obtain ⟨b012, b112, b212, b312, b412⟩ := id Tb12
  obtain ⟨z012, z112, z212, z312, z412⟩ := id Tz12
  go_wp2
  go_ret
  exact ⟨rfl, B12.out.out⟩
end Go.Proofs.YtknojlccfjdpeaaDoor
