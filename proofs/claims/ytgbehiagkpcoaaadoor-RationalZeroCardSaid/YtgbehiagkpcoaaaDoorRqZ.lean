/- The walk of the law on the zero value. -/
import Derived.Test.YtgbehiagkpcoaaaDoorRp
namespace Go.Proofs.YtgbehiagkpcoaaaDoor
open Go.RowKit
set_option linter.unusedVariables false
set_option linter.unusedSimpArgs false


theorem of_zeroN (d : Int) (w : World) (d0 : 1 ≤ d) (d1 : d ≤ 9223372036854775807) :
    Calls Tryd.prog 15 #[.int .i64 0, .int .i64 d] w fun e w' => e = .returned (.tuple #[.agg #[.int .i64 0, .int .i64 0], .int .i64 0]) ∧ Below w.heap.size w w' := by
  have h := of_any 0 d w (by omega) (by omega) (by omega) (by omega)
  have e : Rat1.ofQ 0 d = (0, 1, 0) := Rat1.ofQ_eq ⟨by omega, by simp [Rat1.mx], by simp, by simp⟩ (by omega) (by omega)
  rwa [show ofV 0 d = .tuple #[.agg #[.int .i64 0, .int .i64 0], .int .i64 0] from by simp [ofV, e]] at h
theorem int_zero (w : World) :
    Calls Tryd.prog 17 #[.int .i64 0] w fun e w' => e = .returned (.tuple #[.agg #[.int .i64 0, .int .i64 0], .int .i64 0]) ∧ Below w.heap.size w w' := by
  have h := int_any 0 w (by omega) (by omega)
  have e : Rat1.ofQ 0 1 = (0, 1, 0) := by simp [Rat1.ofQ, Rat1.mx]
  rwa [show Rat1.ofN 0 1 = 0 from by simp [Rat1.ofN, e], show Rat1.ofD 0 1 - 1 = 0 from by simp [Rat1.ofD, e], show Rat1.ofE 0 1 = 0 from by simp [Rat1.ofE, e]] at h
theorem den_zero (w : World) : Calls Tryd.prog 45 #[.agg #[.int .i64 0, .int .i64 0]] w fun e w' => e = .returned (.int .i64 1) ∧ Below w.heap.size w w' := den_any 0 0 w (by omega) (by omega)
theorem sign_zero (w : World) : Calls Tryd.prog 30 #[.agg #[.int .i64 0, .int .i64 0]] w fun e w' => e = .returned (.int .i64 0) ∧ Below w.heap.size w w' := sign_any 0 0 w (by omega) (by omega) (by omega) (by omega)
theorem text_zero (w : World) (ht : Tab w) : Calls Tryd.prog 40 #[.agg #[.int .i64 0, .int .i64 0]] w fun e w' => e = .returned (.string ⟨#[48]⟩) ∧ Below w.heap.size w w' := by
  have h := text_int 0 w (by omega) (by omega) ht
  rwa [show Lib.itoa 0 = [48] from by simp [Lib.itoa, Lib.decDigits]] at h

set_option maxRecDepth 100000 in
set_option maxHeartbeats 2000000 in
theorem law_RationalZero_in (n d : Int) (hd : max n 1 = d) (d0 : 1 ≤ d) (d1 : d ≤ 9223372036854775807) (w : World) (ht : Tab w) :
    Calls Tryd.prog 13 #[.int .i64 n] w fun e w' => e = .returned (.bool true) ∧ Below w.heap.size w w' := by
  have HT := Lib.hid ht
  clear ht
  go_enter Tryd.func13, Tryd.ntmps13
  go_wp2_with fail
  refine (of_zeroN d _ d0 d1).mono ?_
  rintro e w1 ⟨rfl, hb⟩
  have B1 := Lib.hid (((Bel.refl w).alloc _).up hb)
  have Tx1 := (Two.new _ _ _ _ (w.heap.size) (by simp)).up hb
  clear hb
  obtain ⟨x01, x11, x21, x31, x41⟩ := id Tx1
  go_wp2_with fail
  refine (int_zero _).mono ?_
  rintro e w2 ⟨rfl, hb⟩
  have B2 := Lib.hid (((B1.out).alloc _).up hb)
  have Tx2 := ((Tx1).alloc _).up hb
  have Ty2 := (Two.new _ _ _ _ (w1.heap.size) (by simp)).up hb
  clear hb Tx1 x01 x11 x21 x31 x41
  obtain ⟨x02, x12, x22, x32, x42⟩ := id Tx2
  obtain ⟨y02, y12, y22, y32, y42⟩ := id Ty2
  go_wp2_with fail
  refine (known_any _ (HT.out.below (B2.out.alloc _).out)).mono ?_
  rintro e w3 ⟨rfl, hb⟩
  have B3 := Lib.hid (((B2.out).alloc _).up hb)
  have Tx3 := ((Tx2).alloc _).up hb
  have Ty3 := ((Ty2).alloc _).up hb
  have Tz3 := (Two.new _ _ _ _ (w2.heap.size) (by simp)).up hb
  clear hb Tx2 Ty2 x02 x12 x22 x32 x42 y02 y12 y22 y32 y42
  obtain ⟨x03, x13, x23, x33, x43⟩ := id Tx3
  obtain ⟨y03, y13, y23, y33, y43⟩ := id Ty3
  obtain ⟨z03, z13, z23, z33, z43⟩ := id Tz3
  go_wp2_with fail
  refine (num_any _ _ _).mono ?_
  rintro e w4 ⟨rfl, hb⟩
  have B4 := Lib.hid ((B3.out).up hb)
  have Tx4 := (Tx3).up hb
  have Ty4 := (Ty3).up hb
  have Tz4 := (Tz3).up hb
  clear hb Tx3 Ty3 Tz3 x03 x13 x23 x33 x43 y03 y13 y23 y33 y43 z03 z13 z23 z33 z43
  obtain ⟨x04, x14, x24, x34, x44⟩ := id Tx4
  obtain ⟨y04, y14, y24, y34, y44⟩ := id Ty4
  obtain ⟨z04, z14, z24, z34, z44⟩ := id Tz4
  go_wp2_with fail
  refine (den_zero _).mono ?_
  rintro e w5 ⟨rfl, hb⟩
  have B5 := Lib.hid ((B4.out).up hb)
  have Tx5 := (Tx4).up hb
  have Ty5 := (Ty4).up hb
  have Tz5 := (Tz4).up hb
  clear hb Tx4 Ty4 Tz4 x04 x14 x24 x34 x44 y04 y14 y24 y34 y44 z04 z14 z24 z34 z44
  obtain ⟨x05, x15, x25, x35, x45⟩ := id Tx5
  obtain ⟨y05, y15, y25, y35, y45⟩ := id Ty5
  obtain ⟨z05, z15, z25, z35, z45⟩ := id Tz5
  go_wp2_with fail
  refine (text_zero _ (HT.out.below B5.out.out)).mono ?_
  rintro e w6 ⟨rfl, hb⟩
  have B6 := Lib.hid ((B5.out).up hb)
  have Tx6 := (Tx5).up hb
  have Ty6 := (Ty5).up hb
  have Tz6 := (Tz5).up hb
  clear hb Tx5 Ty5 Tz5 x05 x15 x25 x35 x45 y05 y15 y25 y35 y45 z05 z15 z25 z35 z45
  obtain ⟨x06, x16, x26, x36, x46⟩ := id Tx6
  obtain ⟨y06, y16, y26, y36, y46⟩ := id Ty6
  obtain ⟨z06, z16, z26, z36, z46⟩ := id Tz6
  go_wp2_with fail
  refine (sign_zero _).mono ?_
  rintro e w7 ⟨rfl, hb⟩
  have B7 := Lib.hid ((B6.out).up hb)
  have Tx7 := (Tx6).up hb
  have Ty7 := (Ty6).up hb
  have Tz7 := (Tz6).up hb
  clear hb Tx6 Ty6 Tz6 x06 x16 x26 x36 x46 y06 y16 y26 y36 y46 z06 z16 z26 z36 z46
  obtain ⟨x07, x17, x27, x37, x47⟩ := id Tx7
  obtain ⟨y07, y17, y27, y37, y47⟩ := id Ty7
  obtain ⟨z07, z17, z27, z37, z47⟩ := id Tz7
  go_wp2
  go_ret
  exact ⟨rfl, B7.out.out⟩
theorem law_zero (n : Int) (w : World) (h1 : n ≤ 9223372036854775807) (ht : Tab w) :
    Calls Tryd.prog 13 #[.int .i64 n] w fun e w' => e = .returned (.bool true) ∧ Below w.heap.size w w' :=
  law_RationalZero_in n _ rfl (by omega) (by omega) w ht
end Go.Proofs.YtgbehiagkpcoaaaDoor
