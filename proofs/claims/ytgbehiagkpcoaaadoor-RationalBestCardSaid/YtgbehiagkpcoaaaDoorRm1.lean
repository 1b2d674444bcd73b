/- The walks of the laws: Of. -/
import Derived.Test.YtgbehiagkpcoaaaDoorRl
namespace Go.Proofs.YtgbehiagkpcoaaaDoor
open Go.RowKit
set_option linter.unusedVariables false
set_option linter.unusedSimpArgs false

theorem Rat1.of_cases (n d : Int) : (Rat1.ofE n d = 0 ∧ Rat1.Low (Rat1.ofN n d) (Rat1.ofD n d)) ∨ (Rat1.ofE n d ≠ 0 ∧ Rat1.ofN n d = 0 ∧ Rat1.ofD n d = 1) := by
  by_cases h : Rat1.ofE n d = 0
  · refine .inl ⟨h, (Rat1.ofQ_low (n := n) (d := d) ?_).1⟩
    unfold Rat1.ofE at h
    rw [show Rat1.ofN n d = (Rat1.ofQ n d).1 from rfl, show Rat1.ofD n d = (Rat1.ofQ n d).2.1 from rfl, ← h]
  · refine .inr ⟨h, ?_⟩
    unfold Rat1.ofE Rat1.ofQ at h
    unfold Rat1.ofN Rat1.ofD Rat1.ofQ
    split
    · simp
    · split
      · simp
      · rename_i h1 h2
        rw [if_neg h1, if_neg h2] at h
        simp at h
set_option maxHeartbeats 400000 in
theorem same_pair (n d : Int) (w : World)  :
    Calls Tryd.prog 19 #[.agg #[.int .i64 (Rat1.ofN n d), .int .i64 (Rat1.ofD n d - 1)], .int .i64 (Rat1.ofE n d), .agg #[.int .i64 (Rat1.ofN n d), .int .i64 (Rat1.ofD n d)], .int .i64 (Rat1.ofE n d)] w fun e w' => e = .returned (.bool true) ∧ Below w.heap.size w w' := by
  rcases Rat1.of_cases n d with ⟨h1, h2⟩ | ⟨h1, h2, h3⟩
  · have p := h2.pos
    have l := h2.le
    unfold Rat1.mx at l
    have h := same_ok (Rat1.ofN n d) (Rat1.ofD n d - 1) w (by omega) (by omega)
    rw [Int.sub_add_cancel] at h
    rw [h1]
    exact h
  · rw [h2, h3]
    exact same_err (Rat1.ofE n d) (Rat1.ofE n d) 0 1 w (by simpa using h1) rfl

set_option maxHeartbeats 1000000 in
theorem law_of (n d : Int) (w : World) (n0 : -9223372036854775808 ≤ n) (n1 : n ≤ 9223372036854775807) (d0 : -9223372036854775808 ≤ d) (d1 : d ≤ 9223372036854775807) (ht : Tab w) :
    Calls Tryd.prog 3 #[.int .i64 n, .int .i64 d] w fun e w' => e = .returned (.bool true) ∧ Below w.heap.size w w' := by
  have HT := Lib.hid ht
  clear ht
  go_enter Tryd.func3, Tryd.ntmps3
  go_wp2_with fail
  refine (of_call n d _ n0 n1 d0 d1).mono ?_
  rintro e w1 ⟨rfl, hb⟩
  have B1 := Lib.hid ((Bel.refl w).up hb)
  clear hb
  go_wp2_with fail
  refine (ofRef_call n d _ n0 n1 d0 d1).mono ?_
  rintro e w2 ⟨rfl, hb⟩
  have B2 := Lib.hid (((B1.out).alloc _).up hb)
  have Tx2 := (Two.new _ _ _ _ (w1.heap.size) (by simp)).up hb
  clear hb
  obtain ⟨x02, x12, x22, x32, x42⟩ := id Tx2
  go_wp2_with fail
  refine (int_any n _ n0 n1).mono ?_
  rintro e w3 ⟨rfl, hb⟩
  have B3 := Lib.hid (((B2.out).alloc _).up hb)
  have Tx3 := ((Tx2).alloc _).up hb
  have Tq3 := (Two.new _ _ _ _ (w2.heap.size) (by simp)).up hb
  clear hb Tx2 x02 x12 x22 x32 x42
  obtain ⟨x03, x13, x23, x33, x43⟩ := id Tx3
  obtain ⟨q03, q13, q23, q33, q43⟩ := id Tq3
  go_wp2_with fail
  refine (ofRef_call n 1 _ n0 n1 (by omega) (by omega)).mono ?_
  rintro e w4 ⟨rfl, hb⟩
  have B4 := Lib.hid (((B3.out).alloc _).up hb)
  have Tx4 := ((Tx3).alloc _).up hb
  have Tq4 := ((Tq3).alloc _).up hb
  have Ty4 := (Two.new _ _ _ _ (w3.heap.size) (by simp)).up hb
  clear hb Tx3 Tq3 x03 x13 x23 x33 x43 q03 q13 q23 q33 q43
  obtain ⟨x04, x14, x24, x34, x44⟩ := id Tx4
  obtain ⟨q04, q14, q24, q34, q44⟩ := id Tq4
  obtain ⟨y04, y14, y24, y34, y44⟩ := id Ty4
  go_wp2_with fail
  refine (known_any _ (HT.out.below (B4.out.alloc _).out)).mono ?_
  rintro e w5 ⟨rfl, hb⟩
  have B5 := Lib.hid (((B4.out).alloc _).up hb)
  have Tx5 := ((Tx4).alloc _).up hb
  have Tq5 := ((Tq4).alloc _).up hb
  have Ty5 := ((Ty4).alloc _).up hb
  have Tp5 := (Two.new _ _ _ _ (w4.heap.size) (by simp)).up hb
  clear hb Tx4 Tq4 Ty4 x04 x14 x24 x34 x44 q04 q14 q24 q34 q44 y04 y14 y24 y34 y44
  obtain ⟨x05, x15, x25, x35, x45⟩ := id Tx5
  obtain ⟨q05, q15, q25, q35, q45⟩ := id Tq5
  obtain ⟨y05, y15, y25, y35, y45⟩ := id Ty5
  obtain ⟨p05, p15, p25, p35, p45⟩ := id Tp5
  go_wp2_with fail
  refine (same_pair n d _).mono ?_
  rintro e w6 ⟨rfl, hb⟩
  have B6 := Lib.hid ((B5.out).up hb)
  have Tx6 := (Tx5).up hb
  have Tq6 := (Tq5).up hb
  have Ty6 := (Ty5).up hb
  have Tp6 := (Tp5).up hb
  clear hb Tx5 Tq5 Ty5 Tp5 x05 x15 x25 x35 x45 q05 q15 q25 q35 q45 y05 y15 y25 y35 y45 p05 p15 p25 p35 p45
  obtain ⟨x06, x16, x26, x36, x46⟩ := id Tx6
  obtain ⟨q06, q16, q26, q36, q46⟩ := id Tq6
  obtain ⟨y06, y16, y26, y36, y46⟩ := id Ty6
  obtain ⟨p06, p16, p26, p36, p46⟩ := id Tp6
  go_wp2_with fail
  refine (same_pair n 1 _).mono ?_
  rintro e w7 ⟨rfl, hb⟩
  have B7 := Lib.hid ((B6.out).up hb)
  have Tx7 := (Tx6).up hb
  have Tq7 := (Tq6).up hb
  have Ty7 := (Ty6).up hb
  have Tp7 := (Tp6).up hb
  clear hb Tx6 Tq6 Ty6 Tp6 x06 x16 x26 x36 x46 q06 q16 q26 q36 q46 y06 y16 y26 y36 y46 p06 p16 p26 p36 p46
  obtain ⟨x07, x17, x27, x37, x47⟩ := id Tx7
  obtain ⟨q07, q17, q27, q37, q47⟩ := id Tq7
  obtain ⟨y07, y17, y27, y37, y47⟩ := id Ty7
  obtain ⟨p07, p17, p27, p37, p47⟩ := id Tp7
  go_wp2
  go_ret
  exact ⟨rfl, B7.out.out⟩
end Go.Proofs.YtgbehiagkpcoaaaDoor
