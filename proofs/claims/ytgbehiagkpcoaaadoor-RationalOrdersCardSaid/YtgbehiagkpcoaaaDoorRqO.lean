/- The walk of the law on the order. -/
import Derived.Test.YtgbehiagkpcoaaaDoorRqB
namespace Go.Proofs.YtgbehiagkpcoaaaDoor
open Go.RowKit
set_option linter.unusedVariables false
set_option linter.unusedSimpArgs false

theorem low_one : Rat1.Low 0 1 := ⟨by omega, by simp [Rat1.mx], by simp, by simp⟩
theorem cmpI_le {x y : Int} : cmpI x y ≤ 0 ↔ x ≤ y := by
  unfold cmpI; split <;> (try split) <;> omega
theorem cmpI_eq {x y : Int} : cmpI x y = 0 ↔ x = y := by
  unfold cmpI; split <;> (try split) <;> omega
theorem same_iff {a D c E : Int} (h1 : Rat1.Low a D) (h2 : Rat1.Low c E) : (a = c ∧ D - 1 = E - 1) ↔ cmpI (a * E) (c * D) = 0 := by
  rw [cmpI_eq]
  constructor
  · rintro ⟨rfl, h⟩
    have : D = E := by omega
    rw [this]
  · intro h
    have := Rat1.low_eq (a := a) (b := D) (c := c) (d := E) h1.cop h2.cop h1.pos h2.pos h
    omega
theorem le_tr {a D c E u V : Int} (h1 : Rat1.Low a D) (h2 : Rat1.Low c E) (h3 : Rat1.Low u V) (l1 : cmpI (a * E) (c * D) ≤ 0) (l2 : cmpI (c * V) (u * E) ≤ 0) : cmpI (a * V) (u * D) ≤ 0 := by
  rw [cmpI_le] at *
  exact Rat1.le_trans_gap h1.pos h2.pos h3.pos l1 l2
theorem cmpI_scale {x y k : Int} (hk : 0 < k) : cmpI (x * k) (y * k) = cmpI x y := by
  unfold cmpI
  have h1 : x * k < y * k ↔ x < y := ⟨fun h => Int.lt_of_mul_lt_mul_right h (by omega), fun h => Int.mul_lt_mul_of_pos_right h hk⟩
  have h2 : y * k < x * k ↔ y < x := ⟨fun h => Int.lt_of_mul_lt_mul_right h (by omega), fun h => Int.mul_lt_mul_of_pos_right h hk⟩
  simp only [h1, h2]
theorem cmpI_sub {x y u v : Int} (h : x - y = u - v) : cmpI x y = cmpI u v := by
  unfold cmpI
  have h1 : x < y ↔ u < v := by omega
  have h2 : y < x ↔ v < u := by omega
  simp only [h1, h2]
theorem add_order {a D c E u V : Int} (h1 : Rat1.Low a D) (h2 : Rat1.Low c E) (h3 : Rat1.Low u V) (e1 : Rat1.ofE (a * V + u * D) (D * V) = 0) (e2 : Rat1.ofE (c * V + u * E) (E * V) = 0) :
    cmpI (Rat1.ofN (a * V + u * D) (D * V) * Rat1.ofD (c * V + u * E) (E * V)) (Rat1.ofN (c * V + u * E) (E * V) * Rat1.ofD (a * V + u * D) (D * V)) = cmpI (a * E) (c * D) := by
  obtain ⟨hl, _, hq⟩ := Rat1.ofQ_low (ofQ_of e1)
  obtain ⟨hl2, _, hq2⟩ := Rat1.ofQ_low (ofQ_of e2)
  generalize Rat1.ofN (a * V + u * D) (D * V) = S at *
  generalize Rat1.ofD (a * V + u * D) (D * V) = T at *
  generalize Rat1.ofN (c * V + u * E) (E * V) = S' at *
  generalize Rat1.ofD (c * V + u * E) (E * V) = T' at *
  have p1 := h1.pos; have p2 := h2.pos; have p3 := h3.pos; have p4 := hl.pos; have p5 := hl2.pos
  -- scale by D E V on the left, by T T' V on the right
  rw [← cmpI_scale (x := S * T') (y := S' * T) (k := D * E * V) (Int.mul_pos (Int.mul_pos (by omega) (by omega)) (by omega)), ← cmpI_scale (x := a * E) (y := c * D) (k := T * T' * V) (Int.mul_pos (Int.mul_pos (by omega) (by omega)) (by omega))]
  apply cmpI_sub
  have e1 : S * T' * (D * E * V) = (a * V + u * D) * T * (T' * E) := by rw [← hq]; grind
  have e2 : S' * T * (D * E * V) = (c * V + u * E) * T' * (T * D) := by rw [← hq2]; grind
  rw [e1, e2]
  grind

set_option maxRecDepth 100000 in
set_option maxHeartbeats 2000000 in
theorem law_RationalOrders (a0 a1 b0 b1 c0 c1 : Int) (w : World) (ht : Tab w) :
    Calls Tryd.prog 7 #[.agg #[.int .i64 a0, .int .i64 a1], .agg #[.int .i64 b0, .int .i64 b1], .agg #[.int .i64 c0, .int .i64 c1]] w fun e w' => e = .returned (.bool true) ∧ Below w.heap.size w w' := by
  have HT := Lib.hid ht
  clear ht
  go_enter Tryd.func7, Tryd.ntmps7
  go_wp2_with fail
  refine (of_fr a0 a1 _).mono ?_
  rintro e w1 ⟨N1, D1, L1, rfl, hb⟩
  have B1 := Lib.hid (((((Bel.refl w).alloc _).alloc _).alloc _).up hb)
  have Ta1 := (((Two.new _ _ _ _ (w.heap.size) (by simp)).alloc _).alloc _).up hb
  have Tb1 := ((Two.new _ _ _ _ (w.heap.size + 1) (by simp)).alloc _).up hb
  have Tc1 := (Two.new _ _ _ _ (w.heap.size + 1 + 1) (by simp)).up hb
  clear hb
  obtain ⟨a01, a11, a21, a31, a41⟩ := id Ta1
  obtain ⟨b01, b11, b21, b31, b41⟩ := id Tb1
  obtain ⟨c01, c11, c21, c31, c41⟩ := id Tc1
  have p1 := L1.pos
  have l1 := L1.le
  have m1 := L1.num
  unfold Rat1.mx at l1 m1
  go_wp2_with fail
  refine (of_fr b0 b1 _).mono ?_
  rintro e w2 ⟨N2, D2, L2, rfl, hb⟩
  have B2 := Lib.hid ((((B1.out).alloc _).alloc _).up hb)
  have Ta2 := (((Ta1).alloc _).alloc _).up hb
  have Tb2 := (((Tb1).alloc _).alloc _).up hb
  have Tc2 := (((Tc1).alloc _).alloc _).up hb
  have Tx2 := ((Two.new _ _ _ _ (w1.heap.size) (by simp)).alloc _).up hb
  have Tp2 := (Two.new _ _ _ _ (w1.heap.size + 1) (by simp)).up hb
  clear hb Ta1 Tb1 Tc1 a01 a11 a21 a31 a41 b01 b11 b21 b31 b41 c01 c11 c21 c31 c41
  obtain ⟨a02, a12, a22, a32, a42⟩ := id Ta2
  obtain ⟨b02, b12, b22, b32, b42⟩ := id Tb2
  obtain ⟨c02, c12, c22, c32, c42⟩ := id Tc2
  obtain ⟨x02, x12, x22, x32, x42⟩ := id Tx2
  obtain ⟨p02, p12, p22, p32, p42⟩ := id Tp2
  have p2 := L2.pos
  have l2 := L2.le
  have m2 := L2.num
  unfold Rat1.mx at l2 m2
  go_wp2_with fail
  refine (of_fr c0 c1 _).mono ?_
  rintro e w3 ⟨N3, D3, L3, rfl, hb⟩
  have B3 := Lib.hid ((((B2.out).alloc _).alloc _).up hb)
  have Ta3 := (((Ta2).alloc _).alloc _).up hb
  have Tb3 := (((Tb2).alloc _).alloc _).up hb
  have Tc3 := (((Tc2).alloc _).alloc _).up hb
  have Tx3 := (((Tx2).alloc _).alloc _).up hb
  have Tp3 := (((Tp2).alloc _).alloc _).up hb
  have Ty3 := ((Two.new _ _ _ _ (w2.heap.size) (by simp)).alloc _).up hb
  have Tq3 := (Two.new _ _ _ _ (w2.heap.size + 1) (by simp)).up hb
  clear hb Ta2 Tb2 Tc2 Tx2 Tp2 a02 a12 a22 a32 a42 b02 b12 b22 b32 b42 c02 c12 c22 c32 c42 x02 x12 x22 x32 x42 p02 p12 p22 p32 p42
  obtain ⟨a03, a13, a23, a33, a43⟩ := id Ta3
  obtain ⟨b03, b13, b23, b33, b43⟩ := id Tb3
  obtain ⟨c03, c13, c23, c33, c43⟩ := id Tc3
  obtain ⟨x03, x13, x23, x33, x43⟩ := id Tx3
  obtain ⟨p03, p13, p23, p33, p43⟩ := id Tp3
  obtain ⟨y03, y13, y23, y33, y43⟩ := id Ty3
  obtain ⟨q03, q13, q23, q33, q43⟩ := id Tq3
  have p3 := L3.pos
  have l3 := L3.le
  have m3 := L3.num
  unfold Rat1.mx at l3 m3
  have sx := same_iff L1 L2
  have lo1 := low_one
  go_wp2_with fail
  have sy : decide (N1 = N2 ∧ D1 = D2) = (cmpI (N1 * D2) (N2 * D1) == 0) := by
    rw [Bool.eq_iff_iff, decide_eq_true_eq, beq_iff_eq, ← sx]
    omega
  clear sx
  refine Qt.regionAll (by kernel_rfl) (by kernel_rfl) ?_
  intro T4 g4 F4 hne4
  have HB4 := Lib.hid (fun t => (((B3.out).alloc _).alloc _).up (F4.below t))
  have Tx4 := fun t => (((Tx3).alloc _).alloc _).up (F4.below t)
  have Tp4 := fun t => (((Tp3).alloc _).alloc _).up (F4.below t)
  have Ty4 := fun t => (((Ty3).alloc _).alloc _).up (F4.below t)
  have Tq4 := fun t => (((Tq3).alloc _).alloc _).up (F4.below t)
  have Tz4 := fun t => ((Two.new _ _ _ _ (w3.heap.size) (by simp)).alloc _).up (F4.below t)
  have Tr4 := fun t => (Two.new _ _ _ _ (w3.heap.size + 1) (by simp)).up (F4.below t)
  have x14 := fun t => (Tx4 t).c0
  have x24 := fun t => (Tx4 t).c1
  have p14 := fun t => (Tp4 t).c0
  have p24 := fun t => (Tp4 t).c1
  have y14 := fun t => (Ty4 t).c0
  have y24 := fun t => (Ty4 t).c1
  have q14 := fun t => (Tq4 t).c0
  have q24 := fun t => (Tq4 t).c1
  have z14 := fun t => (Tz4 t).c0
  have z24 := fun t => (Tz4 t).c1
  have r14 := fun t => (Tr4 t).c0
  have r24 := fun t => (Tr4 t).c1
  clear a03 a13 a23 a33 a43 b03 b13 b23 b33 b43 c03 c13 c23 c33 c43 x03 x13 x23 x33 x43 p03 p13 p23 p33 p43 y03 y13 y23 y33 y43 q03 q13 q23 q33 q43 Ta3 Tb3 Tc3 Tx3 Tp3 Ty3 Tq3
  repeat (go_big_quiet_step (first | (go_at_call 18; exact F4.call (known_any _ (HT.out.below (HB4.out _).out))) | (go_at_call 31; exact F4.call (cmp_D _ _ _ _ _ (by assumption) (by assumption))) | (go_at_call 30; exact F4.call (sign_D _ _ _ (by assumption))) | (go_at_call 32; exact F4.call (cmpR_D _ _ _ _ _ (by assumption) (by assumption)))))
  go_big_quiet_want
  go_big_quiet_op
  refine ⟨.bool (decide (N1 = N2 ∧ D1 = D2)), fun _ => ?_, ?_⟩
  · by_cases h1 : N1 = N2 <;> by_cases h2 : D1 = D2 <;> simp [h1, h2]
  go_big_quiet_on
  repeat (go_big_quiet_step (first | (go_at_call 18; exact F4.call (known_any _ (HT.out.below (HB4.out _).out))) | (go_at_call 31; exact F4.call (cmp_D _ _ _ _ _ (by assumption) (by assumption))) | (go_at_call 30; exact F4.call (sign_D _ _ _ (by assumption))) | (go_at_call 32; exact F4.call (cmpR_D _ _ _ _ _ (by assumption) (by assumption)))))
  refine wpQuiet_nil ?_
  rintro _ ⟨t4, rfl⟩
  have B4 := Lib.hid (HB4.out t4)
  replace Tx4 := Tx4 t4
  replace Tp4 := Tp4 t4
  replace Ty4 := Ty4 t4
  replace Tq4 := Tq4 t4
  replace Tz4 := Tz4 t4
  replace Tr4 := Tr4 t4
  clear F4 HB4 hne4 x14 x24 p14 p24 y14 y24 q14 q24 z14 z24 r14 r24
  generalize g4 t4 = w4 at *
  clear g4
  obtain ⟨x04, x14, x24, x34, x44⟩ := id Tx4
  obtain ⟨p04, p14, p24, p34, p44⟩ := id Tp4
  obtain ⟨y04, y14, y24, y34, y44⟩ := id Ty4
  obtain ⟨q04, q14, q24, q34, q44⟩ := id Tq4
  obtain ⟨z04, z14, z24, z34, z44⟩ := id Tz4
  obtain ⟨r04, r14, r24, r34, r44⟩ := id Tr4
  clear sy
  go_wp2_with fail
  by_cases c1 : cmpI (N1 * D2) (N2 * D1) ≤ 0
  · have c1' : decide (cmpI (N1 * D2) (N2 * D1) ≤ 0) = true := by simpa using c1
    by_cases c2 : cmpI (N2 * D3) (N3 * D2) ≤ 0
    · have c2' : decide (cmpI (N2 * D3) (N3 * D2) ≤ 0) = true := by simpa using c2
      have c3' : decide (0 < cmpI (N1 * D3) (N3 * D1)) = false := by simpa using le_tr L1 L2 L3 c1 c2
      clear c1 c2
      refine Qt.regionAll (by kernel_rfl) (by kernel_rfl) ?_
      intro T5 g5 F5 hne5
      have HB5 := Lib.hid (fun t => (B4.out).up (F5.below t))
      have Tx5 := fun t => (Tx4).up (F5.below t)
      have Tp5 := fun t => (Tp4).up (F5.below t)
      have Ty5 := fun t => (Ty4).up (F5.below t)
      have Tq5 := fun t => (Tq4).up (F5.below t)
      have Tz5 := fun t => (Tz4).up (F5.below t)
      have Tr5 := fun t => (Tr4).up (F5.below t)
      have x15 := fun t => (Tx5 t).c0
      have x25 := fun t => (Tx5 t).c1
      have p15 := fun t => (Tp5 t).c0
      have p25 := fun t => (Tp5 t).c1
      have y15 := fun t => (Ty5 t).c0
      have y25 := fun t => (Ty5 t).c1
      have q15 := fun t => (Tq5 t).c0
      have q25 := fun t => (Tq5 t).c1
      have z15 := fun t => (Tz5 t).c0
      have z25 := fun t => (Tz5 t).c1
      have r15 := fun t => (Tr5 t).c0
      have r25 := fun t => (Tr5 t).c1
      clear x04 x14 x24 x34 x44 p04 p14 p24 p34 p44 y04 y14 y24 y34 y44 q04 q14 q24 q34 q44 z04 z14 z24 z34 z44 r04 r14 r24 r34 r44 Tx4 Tp4 Ty4 Tq4 Tz4 Tr4
      repeat (go_big_quiet_step (first | (go_at_call 31; exact F5.call (cmp_D _ _ _ _ _ (by assumption) (by assumption))) | (go_at_call 30; exact F5.call (sign_D _ _ _ (by assumption))) | (go_at_call 32; exact F5.call (cmpR_D _ _ _ _ _ (by assumption) (by assumption)))))
      refine wpQuiet_nil ?_
      rintro _ ⟨t5, rfl⟩
      have B5 := Lib.hid (HB5.out t5)
      replace Tx5 := Tx5 t5
      replace Tp5 := Tp5 t5
      replace Ty5 := Ty5 t5
      replace Tq5 := Tq5 t5
      replace Tz5 := Tz5 t5
      replace Tr5 := Tr5 t5
      clear F5 HB5 hne5 x15 x25 p15 p25 y15 y25 q15 q25 z15 z25 r15 r25
      generalize g5 t5 = w5 at *
      clear g5
      obtain ⟨x05, x15, x25, x35, x45⟩ := id Tx5
      obtain ⟨p05, p15, p25, p35, p45⟩ := id Tp5
      obtain ⟨y05, y15, y25, y35, y45⟩ := id Ty5
      obtain ⟨q05, q15, q25, q35, q45⟩ := id Tq5
      obtain ⟨z05, z15, z25, z35, z45⟩ := id Tz5
      obtain ⟨r05, r15, r25, r35, r45⟩ := id Tr5
      go_wp2_with fail
      refine (add_D _ _ _ _ _ L1 L3).mono ?_
      rintro e w6 ⟨rfl, hb⟩
      have B6 := Lib.hid ((B5.out).up hb)
      have Tx6 := (Tx5).up hb
      have Tp6 := (Tp5).up hb
      have Ty6 := (Ty5).up hb
      have Tq6 := (Tq5).up hb
      have Tz6 := (Tz5).up hb
      have Tr6 := (Tr5).up hb
      clear hb Tx5 Tp5 Ty5 Tq5 Tz5 Tr5 x05 x15 x25 x35 x45 p05 p15 p25 p35 p45 y05 y15 y25 y35 y45 q05 q15 q25 q35 q45 z05 z15 z25 z35 z45 r05 r15 r25 r35 r45
      obtain ⟨x06, x16, x26, x36, x46⟩ := id Tx6
      obtain ⟨p06, p16, p26, p36, p46⟩ := id Tp6
      obtain ⟨y06, y16, y26, y36, y46⟩ := id Ty6
      obtain ⟨q06, q16, q26, q36, q46⟩ := id Tq6
      obtain ⟨z06, z16, z26, z36, z46⟩ := id Tz6
      obtain ⟨r06, r16, r26, r36, r46⟩ := id Tr6
      go_wp2_with fail
      refine (add_D _ _ _ _ _ L2 L3).mono ?_
      rintro e w7 ⟨rfl, hb⟩
      have B7 := Lib.hid (((B6.out).alloc _).up hb)
      have Tx7 := ((Tx6).alloc _).up hb
      have Tp7 := ((Tp6).alloc _).up hb
      have Ty7 := ((Ty6).alloc _).up hb
      have Tq7 := ((Tq6).alloc _).up hb
      have Tz7 := ((Tz6).alloc _).up hb
      have Tr7 := ((Tr6).alloc _).up hb
      have Ts7 := (Two.new _ _ _ _ (w6.heap.size) (by simp)).up hb
      clear hb Tx6 Tp6 Ty6 Tq6 Tz6 Tr6 x06 x16 x26 x36 x46 p06 p16 p26 p36 p46 y06 y16 y26 y36 y46 q06 q16 q26 q36 q46 z06 z16 z26 z36 z46 r06 r16 r26 r36 r46
      obtain ⟨x07, x17, x27, x37, x47⟩ := id Tx7
      obtain ⟨p07, p17, p27, p37, p47⟩ := id Tp7
      obtain ⟨y07, y17, y27, y37, y47⟩ := id Ty7
      obtain ⟨q07, q17, q27, q37, q47⟩ := id Tq7
      obtain ⟨z07, z17, z27, z37, z47⟩ := id Tz7
      obtain ⟨r07, r17, r27, r37, r47⟩ := id Tr7
      obtain ⟨s07, s17, s27, s37, s47⟩ := id Ts7
      go_wp2_with fail
      by_cases e1 : Rat1.ofE (N1 * D3 + N3 * D1) (D1 * D3) = 0
      · skip
        by_cases e2 : Rat1.ofE (N2 * D3 + N3 * D2) (D2 * D3) = 0
        · have ho := add_order L1 L2 L3 e1 e2
          have s1 := low_of (N1 * D3 + N3 * D1) (D1 * D3)
          have s2 := low_of (N2 * D3 + N3 * D2) (D2 * D3)
          refine Qt.regionAll (by kernel_rfl) (by kernel_rfl) ?_
          intro T8 g8 F8 hne8
          have HB8 := Lib.hid (fun t => ((B7.out).alloc _).up (F8.below t))
          have Tx8 := fun t => ((Tx7).alloc _).up (F8.below t)
          have Tp8 := fun t => ((Tp7).alloc _).up (F8.below t)
          have Ty8 := fun t => ((Ty7).alloc _).up (F8.below t)
          have Tq8 := fun t => ((Tq7).alloc _).up (F8.below t)
          have Tz8 := fun t => ((Tz7).alloc _).up (F8.below t)
          have Tr8 := fun t => ((Tr7).alloc _).up (F8.below t)
          have Ts8 := fun t => ((Ts7).alloc _).up (F8.below t)
          have Tt8 := fun t => (Two.new _ _ _ _ (w7.heap.size) (by simp)).up (F8.below t)
          have x18 := fun t => (Tx8 t).c0
          have x28 := fun t => (Tx8 t).c1
          have p18 := fun t => (Tp8 t).c0
          have p28 := fun t => (Tp8 t).c1
          have y18 := fun t => (Ty8 t).c0
          have y28 := fun t => (Ty8 t).c1
          have q18 := fun t => (Tq8 t).c0
          have q28 := fun t => (Tq8 t).c1
          have z18 := fun t => (Tz8 t).c0
          have z28 := fun t => (Tz8 t).c1
          have r18 := fun t => (Tr8 t).c0
          have r28 := fun t => (Tr8 t).c1
          have s18 := fun t => (Ts8 t).c0
          have s28 := fun t => (Ts8 t).c1
          have t18 := fun t => (Tt8 t).c0
          have t28 := fun t => (Tt8 t).c1
          clear x07 x17 x27 x37 x47 p07 p17 p27 p37 p47 y07 y17 y27 y37 y47 q07 q17 q27 q37 q47 z07 z17 z27 z37 z47 r07 r17 r27 r37 r47 s07 s17 s27 s37 s47 Tx7 Tp7 Ty7 Tq7 Tz7 Tr7 Ts7
          repeat (go_big_quiet_step (first | (go_at_call 31; exact F8.call (cmp_D _ _ _ _ _ (by assumption) (by assumption))) | (go_at_call 30; exact F8.call (sign_D _ _ _ (by assumption))) | (go_at_call 32; exact F8.call (cmpR_D _ _ _ _ _ (by assumption) (by assumption)))))
          refine wpQuiet_nil ?_
          rintro _ ⟨t8, rfl⟩
          have B8 := Lib.hid (HB8.out t8)
          replace Tx8 := Tx8 t8
          replace Tp8 := Tp8 t8
          replace Ty8 := Ty8 t8
          replace Tq8 := Tq8 t8
          replace Tz8 := Tz8 t8
          replace Tr8 := Tr8 t8
          replace Ts8 := Ts8 t8
          replace Tt8 := Tt8 t8
          clear F8 HB8 hne8 x18 x28 p18 p28 y18 y28 q18 q28 z18 z28 r18 r28 s18 s28 t18 t28
          generalize g8 t8 = w8 at *
          clear g8
          obtain ⟨x08, x18, x28, x38, x48⟩ := id Tx8
          obtain ⟨p08, p18, p28, p38, p48⟩ := id Tp8
          obtain ⟨y08, y18, y28, y38, y48⟩ := id Ty8
          obtain ⟨q08, q18, q28, q38, q48⟩ := id Tq8
          obtain ⟨z08, z18, z28, z38, z48⟩ := id Tz8
          obtain ⟨r08, r18, r28, r38, r48⟩ := id Tr8
          obtain ⟨s08, s18, s28, s38, s48⟩ := id Ts8
          obtain ⟨t08, t18, t28, t38, t48⟩ := id Tt8
          go_wp2
          go_ret
          exact ⟨rfl, B8.out.out⟩
        · have e2' : (Rat1.ofE (N2 * D3 + N3 * D2) (D2 * D3) != 0) = true := by simpa using e2
          clear e2
          have s1 := low_of (N1 * D3 + N3 * D1) (D1 * D3)
          have s2 := low_of (N2 * D3 + N3 * D2) (D2 * D3)
          refine Qt.regionAll (by kernel_rfl) (by kernel_rfl) ?_
          intro T8 g8 F8 hne8
          have HB8 := Lib.hid (fun t => ((B7.out).alloc _).up (F8.below t))
          have Tx8 := fun t => ((Tx7).alloc _).up (F8.below t)
          have Tp8 := fun t => ((Tp7).alloc _).up (F8.below t)
          have Ty8 := fun t => ((Ty7).alloc _).up (F8.below t)
          have Tq8 := fun t => ((Tq7).alloc _).up (F8.below t)
          have Tz8 := fun t => ((Tz7).alloc _).up (F8.below t)
          have Tr8 := fun t => ((Tr7).alloc _).up (F8.below t)
          have Ts8 := fun t => ((Ts7).alloc _).up (F8.below t)
          have Tt8 := fun t => (Two.new _ _ _ _ (w7.heap.size) (by simp)).up (F8.below t)
          have x18 := fun t => (Tx8 t).c0
          have x28 := fun t => (Tx8 t).c1
          have p18 := fun t => (Tp8 t).c0
          have p28 := fun t => (Tp8 t).c1
          have y18 := fun t => (Ty8 t).c0
          have y28 := fun t => (Ty8 t).c1
          have q18 := fun t => (Tq8 t).c0
          have q28 := fun t => (Tq8 t).c1
          have z18 := fun t => (Tz8 t).c0
          have z28 := fun t => (Tz8 t).c1
          have r18 := fun t => (Tr8 t).c0
          have r28 := fun t => (Tr8 t).c1
          have s18 := fun t => (Ts8 t).c0
          have s28 := fun t => (Ts8 t).c1
          have t18 := fun t => (Tt8 t).c0
          have t28 := fun t => (Tt8 t).c1
          clear x07 x17 x27 x37 x47 p07 p17 p27 p37 p47 y07 y17 y27 y37 y47 q07 q17 q27 q37 q47 z07 z17 z27 z37 z47 r07 r17 r27 r37 r47 s07 s17 s27 s37 s47 Tx7 Tp7 Ty7 Tq7 Tz7 Tr7 Ts7
          repeat (go_big_quiet_step (first | (go_at_call 31; exact F8.call (cmp_D _ _ _ _ _ (by assumption) (by assumption))) | (go_at_call 30; exact F8.call (sign_D _ _ _ (by assumption))) | (go_at_call 32; exact F8.call (cmpR_D _ _ _ _ _ (by assumption) (by assumption)))))
          refine wpQuiet_nil ?_
          rintro _ ⟨t8, rfl⟩
          have B8 := Lib.hid (HB8.out t8)
          replace Tx8 := Tx8 t8
          replace Tp8 := Tp8 t8
          replace Ty8 := Ty8 t8
          replace Tq8 := Tq8 t8
          replace Tz8 := Tz8 t8
          replace Tr8 := Tr8 t8
          replace Ts8 := Ts8 t8
          replace Tt8 := Tt8 t8
          clear F8 HB8 hne8 x18 x28 p18 p28 y18 y28 q18 q28 z18 z28 r18 r28 s18 s28 t18 t28
          generalize g8 t8 = w8 at *
          clear g8
          obtain ⟨x08, x18, x28, x38, x48⟩ := id Tx8
          obtain ⟨p08, p18, p28, p38, p48⟩ := id Tp8
          obtain ⟨y08, y18, y28, y38, y48⟩ := id Ty8
          obtain ⟨q08, q18, q28, q38, q48⟩ := id Tq8
          obtain ⟨z08, z18, z28, z38, z48⟩ := id Tz8
          obtain ⟨r08, r18, r28, r38, r48⟩ := id Tr8
          obtain ⟨s08, s18, s28, s38, s48⟩ := id Ts8
          obtain ⟨t08, t18, t28, t38, t48⟩ := id Tt8
          go_wp2
          go_ret
          exact ⟨rfl, B8.out.out⟩
      · have e1' : (Rat1.ofE (N1 * D3 + N3 * D1) (D1 * D3) != 0) = true := by simpa using e1
        clear e1
        have s1 := low_of (N1 * D3 + N3 * D1) (D1 * D3)
        have s2 := low_of (N2 * D3 + N3 * D2) (D2 * D3)
        refine Qt.regionAll (by kernel_rfl) (by kernel_rfl) ?_
        intro T8 g8 F8 hne8
        have HB8 := Lib.hid (fun t => ((B7.out).alloc _).up (F8.below t))
        have Tx8 := fun t => ((Tx7).alloc _).up (F8.below t)
        have Tp8 := fun t => ((Tp7).alloc _).up (F8.below t)
        have Ty8 := fun t => ((Ty7).alloc _).up (F8.below t)
        have Tq8 := fun t => ((Tq7).alloc _).up (F8.below t)
        have Tz8 := fun t => ((Tz7).alloc _).up (F8.below t)
        have Tr8 := fun t => ((Tr7).alloc _).up (F8.below t)
        have Ts8 := fun t => ((Ts7).alloc _).up (F8.below t)
        have Tt8 := fun t => (Two.new _ _ _ _ (w7.heap.size) (by simp)).up (F8.below t)
        have x18 := fun t => (Tx8 t).c0
        have x28 := fun t => (Tx8 t).c1
        have p18 := fun t => (Tp8 t).c0
        have p28 := fun t => (Tp8 t).c1
        have y18 := fun t => (Ty8 t).c0
        have y28 := fun t => (Ty8 t).c1
        have q18 := fun t => (Tq8 t).c0
        have q28 := fun t => (Tq8 t).c1
        have z18 := fun t => (Tz8 t).c0
        have z28 := fun t => (Tz8 t).c1
        have r18 := fun t => (Tr8 t).c0
        have r28 := fun t => (Tr8 t).c1
        have s18 := fun t => (Ts8 t).c0
        have s28 := fun t => (Ts8 t).c1
        have t18 := fun t => (Tt8 t).c0
        have t28 := fun t => (Tt8 t).c1
        clear x07 x17 x27 x37 x47 p07 p17 p27 p37 p47 y07 y17 y27 y37 y47 q07 q17 q27 q37 q47 z07 z17 z27 z37 z47 r07 r17 r27 r37 r47 s07 s17 s27 s37 s47 Tx7 Tp7 Ty7 Tq7 Tz7 Tr7 Ts7
        repeat (go_big_quiet_step (first | (go_at_call 31; exact F8.call (cmp_D _ _ _ _ _ (by assumption) (by assumption))) | (go_at_call 30; exact F8.call (sign_D _ _ _ (by assumption))) | (go_at_call 32; exact F8.call (cmpR_D _ _ _ _ _ (by assumption) (by assumption)))))
        refine wpQuiet_nil ?_
        rintro _ ⟨t8, rfl⟩
        have B8 := Lib.hid (HB8.out t8)
        replace Tx8 := Tx8 t8
        replace Tp8 := Tp8 t8
        replace Ty8 := Ty8 t8
        replace Tq8 := Tq8 t8
        replace Tz8 := Tz8 t8
        replace Tr8 := Tr8 t8
        replace Ts8 := Ts8 t8
        replace Tt8 := Tt8 t8
        clear F8 HB8 hne8 x18 x28 p18 p28 y18 y28 q18 q28 z18 z28 r18 r28 s18 s28 t18 t28
        generalize g8 t8 = w8 at *
        clear g8
        obtain ⟨x08, x18, x28, x38, x48⟩ := id Tx8
        obtain ⟨p08, p18, p28, p38, p48⟩ := id Tp8
        obtain ⟨y08, y18, y28, y38, y48⟩ := id Ty8
        obtain ⟨q08, q18, q28, q38, q48⟩ := id Tq8
        obtain ⟨z08, z18, z28, z38, z48⟩ := id Tz8
        obtain ⟨r08, r18, r28, r38, r48⟩ := id Tr8
        obtain ⟨s08, s18, s28, s38, s48⟩ := id Ts8
        obtain ⟨t08, t18, t28, t38, t48⟩ := id Tt8
        go_wp2
        go_ret
        exact ⟨rfl, B8.out.out⟩
    · have c2' : decide (cmpI (N2 * D3) (N3 * D2) ≤ 0) = false := by simpa using c2
      clear c1 c2
      refine Qt.regionAll (by kernel_rfl) (by kernel_rfl) ?_
      intro T5 g5 F5 hne5
      have HB5 := Lib.hid (fun t => (B4.out).up (F5.below t))
      have Tx5 := fun t => (Tx4).up (F5.below t)
      have Tp5 := fun t => (Tp4).up (F5.below t)
      have Ty5 := fun t => (Ty4).up (F5.below t)
      have Tq5 := fun t => (Tq4).up (F5.below t)
      have Tz5 := fun t => (Tz4).up (F5.below t)
      have Tr5 := fun t => (Tr4).up (F5.below t)
      have x15 := fun t => (Tx5 t).c0
      have x25 := fun t => (Tx5 t).c1
      have p15 := fun t => (Tp5 t).c0
      have p25 := fun t => (Tp5 t).c1
      have y15 := fun t => (Ty5 t).c0
      have y25 := fun t => (Ty5 t).c1
      have q15 := fun t => (Tq5 t).c0
      have q25 := fun t => (Tq5 t).c1
      have z15 := fun t => (Tz5 t).c0
      have z25 := fun t => (Tz5 t).c1
      have r15 := fun t => (Tr5 t).c0
      have r25 := fun t => (Tr5 t).c1
      clear x04 x14 x24 x34 x44 p04 p14 p24 p34 p44 y04 y14 y24 y34 y44 q04 q14 q24 q34 q44 z04 z14 z24 z34 z44 r04 r14 r24 r34 r44 Tx4 Tp4 Ty4 Tq4 Tz4 Tr4
      repeat (go_big_quiet_step (first | (go_at_call 31; exact F5.call (cmp_D _ _ _ _ _ (by assumption) (by assumption))) | (go_at_call 30; exact F5.call (sign_D _ _ _ (by assumption))) | (go_at_call 32; exact F5.call (cmpR_D _ _ _ _ _ (by assumption) (by assumption)))))
      refine wpQuiet_nil ?_
      rintro _ ⟨t5, rfl⟩
      have B5 := Lib.hid (HB5.out t5)
      replace Tx5 := Tx5 t5
      replace Tp5 := Tp5 t5
      replace Ty5 := Ty5 t5
      replace Tq5 := Tq5 t5
      replace Tz5 := Tz5 t5
      replace Tr5 := Tr5 t5
      clear F5 HB5 hne5 x15 x25 p15 p25 y15 y25 q15 q25 z15 z25 r15 r25
      generalize g5 t5 = w5 at *
      clear g5
      obtain ⟨x05, x15, x25, x35, x45⟩ := id Tx5
      obtain ⟨p05, p15, p25, p35, p45⟩ := id Tp5
      obtain ⟨y05, y15, y25, y35, y45⟩ := id Ty5
      obtain ⟨q05, q15, q25, q35, q45⟩ := id Tq5
      obtain ⟨z05, z15, z25, z35, z45⟩ := id Tz5
      obtain ⟨r05, r15, r25, r35, r45⟩ := id Tr5
      go_wp2_with fail
      refine (add_D _ _ _ _ _ L1 L3).mono ?_
      rintro e w6 ⟨rfl, hb⟩
      have B6 := Lib.hid ((B5.out).up hb)
      have Tx6 := (Tx5).up hb
      have Tp6 := (Tp5).up hb
      have Ty6 := (Ty5).up hb
      have Tq6 := (Tq5).up hb
      have Tz6 := (Tz5).up hb
      have Tr6 := (Tr5).up hb
      clear hb Tx5 Tp5 Ty5 Tq5 Tz5 Tr5 x05 x15 x25 x35 x45 p05 p15 p25 p35 p45 y05 y15 y25 y35 y45 q05 q15 q25 q35 q45 z05 z15 z25 z35 z45 r05 r15 r25 r35 r45
      obtain ⟨x06, x16, x26, x36, x46⟩ := id Tx6
      obtain ⟨p06, p16, p26, p36, p46⟩ := id Tp6
      obtain ⟨y06, y16, y26, y36, y46⟩ := id Ty6
      obtain ⟨q06, q16, q26, q36, q46⟩ := id Tq6
      obtain ⟨z06, z16, z26, z36, z46⟩ := id Tz6
      obtain ⟨r06, r16, r26, r36, r46⟩ := id Tr6
      go_wp2_with fail
      refine (add_D _ _ _ _ _ L2 L3).mono ?_
      rintro e w7 ⟨rfl, hb⟩
      have B7 := Lib.hid (((B6.out).alloc _).up hb)
      have Tx7 := ((Tx6).alloc _).up hb
      have Tp7 := ((Tp6).alloc _).up hb
      have Ty7 := ((Ty6).alloc _).up hb
      have Tq7 := ((Tq6).alloc _).up hb
      have Tz7 := ((Tz6).alloc _).up hb
      have Tr7 := ((Tr6).alloc _).up hb
      have Ts7 := (Two.new _ _ _ _ (w6.heap.size) (by simp)).up hb
      clear hb Tx6 Tp6 Ty6 Tq6 Tz6 Tr6 x06 x16 x26 x36 x46 p06 p16 p26 p36 p46 y06 y16 y26 y36 y46 q06 q16 q26 q36 q46 z06 z16 z26 z36 z46 r06 r16 r26 r36 r46
      obtain ⟨x07, x17, x27, x37, x47⟩ := id Tx7
      obtain ⟨p07, p17, p27, p37, p47⟩ := id Tp7
      obtain ⟨y07, y17, y27, y37, y47⟩ := id Ty7
      obtain ⟨q07, q17, q27, q37, q47⟩ := id Tq7
      obtain ⟨z07, z17, z27, z37, z47⟩ := id Tz7
      obtain ⟨r07, r17, r27, r37, r47⟩ := id Tr7
      obtain ⟨s07, s17, s27, s37, s47⟩ := id Ts7
      go_wp2_with fail
      by_cases e1 : Rat1.ofE (N1 * D3 + N3 * D1) (D1 * D3) = 0
      · skip
        by_cases e2 : Rat1.ofE (N2 * D3 + N3 * D2) (D2 * D3) = 0
        · have ho := add_order L1 L2 L3 e1 e2
          have s1 := low_of (N1 * D3 + N3 * D1) (D1 * D3)
          have s2 := low_of (N2 * D3 + N3 * D2) (D2 * D3)
          refine Qt.regionAll (by kernel_rfl) (by kernel_rfl) ?_
          intro T8 g8 F8 hne8
          have HB8 := Lib.hid (fun t => ((B7.out).alloc _).up (F8.below t))
          have Tx8 := fun t => ((Tx7).alloc _).up (F8.below t)
          have Tp8 := fun t => ((Tp7).alloc _).up (F8.below t)
          have Ty8 := fun t => ((Ty7).alloc _).up (F8.below t)
          have Tq8 := fun t => ((Tq7).alloc _).up (F8.below t)
          have Tz8 := fun t => ((Tz7).alloc _).up (F8.below t)
          have Tr8 := fun t => ((Tr7).alloc _).up (F8.below t)
          have Ts8 := fun t => ((Ts7).alloc _).up (F8.below t)
          have Tt8 := fun t => (Two.new _ _ _ _ (w7.heap.size) (by simp)).up (F8.below t)
          have x18 := fun t => (Tx8 t).c0
          have x28 := fun t => (Tx8 t).c1
          have p18 := fun t => (Tp8 t).c0
          have p28 := fun t => (Tp8 t).c1
          have y18 := fun t => (Ty8 t).c0
          have y28 := fun t => (Ty8 t).c1
          have q18 := fun t => (Tq8 t).c0
          have q28 := fun t => (Tq8 t).c1
          have z18 := fun t => (Tz8 t).c0
          have z28 := fun t => (Tz8 t).c1
          have r18 := fun t => (Tr8 t).c0
          have r28 := fun t => (Tr8 t).c1
          have s18 := fun t => (Ts8 t).c0
          have s28 := fun t => (Ts8 t).c1
          have t18 := fun t => (Tt8 t).c0
          have t28 := fun t => (Tt8 t).c1
          clear x07 x17 x27 x37 x47 p07 p17 p27 p37 p47 y07 y17 y27 y37 y47 q07 q17 q27 q37 q47 z07 z17 z27 z37 z47 r07 r17 r27 r37 r47 s07 s17 s27 s37 s47 Tx7 Tp7 Ty7 Tq7 Tz7 Tr7 Ts7
          repeat (go_big_quiet_step (first | (go_at_call 31; exact F8.call (cmp_D _ _ _ _ _ (by assumption) (by assumption))) | (go_at_call 30; exact F8.call (sign_D _ _ _ (by assumption))) | (go_at_call 32; exact F8.call (cmpR_D _ _ _ _ _ (by assumption) (by assumption)))))
          refine wpQuiet_nil ?_
          rintro _ ⟨t8, rfl⟩
          have B8 := Lib.hid (HB8.out t8)
          replace Tx8 := Tx8 t8
          replace Tp8 := Tp8 t8
          replace Ty8 := Ty8 t8
          replace Tq8 := Tq8 t8
          replace Tz8 := Tz8 t8
          replace Tr8 := Tr8 t8
          replace Ts8 := Ts8 t8
          replace Tt8 := Tt8 t8
          clear F8 HB8 hne8 x18 x28 p18 p28 y18 y28 q18 q28 z18 z28 r18 r28 s18 s28 t18 t28
          generalize g8 t8 = w8 at *
          clear g8
          obtain ⟨x08, x18, x28, x38, x48⟩ := id Tx8
          obtain ⟨p08, p18, p28, p38, p48⟩ := id Tp8
          obtain ⟨y08, y18, y28, y38, y48⟩ := id Ty8
          obtain ⟨q08, q18, q28, q38, q48⟩ := id Tq8
          obtain ⟨z08, z18, z28, z38, z48⟩ := id Tz8
          obtain ⟨r08, r18, r28, r38, r48⟩ := id Tr8
          obtain ⟨s08, s18, s28, s38, s48⟩ := id Ts8
          obtain ⟨t08, t18, t28, t38, t48⟩ := id Tt8
          go_wp2
          go_ret
          exact ⟨rfl, B8.out.out⟩
        · have e2' : (Rat1.ofE (N2 * D3 + N3 * D2) (D2 * D3) != 0) = true := by simpa using e2
          clear e2
          have s1 := low_of (N1 * D3 + N3 * D1) (D1 * D3)
          have s2 := low_of (N2 * D3 + N3 * D2) (D2 * D3)
          refine Qt.regionAll (by kernel_rfl) (by kernel_rfl) ?_
          intro T8 g8 F8 hne8
          have HB8 := Lib.hid (fun t => ((B7.out).alloc _).up (F8.below t))
          have Tx8 := fun t => ((Tx7).alloc _).up (F8.below t)
          have Tp8 := fun t => ((Tp7).alloc _).up (F8.below t)
          have Ty8 := fun t => ((Ty7).alloc _).up (F8.below t)
          have Tq8 := fun t => ((Tq7).alloc _).up (F8.below t)
          have Tz8 := fun t => ((Tz7).alloc _).up (F8.below t)
          have Tr8 := fun t => ((Tr7).alloc _).up (F8.below t)
          have Ts8 := fun t => ((Ts7).alloc _).up (F8.below t)
          have Tt8 := fun t => (Two.new _ _ _ _ (w7.heap.size) (by simp)).up (F8.below t)
          have x18 := fun t => (Tx8 t).c0
          have x28 := fun t => (Tx8 t).c1
          have p18 := fun t => (Tp8 t).c0
          have p28 := fun t => (Tp8 t).c1
          have y18 := fun t => (Ty8 t).c0
          have y28 := fun t => (Ty8 t).c1
          have q18 := fun t => (Tq8 t).c0
          have q28 := fun t => (Tq8 t).c1
          have z18 := fun t => (Tz8 t).c0
          have z28 := fun t => (Tz8 t).c1
          have r18 := fun t => (Tr8 t).c0
          have r28 := fun t => (Tr8 t).c1
          have s18 := fun t => (Ts8 t).c0
          have s28 := fun t => (Ts8 t).c1
          have t18 := fun t => (Tt8 t).c0
          have t28 := fun t => (Tt8 t).c1
          clear x07 x17 x27 x37 x47 p07 p17 p27 p37 p47 y07 y17 y27 y37 y47 q07 q17 q27 q37 q47 z07 z17 z27 z37 z47 r07 r17 r27 r37 r47 s07 s17 s27 s37 s47 Tx7 Tp7 Ty7 Tq7 Tz7 Tr7 Ts7
          repeat (go_big_quiet_step (first | (go_at_call 31; exact F8.call (cmp_D _ _ _ _ _ (by assumption) (by assumption))) | (go_at_call 30; exact F8.call (sign_D _ _ _ (by assumption))) | (go_at_call 32; exact F8.call (cmpR_D _ _ _ _ _ (by assumption) (by assumption)))))
          refine wpQuiet_nil ?_
          rintro _ ⟨t8, rfl⟩
          have B8 := Lib.hid (HB8.out t8)
          replace Tx8 := Tx8 t8
          replace Tp8 := Tp8 t8
          replace Ty8 := Ty8 t8
          replace Tq8 := Tq8 t8
          replace Tz8 := Tz8 t8
          replace Tr8 := Tr8 t8
          replace Ts8 := Ts8 t8
          replace Tt8 := Tt8 t8
          clear F8 HB8 hne8 x18 x28 p18 p28 y18 y28 q18 q28 z18 z28 r18 r28 s18 s28 t18 t28
          generalize g8 t8 = w8 at *
          clear g8
          obtain ⟨x08, x18, x28, x38, x48⟩ := id Tx8
          obtain ⟨p08, p18, p28, p38, p48⟩ := id Tp8
          obtain ⟨y08, y18, y28, y38, y48⟩ := id Ty8
          obtain ⟨q08, q18, q28, q38, q48⟩ := id Tq8
          obtain ⟨z08, z18, z28, z38, z48⟩ := id Tz8
          obtain ⟨r08, r18, r28, r38, r48⟩ := id Tr8
          obtain ⟨s08, s18, s28, s38, s48⟩ := id Ts8
          obtain ⟨t08, t18, t28, t38, t48⟩ := id Tt8
          go_wp2
          go_ret
          exact ⟨rfl, B8.out.out⟩
      · have e1' : (Rat1.ofE (N1 * D3 + N3 * D1) (D1 * D3) != 0) = true := by simpa using e1
        clear e1
        have s1 := low_of (N1 * D3 + N3 * D1) (D1 * D3)
        have s2 := low_of (N2 * D3 + N3 * D2) (D2 * D3)
        refine Qt.regionAll (by kernel_rfl) (by kernel_rfl) ?_
        intro T8 g8 F8 hne8
        have HB8 := Lib.hid (fun t => ((B7.out).alloc _).up (F8.below t))
        have Tx8 := fun t => ((Tx7).alloc _).up (F8.below t)
        have Tp8 := fun t => ((Tp7).alloc _).up (F8.below t)
        have Ty8 := fun t => ((Ty7).alloc _).up (F8.below t)
        have Tq8 := fun t => ((Tq7).alloc _).up (F8.below t)
        have Tz8 := fun t => ((Tz7).alloc _).up (F8.below t)
        have Tr8 := fun t => ((Tr7).alloc _).up (F8.below t)
        have Ts8 := fun t => ((Ts7).alloc _).up (F8.below t)
        have Tt8 := fun t => (Two.new _ _ _ _ (w7.heap.size) (by simp)).up (F8.below t)
        have x18 := fun t => (Tx8 t).c0
        have x28 := fun t => (Tx8 t).c1
        have p18 := fun t => (Tp8 t).c0
        have p28 := fun t => (Tp8 t).c1
        have y18 := fun t => (Ty8 t).c0
        have y28 := fun t => (Ty8 t).c1
        have q18 := fun t => (Tq8 t).c0
        have q28 := fun t => (Tq8 t).c1
        have z18 := fun t => (Tz8 t).c0
        have z28 := fun t => (Tz8 t).c1
        have r18 := fun t => (Tr8 t).c0
        have r28 := fun t => (Tr8 t).c1
        have s18 := fun t => (Ts8 t).c0
        have s28 := fun t => (Ts8 t).c1
        have t18 := fun t => (Tt8 t).c0
        have t28 := fun t => (Tt8 t).c1
        clear x07 x17 x27 x37 x47 p07 p17 p27 p37 p47 y07 y17 y27 y37 y47 q07 q17 q27 q37 q47 z07 z17 z27 z37 z47 r07 r17 r27 r37 r47 s07 s17 s27 s37 s47 Tx7 Tp7 Ty7 Tq7 Tz7 Tr7 Ts7
        repeat (go_big_quiet_step (first | (go_at_call 31; exact F8.call (cmp_D _ _ _ _ _ (by assumption) (by assumption))) | (go_at_call 30; exact F8.call (sign_D _ _ _ (by assumption))) | (go_at_call 32; exact F8.call (cmpR_D _ _ _ _ _ (by assumption) (by assumption)))))
        refine wpQuiet_nil ?_
        rintro _ ⟨t8, rfl⟩
        have B8 := Lib.hid (HB8.out t8)
        replace Tx8 := Tx8 t8
        replace Tp8 := Tp8 t8
        replace Ty8 := Ty8 t8
        replace Tq8 := Tq8 t8
        replace Tz8 := Tz8 t8
        replace Tr8 := Tr8 t8
        replace Ts8 := Ts8 t8
        replace Tt8 := Tt8 t8
        clear F8 HB8 hne8 x18 x28 p18 p28 y18 y28 q18 q28 z18 z28 r18 r28 s18 s28 t18 t28
        generalize g8 t8 = w8 at *
        clear g8
        obtain ⟨x08, x18, x28, x38, x48⟩ := id Tx8
        obtain ⟨p08, p18, p28, p38, p48⟩ := id Tp8
        obtain ⟨y08, y18, y28, y38, y48⟩ := id Ty8
        obtain ⟨q08, q18, q28, q38, q48⟩ := id Tq8
        obtain ⟨z08, z18, z28, z38, z48⟩ := id Tz8
        obtain ⟨r08, r18, r28, r38, r48⟩ := id Tr8
        obtain ⟨s08, s18, s28, s38, s48⟩ := id Ts8
        obtain ⟨t08, t18, t28, t38, t48⟩ := id Tt8
        go_wp2
        go_ret
        exact ⟨rfl, B8.out.out⟩
  · have c1' : decide (cmpI (N1 * D2) (N2 * D1) ≤ 0) = false := by simpa using c1
    clear c1
    refine Qt.regionAll (by kernel_rfl) (by kernel_rfl) ?_
    intro T5 g5 F5 hne5
    have HB5 := Lib.hid (fun t => (B4.out).up (F5.below t))
    have Tx5 := fun t => (Tx4).up (F5.below t)
    have Tp5 := fun t => (Tp4).up (F5.below t)
    have Ty5 := fun t => (Ty4).up (F5.below t)
    have Tq5 := fun t => (Tq4).up (F5.below t)
    have Tz5 := fun t => (Tz4).up (F5.below t)
    have Tr5 := fun t => (Tr4).up (F5.below t)
    have x15 := fun t => (Tx5 t).c0
    have x25 := fun t => (Tx5 t).c1
    have p15 := fun t => (Tp5 t).c0
    have p25 := fun t => (Tp5 t).c1
    have y15 := fun t => (Ty5 t).c0
    have y25 := fun t => (Ty5 t).c1
    have q15 := fun t => (Tq5 t).c0
    have q25 := fun t => (Tq5 t).c1
    have z15 := fun t => (Tz5 t).c0
    have z25 := fun t => (Tz5 t).c1
    have r15 := fun t => (Tr5 t).c0
    have r25 := fun t => (Tr5 t).c1
    clear x04 x14 x24 x34 x44 p04 p14 p24 p34 p44 y04 y14 y24 y34 y44 q04 q14 q24 q34 q44 z04 z14 z24 z34 z44 r04 r14 r24 r34 r44 Tx4 Tp4 Ty4 Tq4 Tz4 Tr4
    repeat (go_big_quiet_step (first | (go_at_call 31; exact F5.call (cmp_D _ _ _ _ _ (by assumption) (by assumption))) | (go_at_call 30; exact F5.call (sign_D _ _ _ (by assumption))) | (go_at_call 32; exact F5.call (cmpR_D _ _ _ _ _ (by assumption) (by assumption)))))
    refine wpQuiet_nil ?_
    rintro _ ⟨t5, rfl⟩
    have B5 := Lib.hid (HB5.out t5)
    replace Tx5 := Tx5 t5
    replace Tp5 := Tp5 t5
    replace Ty5 := Ty5 t5
    replace Tq5 := Tq5 t5
    replace Tz5 := Tz5 t5
    replace Tr5 := Tr5 t5
    clear F5 HB5 hne5 x15 x25 p15 p25 y15 y25 q15 q25 z15 z25 r15 r25
    generalize g5 t5 = w5 at *
    clear g5
    obtain ⟨x05, x15, x25, x35, x45⟩ := id Tx5
    obtain ⟨p05, p15, p25, p35, p45⟩ := id Tp5
    obtain ⟨y05, y15, y25, y35, y45⟩ := id Ty5
    obtain ⟨q05, q15, q25, q35, q45⟩ := id Tq5
    obtain ⟨z05, z15, z25, z35, z45⟩ := id Tz5
    obtain ⟨r05, r15, r25, r35, r45⟩ := id Tr5
    go_wp2_with fail
    refine (add_D _ _ _ _ _ L1 L3).mono ?_
    rintro e w6 ⟨rfl, hb⟩
    have B6 := Lib.hid ((B5.out).up hb)
    have Tx6 := (Tx5).up hb
    have Tp6 := (Tp5).up hb
    have Ty6 := (Ty5).up hb
    have Tq6 := (Tq5).up hb
    have Tz6 := (Tz5).up hb
    have Tr6 := (Tr5).up hb
    clear hb Tx5 Tp5 Ty5 Tq5 Tz5 Tr5 x05 x15 x25 x35 x45 p05 p15 p25 p35 p45 y05 y15 y25 y35 y45 q05 q15 q25 q35 q45 z05 z15 z25 z35 z45 r05 r15 r25 r35 r45
    obtain ⟨x06, x16, x26, x36, x46⟩ := id Tx6
    obtain ⟨p06, p16, p26, p36, p46⟩ := id Tp6
    obtain ⟨y06, y16, y26, y36, y46⟩ := id Ty6
    obtain ⟨q06, q16, q26, q36, q46⟩ := id Tq6
    obtain ⟨z06, z16, z26, z36, z46⟩ := id Tz6
    obtain ⟨r06, r16, r26, r36, r46⟩ := id Tr6
    go_wp2_with fail
    refine (add_D _ _ _ _ _ L2 L3).mono ?_
    rintro e w7 ⟨rfl, hb⟩
    have B7 := Lib.hid (((B6.out).alloc _).up hb)
    have Tx7 := ((Tx6).alloc _).up hb
    have Tp7 := ((Tp6).alloc _).up hb
    have Ty7 := ((Ty6).alloc _).up hb
    have Tq7 := ((Tq6).alloc _).up hb
    have Tz7 := ((Tz6).alloc _).up hb
    have Tr7 := ((Tr6).alloc _).up hb
    have Ts7 := (Two.new _ _ _ _ (w6.heap.size) (by simp)).up hb
    clear hb Tx6 Tp6 Ty6 Tq6 Tz6 Tr6 x06 x16 x26 x36 x46 p06 p16 p26 p36 p46 y06 y16 y26 y36 y46 q06 q16 q26 q36 q46 z06 z16 z26 z36 z46 r06 r16 r26 r36 r46
    obtain ⟨x07, x17, x27, x37, x47⟩ := id Tx7
    obtain ⟨p07, p17, p27, p37, p47⟩ := id Tp7
    obtain ⟨y07, y17, y27, y37, y47⟩ := id Ty7
    obtain ⟨q07, q17, q27, q37, q47⟩ := id Tq7
    obtain ⟨z07, z17, z27, z37, z47⟩ := id Tz7
    obtain ⟨r07, r17, r27, r37, r47⟩ := id Tr7
    obtain ⟨s07, s17, s27, s37, s47⟩ := id Ts7
    go_wp2_with fail
    by_cases e1 : Rat1.ofE (N1 * D3 + N3 * D1) (D1 * D3) = 0
    · skip
      by_cases e2 : Rat1.ofE (N2 * D3 + N3 * D2) (D2 * D3) = 0
      · have ho := add_order L1 L2 L3 e1 e2
        have s1 := low_of (N1 * D3 + N3 * D1) (D1 * D3)
        have s2 := low_of (N2 * D3 + N3 * D2) (D2 * D3)
        refine Qt.regionAll (by kernel_rfl) (by kernel_rfl) ?_
        intro T8 g8 F8 hne8
        have HB8 := Lib.hid (fun t => ((B7.out).alloc _).up (F8.below t))
        have Tx8 := fun t => ((Tx7).alloc _).up (F8.below t)
        have Tp8 := fun t => ((Tp7).alloc _).up (F8.below t)
        have Ty8 := fun t => ((Ty7).alloc _).up (F8.below t)
        have Tq8 := fun t => ((Tq7).alloc _).up (F8.below t)
        have Tz8 := fun t => ((Tz7).alloc _).up (F8.below t)
        have Tr8 := fun t => ((Tr7).alloc _).up (F8.below t)
        have Ts8 := fun t => ((Ts7).alloc _).up (F8.below t)
        have Tt8 := fun t => (Two.new _ _ _ _ (w7.heap.size) (by simp)).up (F8.below t)
        have x18 := fun t => (Tx8 t).c0
        have x28 := fun t => (Tx8 t).c1
        have p18 := fun t => (Tp8 t).c0
        have p28 := fun t => (Tp8 t).c1
        have y18 := fun t => (Ty8 t).c0
        have y28 := fun t => (Ty8 t).c1
        have q18 := fun t => (Tq8 t).c0
        have q28 := fun t => (Tq8 t).c1
        have z18 := fun t => (Tz8 t).c0
        have z28 := fun t => (Tz8 t).c1
        have r18 := fun t => (Tr8 t).c0
        have r28 := fun t => (Tr8 t).c1
        have s18 := fun t => (Ts8 t).c0
        have s28 := fun t => (Ts8 t).c1
        have t18 := fun t => (Tt8 t).c0
        have t28 := fun t => (Tt8 t).c1
        clear x07 x17 x27 x37 x47 p07 p17 p27 p37 p47 y07 y17 y27 y37 y47 q07 q17 q27 q37 q47 z07 z17 z27 z37 z47 r07 r17 r27 r37 r47 s07 s17 s27 s37 s47 Tx7 Tp7 Ty7 Tq7 Tz7 Tr7 Ts7
        repeat (go_big_quiet_step (first | (go_at_call 31; exact F8.call (cmp_D _ _ _ _ _ (by assumption) (by assumption))) | (go_at_call 30; exact F8.call (sign_D _ _ _ (by assumption))) | (go_at_call 32; exact F8.call (cmpR_D _ _ _ _ _ (by assumption) (by assumption)))))
        refine wpQuiet_nil ?_
        rintro _ ⟨t8, rfl⟩
        have B8 := Lib.hid (HB8.out t8)
        replace Tx8 := Tx8 t8
        replace Tp8 := Tp8 t8
        replace Ty8 := Ty8 t8
        replace Tq8 := Tq8 t8
        replace Tz8 := Tz8 t8
        replace Tr8 := Tr8 t8
        replace Ts8 := Ts8 t8
        replace Tt8 := Tt8 t8
        clear F8 HB8 hne8 x18 x28 p18 p28 y18 y28 q18 q28 z18 z28 r18 r28 s18 s28 t18 t28
        generalize g8 t8 = w8 at *
        clear g8
        obtain ⟨x08, x18, x28, x38, x48⟩ := id Tx8
        obtain ⟨p08, p18, p28, p38, p48⟩ := id Tp8
        obtain ⟨y08, y18, y28, y38, y48⟩ := id Ty8
        obtain ⟨q08, q18, q28, q38, q48⟩ := id Tq8
        obtain ⟨z08, z18, z28, z38, z48⟩ := id Tz8
        obtain ⟨r08, r18, r28, r38, r48⟩ := id Tr8
        obtain ⟨s08, s18, s28, s38, s48⟩ := id Ts8
        obtain ⟨t08, t18, t28, t38, t48⟩ := id Tt8
        go_wp2
        go_ret
        exact ⟨rfl, B8.out.out⟩
      · have e2' : (Rat1.ofE (N2 * D3 + N3 * D2) (D2 * D3) != 0) = true := by simpa using e2
        clear e2
        have s1 := low_of (N1 * D3 + N3 * D1) (D1 * D3)
        have s2 := low_of (N2 * D3 + N3 * D2) (D2 * D3)
        refine Qt.regionAll (by kernel_rfl) (by kernel_rfl) ?_
        intro T8 g8 F8 hne8
        have HB8 := Lib.hid (fun t => ((B7.out).alloc _).up (F8.below t))
        have Tx8 := fun t => ((Tx7).alloc _).up (F8.below t)
        have Tp8 := fun t => ((Tp7).alloc _).up (F8.below t)
        have Ty8 := fun t => ((Ty7).alloc _).up (F8.below t)
        have Tq8 := fun t => ((Tq7).alloc _).up (F8.below t)
        have Tz8 := fun t => ((Tz7).alloc _).up (F8.below t)
        have Tr8 := fun t => ((Tr7).alloc _).up (F8.below t)
        have Ts8 := fun t => ((Ts7).alloc _).up (F8.below t)
        have Tt8 := fun t => (Two.new _ _ _ _ (w7.heap.size) (by simp)).up (F8.below t)
        have x18 := fun t => (Tx8 t).c0
        have x28 := fun t => (Tx8 t).c1
        have p18 := fun t => (Tp8 t).c0
        have p28 := fun t => (Tp8 t).c1
        have y18 := fun t => (Ty8 t).c0
        have y28 := fun t => (Ty8 t).c1
        have q18 := fun t => (Tq8 t).c0
        have q28 := fun t => (Tq8 t).c1
        have z18 := fun t => (Tz8 t).c0
        have z28 := fun t => (Tz8 t).c1
        have r18 := fun t => (Tr8 t).c0
        have r28 := fun t => (Tr8 t).c1
        have s18 := fun t => (Ts8 t).c0
        have s28 := fun t => (Ts8 t).c1
        have t18 := fun t => (Tt8 t).c0
        have t28 := fun t => (Tt8 t).c1
        clear x07 x17 x27 x37 x47 p07 p17 p27 p37 p47 y07 y17 y27 y37 y47 q07 q17 q27 q37 q47 z07 z17 z27 z37 z47 r07 r17 r27 r37 r47 s07 s17 s27 s37 s47 Tx7 Tp7 Ty7 Tq7 Tz7 Tr7 Ts7
        repeat (go_big_quiet_step (first | (go_at_call 31; exact F8.call (cmp_D _ _ _ _ _ (by assumption) (by assumption))) | (go_at_call 30; exact F8.call (sign_D _ _ _ (by assumption))) | (go_at_call 32; exact F8.call (cmpR_D _ _ _ _ _ (by assumption) (by assumption)))))
        refine wpQuiet_nil ?_
        rintro _ ⟨t8, rfl⟩
        have B8 := Lib.hid (HB8.out t8)
        replace Tx8 := Tx8 t8
        replace Tp8 := Tp8 t8
        replace Ty8 := Ty8 t8
        replace Tq8 := Tq8 t8
        replace Tz8 := Tz8 t8
        replace Tr8 := Tr8 t8
        replace Ts8 := Ts8 t8
        replace Tt8 := Tt8 t8
        clear F8 HB8 hne8 x18 x28 p18 p28 y18 y28 q18 q28 z18 z28 r18 r28 s18 s28 t18 t28
        generalize g8 t8 = w8 at *
        clear g8
        obtain ⟨x08, x18, x28, x38, x48⟩ := id Tx8
        obtain ⟨p08, p18, p28, p38, p48⟩ := id Tp8
        obtain ⟨y08, y18, y28, y38, y48⟩ := id Ty8
        obtain ⟨q08, q18, q28, q38, q48⟩ := id Tq8
        obtain ⟨z08, z18, z28, z38, z48⟩ := id Tz8
        obtain ⟨r08, r18, r28, r38, r48⟩ := id Tr8
        obtain ⟨s08, s18, s28, s38, s48⟩ := id Ts8
        obtain ⟨t08, t18, t28, t38, t48⟩ := id Tt8
        go_wp2
        go_ret
        exact ⟨rfl, B8.out.out⟩
    · have e1' : (Rat1.ofE (N1 * D3 + N3 * D1) (D1 * D3) != 0) = true := by simpa using e1
      clear e1
      have s1 := low_of (N1 * D3 + N3 * D1) (D1 * D3)
      have s2 := low_of (N2 * D3 + N3 * D2) (D2 * D3)
      refine Qt.regionAll (by kernel_rfl) (by kernel_rfl) ?_
      intro T8 g8 F8 hne8
      have HB8 := Lib.hid (fun t => ((B7.out).alloc _).up (F8.below t))
      have Tx8 := fun t => ((Tx7).alloc _).up (F8.below t)
      have Tp8 := fun t => ((Tp7).alloc _).up (F8.below t)
      have Ty8 := fun t => ((Ty7).alloc _).up (F8.below t)
      have Tq8 := fun t => ((Tq7).alloc _).up (F8.below t)
      have Tz8 := fun t => ((Tz7).alloc _).up (F8.below t)
      have Tr8 := fun t => ((Tr7).alloc _).up (F8.below t)
      have Ts8 := fun t => ((Ts7).alloc _).up (F8.below t)
      have Tt8 := fun t => (Two.new _ _ _ _ (w7.heap.size) (by simp)).up (F8.below t)
      have x18 := fun t => (Tx8 t).c0
      have x28 := fun t => (Tx8 t).c1
      have p18 := fun t => (Tp8 t).c0
      have p28 := fun t => (Tp8 t).c1
      have y18 := fun t => (Ty8 t).c0
      have y28 := fun t => (Ty8 t).c1
      have q18 := fun t => (Tq8 t).c0
      have q28 := fun t => (Tq8 t).c1
      have z18 := fun t => (Tz8 t).c0
      have z28 := fun t => (Tz8 t).c1
      have r18 := fun t => (Tr8 t).c0
      have r28 := fun t => (Tr8 t).c1
      have s18 := fun t => (Ts8 t).c0
      have s28 := fun t => (Ts8 t).c1
      have t18 := fun t => (Tt8 t).c0
      have t28 := fun t => (Tt8 t).c1
      clear x07 x17 x27 x37 x47 p07 p17 p27 p37 p47 y07 y17 y27 y37 y47 q07 q17 q27 q37 q47 z07 z17 z27 z37 z47 r07 r17 r27 r37 r47 s07 s17 s27 s37 s47 Tx7 Tp7 Ty7 Tq7 Tz7 Tr7 Ts7
      repeat (go_big_quiet_step (first | (go_at_call 31; exact F8.call (cmp_D _ _ _ _ _ (by assumption) (by assumption))) | (go_at_call 30; exact F8.call (sign_D _ _ _ (by assumption))) | (go_at_call 32; exact F8.call (cmpR_D _ _ _ _ _ (by assumption) (by assumption)))))
      refine wpQuiet_nil ?_
      rintro _ ⟨t8, rfl⟩
      have B8 := Lib.hid (HB8.out t8)
      replace Tx8 := Tx8 t8
      replace Tp8 := Tp8 t8
      replace Ty8 := Ty8 t8
      replace Tq8 := Tq8 t8
      replace Tz8 := Tz8 t8
      replace Tr8 := Tr8 t8
      replace Ts8 := Ts8 t8
      replace Tt8 := Tt8 t8
      clear F8 HB8 hne8 x18 x28 p18 p28 y18 y28 q18 q28 z18 z28 r18 r28 s18 s28 t18 t28
      generalize g8 t8 = w8 at *
      clear g8
      obtain ⟨x08, x18, x28, x38, x48⟩ := id Tx8
      obtain ⟨p08, p18, p28, p38, p48⟩ := id Tp8
      obtain ⟨y08, y18, y28, y38, y48⟩ := id Ty8
      obtain ⟨q08, q18, q28, q38, q48⟩ := id Tq8
      obtain ⟨z08, z18, z28, z38, z48⟩ := id Tz8
      obtain ⟨r08, r18, r28, r38, r48⟩ := id Tr8
      obtain ⟨s08, s18, s28, s38, s48⟩ := id Ts8
      obtain ⟨t08, t18, t28, t38, t48⟩ := id Tt8
      go_wp2
      go_ret
      exact ⟨rfl, B8.out.out⟩
end Go.Proofs.YtgbehiagkpcoaaaDoor
