/- The walk of the law on operations that are undone. -/
import Derived.Test.YtgbehiagkpcoaaaDoorRp
namespace Go.Proofs.YtgbehiagkpcoaaaDoor
open Go.RowKit
set_option linter.unusedVariables false
set_option linter.unusedSimpArgs false


theorem low_of (n d : Int) : Rat1.Low (Rat1.ofN n d) (Rat1.ofD n d) := by
  rcases Rat1.of_cases n d with ⟨_, h⟩ | ⟨_, h1, h2⟩
  · exact h
  · rw [h1, h2]
    exact ⟨by omega, by simp [Rat1.mx], by simp, by simp⟩
theorem ofQ_of {n d : Int} (h : Rat1.ofE n d = 0) : Rat1.ofQ n d = (Rat1.ofN n d, Rat1.ofD n d, 0) := by
  unfold Rat1.ofE at h
  unfold Rat1.ofN Rat1.ofD
  rw [← h]
/-- what of returns is known, if the value is in lowest terms -/
theorem of_eq {n d a b : Int} (hl : Rat1.Low a b) (hd : d ≠ 0) (h : a * d = n * b) : Rat1.ofN n d = a ∧ Rat1.ofD n d = b ∧ Rat1.ofE n d = 0 := by
  have e := Rat1.ofQ_eq hl hd h
  unfold Rat1.ofN Rat1.ofD Rat1.ofE
  rw [e]
  exact ⟨rfl, rfl, rfl⟩
theorem back_add {a D c E : Int} (h1 : Rat1.Low a D) (h2 : Rat1.Low c E) (he : Rat1.ofE (a * E + c * D) (D * E) = 0) :
    Rat1.ofN (Rat1.ofN (a * E + c * D) (D * E) * E + -c * Rat1.ofD (a * E + c * D) (D * E)) (Rat1.ofD (a * E + c * D) (D * E) * E) = a ∧
    Rat1.ofD (Rat1.ofN (a * E + c * D) (D * E) * E + -c * Rat1.ofD (a * E + c * D) (D * E)) (Rat1.ofD (a * E + c * D) (D * E) * E) = D ∧
    Rat1.ofE (Rat1.ofN (a * E + c * D) (D * E) * E + -c * Rat1.ofD (a * E + c * D) (D * E)) (Rat1.ofD (a * E + c * D) (D * E) * E) = 0 := by
  obtain ⟨hl, hd, hq⟩ := Rat1.ofQ_low (ofQ_of he)
  have p1 := h1.pos; have p2 := h2.pos; have p3 := hl.pos
  generalize Rat1.ofN (a * E + c * D) (D * E) = S at *
  generalize Rat1.ofD (a * E + c * D) (D * E) = T at *
  have hz : T * E ≠ 0 := Int.ne_of_gt (Int.mul_pos (by omega) (by omega))
  refine of_eq h1 hz ?_
  have : E * (a * (T * E)) = E * ((S * E + -c * T) * D) := by grind
  exact Int.eq_of_mul_eq_mul_left (by omega) this
theorem back_mul {a D c E : Int} (h1 : Rat1.Low a D) (h2 : Rat1.Low c E) (hc : c ≠ 0) (he : Rat1.ofE (a * c) (D * E) = 0) :
    Rat1.ofN (Rat1.ofN (a * c) (D * E) * E) (Rat1.ofD (a * c) (D * E) * c) = a ∧ Rat1.ofD (Rat1.ofN (a * c) (D * E) * E) (Rat1.ofD (a * c) (D * E) * c) = D ∧ Rat1.ofE (Rat1.ofN (a * c) (D * E) * E) (Rat1.ofD (a * c) (D * E) * c) = 0 := by
  obtain ⟨hl, hd, hq⟩ := Rat1.ofQ_low (ofQ_of he)
  have p1 := h1.pos; have p2 := h2.pos; have p3 := hl.pos
  generalize Rat1.ofN (a * c) (D * E) = S at *
  generalize Rat1.ofD (a * c) (D * E) = T at *
  have hz : T * c ≠ 0 := by
    intro h
    rcases Int.mul_eq_zero.1 h with h | h <;> omega
  refine of_eq h1 hz ?_
  grind
theorem cmpI_zero {a : Int} (h : a ≠ 0) : (cmpI a 0 == 0) = false := by
  unfold cmpI
  split
  · rfl
  · split
    · rfl
    · omega

theorem div_Z (a D c E : Int) (w : World) (h1 : Rat1.Low a D) (h2 : Rat1.Low c E) (hz : c = 0) :
    Calls Tryd.prog 27 #[.agg #[.int .i64 a, .int .i64 (D - 1)], .agg #[.int .i64 c, .int .i64 (E - 1)]] w fun e w' => e = .returned (.tuple #[.agg #[.int .i64 0, .int .i64 0], .int .i64 15]) ∧ Below w.heap.size w w' := by
  subst hz
  obtain rfl := h2.zero
  have p1 := h1.pos; have l1 := h1.le; have m1 := h1.num
  unfold Rat1.mx at l1 m1
  exact div_zero a (D - 1) w (by omega) (by omega) (by omega) (by omega)
set_option maxRecDepth 100000 in
set_option maxHeartbeats 2000000 in
theorem law_RationalBack (a0 a1 b0 b1 : Int) (w : World) (ht : Tab w) :
    Calls Tryd.prog 6 #[.agg #[.int .i64 a0, .int .i64 a1], .agg #[.int .i64 b0, .int .i64 b1]] w fun e w' => e = .returned (.bool true) ∧ Below w.heap.size w w' := by
  have HT := Lib.hid ht
  clear ht
  go_enter Tryd.func6, Tryd.ntmps6
  go_wp2_with fail
  refine (of_fr a0 a1 _).mono ?_
  rintro e w1 ⟨N1, D1, L1, rfl, hb⟩
  have B1 := Lib.hid ((((Bel.refl w).alloc _).alloc _).up hb)
  have Ta1 := ((Two.new _ _ _ _ (w.heap.size) (by simp)).alloc _).up hb
  have Tb1 := (Two.new _ _ _ _ (w.heap.size + 1) (by simp)).up hb
  clear hb
  obtain ⟨a01, a11, a21, a31, a41⟩ := id Ta1
  obtain ⟨b01, b11, b21, b31, b41⟩ := id Tb1
  have p1 := L1.pos
  have l1 := L1.le
  have m1 := L1.num
  unfold Rat1.mx at l1 m1
  go_wp2_with fail
  refine (of_fr b0 b1 _).mono ?_
  rintro e w2 ⟨N2, D2, L2, rfl, hb⟩
  have B2 := Lib.hid ((((B1.out).alloc _).alloc _).up hb)
  have Ta2 := (((Ta1).alloc _).alloc _).up hb
  have Tb2 := (((Tb1).alloc _).alloc _).up hb
  have Tx2 := ((Two.new _ _ _ _ (w1.heap.size) (by simp)).alloc _).up hb
  clear hb Ta1 Tb1 a01 a11 a21 a31 a41 b01 b11 b21 b31 b41
  obtain ⟨a02, a12, a22, a32, a42⟩ := id Ta2
  obtain ⟨b02, b12, b22, b32, b42⟩ := id Tb2
  obtain ⟨x02, x12, x22, x32, x42⟩ := id Tx2
  have p2 := L2.pos
  have l2 := L2.le
  have m2 := L2.num
  unfold Rat1.mx at l2 m2
  go_wp2_with fail
  refine (add_D _ _ _ _ _ L1 L2).mono ?_
  rintro e w3 ⟨rfl, hb⟩
  have B3 := Lib.hid ((((B2.out).alloc _).alloc _).up hb)
  have Tx3 := (((Tx2).alloc _).alloc _).up hb
  have Ty3 := ((Two.new _ _ _ _ (w2.heap.size) (by simp)).alloc _).up hb
  clear hb Ta2 Tb2 Tx2 a02 a12 a22 a32 a42 b02 b12 b22 b32 b42 x02 x12 x22 x32 x42
  obtain ⟨x03, x13, x23, x33, x43⟩ := id Tx3
  obtain ⟨y03, y13, y23, y33, y43⟩ := id Ty3
  go_wp2_with fail
  refine (sub_D _ _ _ _ _ (low_of _ _) L2).mono ?_
  rintro e w4 ⟨rfl, hb⟩
  have B4 := Lib.hid (((B3.out).alloc _).up hb)
  have Tx4 := ((Tx3).alloc _).up hb
  have Ty4 := ((Ty3).alloc _).up hb
  have Ts4 := (Two.new _ _ _ _ (w3.heap.size) (by simp)).up hb
  clear hb Tx3 Ty3 x03 x13 x23 x33 x43 y03 y13 y23 y33 y43
  obtain ⟨x04, x14, x24, x34, x44⟩ := id Tx4
  obtain ⟨y04, y14, y24, y34, y44⟩ := id Ty4
  obtain ⟨s04, s14, s24, s34, s44⟩ := id Ts4
  go_wp2_with fail
  refine (mul_D _ _ _ _ _ L1 L2).mono ?_
  rintro e w5 ⟨rfl, hb⟩
  have B5 := Lib.hid (((B4.out).alloc _).up hb)
  have Tx5 := ((Tx4).alloc _).up hb
  have Ty5 := ((Ty4).alloc _).up hb
  have Ts5 := ((Ts4).alloc _).up hb
  have Tu5 := (Two.new _ _ _ _ (w4.heap.size) (by simp)).up hb
  clear hb Tx4 Ty4 Ts4 x04 x14 x24 x34 x44 y04 y14 y24 y34 y44 s04 s14 s24 s34 s44
  obtain ⟨x05, x15, x25, x35, x45⟩ := id Tx5
  obtain ⟨y05, y15, y25, y35, y45⟩ := id Ty5
  obtain ⟨s05, s15, s25, s35, s45⟩ := id Ts5
  obtain ⟨u05, u15, u25, u35, u45⟩ := id Tu5
  by_cases hz : N2 = 0
  · have hz' := Lib.hid hz; clear hz
    go_wp2_with fail
    refine (div_Z _ _ _ _ _ (low_of _ _) L2 hz'.out).mono ?_
    rintro e w6 ⟨rfl, hb⟩
    have B6 := Lib.hid (((B5.out).alloc _).up hb)
    have Tx6 := ((Tx5).alloc _).up hb
    have Ty6 := ((Ty5).alloc _).up hb
    have Ts6 := ((Ts5).alloc _).up hb
    have Tu6 := ((Tu5).alloc _).up hb
    have Tm6 := (Two.new _ _ _ _ (w5.heap.size) (by simp)).up hb
    clear hb Tx5 Ty5 Ts5 Tu5 x05 x15 x25 x35 x45 y05 y15 y25 y35 y45 s05 s15 s25 s35 s45 u05 u15 u25 u35 u45
    obtain ⟨x06, x16, x26, x36, x46⟩ := id Tx6
    obtain ⟨y06, y16, y26, y36, y46⟩ := id Ty6
    obtain ⟨s06, s16, s26, s36, s46⟩ := id Ts6
    obtain ⟨u06, u16, u26, u36, u46⟩ := id Tu6
    obtain ⟨m06, m16, m26, m36, m46⟩ := id Tm6
    go_wp2_with fail
    refine (known_any _ (HT.out.below (B6.out.alloc _).out)).mono ?_
    rintro e w7 ⟨rfl, hb⟩
    have B7 := Lib.hid (((B6.out).alloc _).up hb)
    have Tx7 := ((Tx6).alloc _).up hb
    have Ty7 := ((Ty6).alloc _).up hb
    have Ts7 := ((Ts6).alloc _).up hb
    have Tu7 := ((Tu6).alloc _).up hb
    have Tm7 := ((Tm6).alloc _).up hb
    have Tv7 := (Two.new _ _ _ _ (w6.heap.size) (by simp)).up hb
    clear hb Tx6 Ty6 Ts6 Tu6 Tm6 x06 x16 x26 x36 x46 y06 y16 y26 y36 y46 s06 s16 s26 s36 s46 u06 u16 u26 u36 u46 m06 m16 m26 m36 m46
    obtain ⟨x07, x17, x27, x37, x47⟩ := id Tx7
    obtain ⟨y07, y17, y27, y37, y47⟩ := id Ty7
    obtain ⟨s07, s17, s27, s37, s47⟩ := id Ts7
    obtain ⟨u07, u17, u27, u37, u47⟩ := id Tu7
    obtain ⟨m07, m17, m27, m37, m47⟩ := id Tm7
    obtain ⟨v07, v17, v27, v37, v47⟩ := id Tv7
    by_cases hE : Rat1.ofE (N1 * D2 + N2 * D1) (D1 * D2) = 0
    · obtain ⟨j1, j2, j3⟩ := back_add L1 L2 hE
      by_cases hG : Rat1.ofE (N1 * N2) (D1 * D2) = 0
      · have hG' : (Rat1.ofE (N1 * N2) (D1 * D2) == 0) = true := by simpa using hG
        go_wp2_with fail
        refine (sign_D _ _ _ L2).mono ?_
        rintro e w8 ⟨rfl, hb⟩
        have B8 := Lib.hid ((B7.out).up hb)
        have Tx8 := (Tx7).up hb
        have Ty8 := (Ty7).up hb
        have Ts8 := (Ts7).up hb
        have Tu8 := (Tu7).up hb
        have Tm8 := (Tm7).up hb
        have Tv8 := (Tv7).up hb
        clear hb Tx7 Ty7 Ts7 Tu7 Tm7 Tv7 x07 x17 x27 x37 x47 y07 y17 y27 y37 y47 s07 s17 s27 s37 s47 u07 u17 u27 u37 u47 m07 m17 m27 m37 m47 v07 v17 v27 v37 v47
        obtain ⟨x08, x18, x28, x38, x48⟩ := id Tx8
        obtain ⟨y08, y18, y28, y38, y48⟩ := id Ty8
        obtain ⟨s08, s18, s28, s38, s48⟩ := id Ts8
        obtain ⟨u08, u18, u28, u38, u48⟩ := id Tu8
        obtain ⟨m08, m18, m28, m38, m48⟩ := id Tm8
        obtain ⟨v08, v18, v28, v38, v48⟩ := id Tv8
        have hs : cmpI N2 0 = 0 := by rw [hz'.out]; simp [cmpI]
        go_wp2
        go_ret
        exact ⟨rfl, B8.out.out⟩
      · have hG' : (Rat1.ofE (N1 * N2) (D1 * D2) == 0) = false := by simpa using hG
        go_wp2
        go_ret
        exact ⟨rfl, B7.out.out⟩
    · have hE' : (Rat1.ofE (N1 * D2 + N2 * D1) (D1 * D2) == 0) = false := by simpa using hE
      by_cases hG : Rat1.ofE (N1 * N2) (D1 * D2) = 0
      · have hG' : (Rat1.ofE (N1 * N2) (D1 * D2) == 0) = true := by simpa using hG
        go_wp2_with fail
        refine (sign_D _ _ _ L2).mono ?_
        rintro e w8 ⟨rfl, hb⟩
        have B8 := Lib.hid ((B7.out).up hb)
        have Tx8 := (Tx7).up hb
        have Ty8 := (Ty7).up hb
        have Ts8 := (Ts7).up hb
        have Tu8 := (Tu7).up hb
        have Tm8 := (Tm7).up hb
        have Tv8 := (Tv7).up hb
        clear hb Tx7 Ty7 Ts7 Tu7 Tm7 Tv7 x07 x17 x27 x37 x47 y07 y17 y27 y37 y47 s07 s17 s27 s37 s47 u07 u17 u27 u37 u47 m07 m17 m27 m37 m47 v07 v17 v27 v37 v47
        obtain ⟨x08, x18, x28, x38, x48⟩ := id Tx8
        obtain ⟨y08, y18, y28, y38, y48⟩ := id Ty8
        obtain ⟨s08, s18, s28, s38, s48⟩ := id Ts8
        obtain ⟨u08, u18, u28, u38, u48⟩ := id Tu8
        obtain ⟨m08, m18, m28, m38, m48⟩ := id Tm8
        obtain ⟨v08, v18, v28, v38, v48⟩ := id Tv8
        have hs : cmpI N2 0 = 0 := by rw [hz'.out]; simp [cmpI]
        go_wp2
        go_ret
        exact ⟨rfl, B8.out.out⟩
      · have hG' : (Rat1.ofE (N1 * N2) (D1 * D2) == 0) = false := by simpa using hG
        go_wp2
        go_ret
        exact ⟨rfl, B7.out.out⟩
  · have hz' : (N2 == 0) = false := by simpa using hz
    go_wp2_with fail
    refine (div_D _ _ _ _ _ (low_of _ _) L2 hz').mono ?_
    rintro e w6 ⟨rfl, hb⟩
    have B6 := Lib.hid (((B5.out).alloc _).up hb)
    have Tx6 := ((Tx5).alloc _).up hb
    have Ty6 := ((Ty5).alloc _).up hb
    have Ts6 := ((Ts5).alloc _).up hb
    have Tu6 := ((Tu5).alloc _).up hb
    have Tm6 := (Two.new _ _ _ _ (w5.heap.size) (by simp)).up hb
    clear hb Tx5 Ty5 Ts5 Tu5 x05 x15 x25 x35 x45 y05 y15 y25 y35 y45 s05 s15 s25 s35 s45 u05 u15 u25 u35 u45
    obtain ⟨x06, x16, x26, x36, x46⟩ := id Tx6
    obtain ⟨y06, y16, y26, y36, y46⟩ := id Ty6
    obtain ⟨s06, s16, s26, s36, s46⟩ := id Ts6
    obtain ⟨u06, u16, u26, u36, u46⟩ := id Tu6
    obtain ⟨m06, m16, m26, m36, m46⟩ := id Tm6
    go_wp2_with fail
    refine (known_any _ (HT.out.below (B6.out.alloc _).out)).mono ?_
    rintro e w7 ⟨rfl, hb⟩
    have B7 := Lib.hid (((B6.out).alloc _).up hb)
    have Tx7 := ((Tx6).alloc _).up hb
    have Ty7 := ((Ty6).alloc _).up hb
    have Ts7 := ((Ts6).alloc _).up hb
    have Tu7 := ((Tu6).alloc _).up hb
    have Tm7 := ((Tm6).alloc _).up hb
    have Tv7 := (Two.new _ _ _ _ (w6.heap.size) (by simp)).up hb
    clear hb Tx6 Ty6 Ts6 Tu6 Tm6 x06 x16 x26 x36 x46 y06 y16 y26 y36 y46 s06 s16 s26 s36 s46 u06 u16 u26 u36 u46 m06 m16 m26 m36 m46
    obtain ⟨x07, x17, x27, x37, x47⟩ := id Tx7
    obtain ⟨y07, y17, y27, y37, y47⟩ := id Ty7
    obtain ⟨s07, s17, s27, s37, s47⟩ := id Ts7
    obtain ⟨u07, u17, u27, u37, u47⟩ := id Tu7
    obtain ⟨m07, m17, m27, m37, m47⟩ := id Tm7
    obtain ⟨v07, v17, v27, v37, v47⟩ := id Tv7
    by_cases hE : Rat1.ofE (N1 * D2 + N2 * D1) (D1 * D2) = 0
    · obtain ⟨j1, j2, j3⟩ := back_add L1 L2 hE
      by_cases hG : Rat1.ofE (N1 * N2) (D1 * D2) = 0
      · obtain ⟨k1, k2, k3⟩ := back_mul L1 L2 hz hG
        go_wp2_with fail
        refine (sign_D _ _ _ L2).mono ?_
        rintro e w8 ⟨rfl, hb⟩
        have B8 := Lib.hid ((B7.out).up hb)
        have Tx8 := (Tx7).up hb
        have Ty8 := (Ty7).up hb
        have Ts8 := (Ts7).up hb
        have Tu8 := (Tu7).up hb
        have Tm8 := (Tm7).up hb
        have Tv8 := (Tv7).up hb
        clear hb Tx7 Ty7 Ts7 Tu7 Tm7 Tv7 x07 x17 x27 x37 x47 y07 y17 y27 y37 y47 s07 s17 s27 s37 s47 u07 u17 u27 u37 u47 m07 m17 m27 m37 m47 v07 v17 v27 v37 v47
        obtain ⟨x08, x18, x28, x38, x48⟩ := id Tx8
        obtain ⟨y08, y18, y28, y38, y48⟩ := id Ty8
        obtain ⟨s08, s18, s28, s38, s48⟩ := id Ts8
        obtain ⟨u08, u18, u28, u38, u48⟩ := id Tu8
        obtain ⟨m08, m18, m28, m38, m48⟩ := id Tm8
        obtain ⟨v08, v18, v28, v38, v48⟩ := id Tv8
        have hs := cmpI_zero hz
        go_wp2
        go_ret
        exact ⟨rfl, B8.out.out⟩
      · have hG' : (Rat1.ofE (N1 * N2) (D1 * D2) == 0) = false := by simpa using hG
        go_wp2
        go_ret
        exact ⟨rfl, B7.out.out⟩
    · have hE' : (Rat1.ofE (N1 * D2 + N2 * D1) (D1 * D2) == 0) = false := by simpa using hE
      by_cases hG : Rat1.ofE (N1 * N2) (D1 * D2) = 0
      · obtain ⟨k1, k2, k3⟩ := back_mul L1 L2 hz hG
        go_wp2_with fail
        refine (sign_D _ _ _ L2).mono ?_
        rintro e w8 ⟨rfl, hb⟩
        have B8 := Lib.hid ((B7.out).up hb)
        have Tx8 := (Tx7).up hb
        have Ty8 := (Ty7).up hb
        have Ts8 := (Ts7).up hb
        have Tu8 := (Tu7).up hb
        have Tm8 := (Tm7).up hb
        have Tv8 := (Tv7).up hb
        clear hb Tx7 Ty7 Ts7 Tu7 Tm7 Tv7 x07 x17 x27 x37 x47 y07 y17 y27 y37 y47 s07 s17 s27 s37 s47 u07 u17 u27 u37 u47 m07 m17 m27 m37 m47 v07 v17 v27 v37 v47
        obtain ⟨x08, x18, x28, x38, x48⟩ := id Tx8
        obtain ⟨y08, y18, y28, y38, y48⟩ := id Ty8
        obtain ⟨s08, s18, s28, s38, s48⟩ := id Ts8
        obtain ⟨u08, u18, u28, u38, u48⟩ := id Tu8
        obtain ⟨m08, m18, m28, m38, m48⟩ := id Tm8
        obtain ⟨v08, v18, v28, v38, v48⟩ := id Tv8
        have hs := cmpI_zero hz
        go_wp2
        go_ret
        exact ⟨rfl, B8.out.out⟩
      · have hG' : (Rat1.ofE (N1 * N2) (D1 * D2) == 0) = false := by simpa using hG
        go_wp2
        go_ret
        exact ⟨rfl, B7.out.out⟩
end Go.Proofs.YtgbehiagkpcoaaaDoor
