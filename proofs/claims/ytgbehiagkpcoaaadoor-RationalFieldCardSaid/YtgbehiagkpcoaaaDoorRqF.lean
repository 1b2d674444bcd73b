/- The walk of the law on sums and products. -/
import Derived.Test.YtgbehiagkpcoaaaDoorRqF0
namespace Go.Proofs.YtgbehiagkpcoaaaDoor
open Go.RowKit
set_option linter.unusedVariables false
set_option linter.unusedSimpArgs false

set_option maxRecDepth 100000 in
set_option maxHeartbeats 8000000 in
theorem law_RationalField (a0 a1 b0 b1 c0 c1 : Int) (w : World) (ht : Tab w) :
    Calls Tryd.prog 5 #[.agg #[.int .i64 a0, .int .i64 a1], .agg #[.int .i64 b0, .int .i64 b1], .agg #[.int .i64 c0, .int .i64 c1]] w fun e w' => e = .returned (.bool true) ∧ Below w.heap.size w w' := by
  have HT := Lib.hid ht
  clear ht
  go_enter Tryd.func5, Tryd.ntmps5
  go_wp2_with fail
  refine (of_fr a0 a1 _).mono ?_
  rintro e w1 ⟨N1, D1, L1, rfl, hb⟩
  have B1 := Lib.hid (((((Bel.refl w).alloc _).alloc _).alloc _).up hb)
  have Ta1 := (((Two.new _ _ _ _ (w.heap.size) (by simp)).alloc _).alloc _).up hb
  have Tb1 := ((Two.new _ _ _ _ (w.heap.size + 1) (by simp)).alloc _).up hb
  have Tc1 := (Two.new _ _ _ _ (w.heap.size + 1 + 1) (by simp)).up hb
  clear hb
  obtain ⟨a01, a11, a21, a31, a41⟩ := id Ta1
  obtain ⟨b01, b11, b21, b31, b41⟩ := id Tb1
  obtain ⟨c01, c11, c21, c31, c41⟩ := id Tc1
  have p1 := L1.pos
  have l1 := L1.le
  have m1 := L1.num
  unfold Rat1.mx at l1 m1
  go_wp2_with fail
  refine (of_fr b0 b1 _).mono ?_
  rintro e w2 ⟨N2, D2, L2, rfl, hb⟩
  have B2 := Lib.hid ((((B1.out).alloc _).alloc _).up hb)
  have Ta2 := (((Ta1).alloc _).alloc _).up hb
  have Tb2 := (((Tb1).alloc _).alloc _).up hb
  have Tc2 := (((Tc1).alloc _).alloc _).up hb
  have Tx2 := ((Two.new _ _ _ _ (w1.heap.size) (by simp)).alloc _).up hb
  clear hb Ta1 Tb1 Tc1 a01 a11 a21 a31 a41 b01 b11 b21 b31 b41 c01 c11 c21 c31 c41
  obtain ⟨a02, a12, a22, a32, a42⟩ := id Ta2
  obtain ⟨b02, b12, b22, b32, b42⟩ := id Tb2
  obtain ⟨c02, c12, c22, c32, c42⟩ := id Tc2
  obtain ⟨x02, x12, x22, x32, x42⟩ := id Tx2
  have p2 := L2.pos
  have l2 := L2.le
  have m2 := L2.num
  unfold Rat1.mx at l2 m2
  go_wp2_with fail
  refine (of_fr c0 c1 _).mono ?_
  rintro e w3 ⟨N3, D3, L3, rfl, hb⟩
  have B3 := Lib.hid ((((B2.out).alloc _).alloc _).up hb)
  have Ta3 := (((Ta2).alloc _).alloc _).up hb
  have Tb3 := (((Tb2).alloc _).alloc _).up hb
  have Tc3 := (((Tc2).alloc _).alloc _).up hb
  have Tx3 := (((Tx2).alloc _).alloc _).up hb
  have Ty3 := ((Two.new _ _ _ _ (w2.heap.size) (by simp)).alloc _).up hb
  clear hb Ta2 Tb2 Tc2 Tx2 a02 a12 a22 a32 a42 b02 b12 b22 b32 b42 c02 c12 c22 c32 c42 x02 x12 x22 x32 x42
  obtain ⟨a03, a13, a23, a33, a43⟩ := id Ta3
  obtain ⟨b03, b13, b23, b33, b43⟩ := id Tb3
  obtain ⟨c03, c13, c23, c33, c43⟩ := id Tc3
  obtain ⟨x03, x13, x23, x33, x43⟩ := id Tx3
  obtain ⟨y03, y13, y23, y33, y43⟩ := id Ty3
  have p3 := L3.pos
  have l3 := L3.le
  have m3 := L3.num
  unfold Rat1.mx at l3 m3
  go_wp2_with fail
  refine (add_D _ _ _ _ _ L1 L2).mono ?_
  rintro e w4 ⟨rfl, hb⟩
  have B4 := Lib.hid ((((B3.out).alloc _).alloc _).up hb)
  have Tx4 := (((Tx3).alloc _).alloc _).up hb
  have Ty4 := (((Ty3).alloc _).alloc _).up hb
  have Tz4 := ((Two.new _ _ _ _ (w3.heap.size) (by simp)).alloc _).up hb
  clear hb Ta3 Tb3 Tc3 Tx3 Ty3 a03 a13 a23 a33 a43 b03 b13 b23 b33 b43 c03 c13 c23 c33 c43 x03 x13 x23 x33 x43 y03 y13 y23 y33 y43
  obtain ⟨x04, x14, x24, x34, x44⟩ := id Tx4
  obtain ⟨y04, y14, y24, y34, y44⟩ := id Ty4
  obtain ⟨z04, z14, z24, z34, z44⟩ := id Tz4
  go_wp2_with fail
  refine (add_D _ _ _ _ _ L2 L1).mono ?_
  rintro e w5 ⟨rfl, hb⟩
  have B5 := Lib.hid (((B4.out).alloc _).up hb)
  have Tx5 := ((Tx4).alloc _).up hb
  have Ty5 := ((Ty4).alloc _).up hb
  have Tz5 := ((Tz4).alloc _).up hb
  have Ts5 := (Two.new _ _ _ _ (w4.heap.size) (by simp)).up hb
  clear hb Tx4 Ty4 Tz4 x04 x14 x24 x34 x44 y04 y14 y24 y34 y44 z04 z14 z24 z34 z44
  obtain ⟨x05, x15, x25, x35, x45⟩ := id Tx5
  obtain ⟨y05, y15, y25, y35, y45⟩ := id Ty5
  obtain ⟨z05, z15, z25, z35, z45⟩ := id Tz5
  obtain ⟨s05, s15, s25, s35, s45⟩ := id Ts5
  obtain ⟨c1, c2, c3⟩ := of_comm (show N1 * D2 + N2 * D1 = N2 * D1 + N1 * D2 by omega) (Int.mul_comm D1 D2)
  go_wp2_with fail
  refine (mul_D _ _ _ _ _ L1 L2).mono ?_
  rintro e w6 ⟨rfl, hb⟩
  have B6 := Lib.hid (((B5.out).alloc _).up hb)
  have Tx6 := ((Tx5).alloc _).up hb
  have Ty6 := ((Ty5).alloc _).up hb
  have Tz6 := ((Tz5).alloc _).up hb
  have Ts6 := ((Ts5).alloc _).up hb
  have Tt6 := (Two.new _ _ _ _ (w5.heap.size) (by simp)).up hb
  clear hb Tx5 Ty5 Tz5 Ts5 x05 x15 x25 x35 x45 y05 y15 y25 y35 y45 z05 z15 z25 z35 z45 s05 s15 s25 s35 s45
  obtain ⟨x06, x16, x26, x36, x46⟩ := id Tx6
  obtain ⟨y06, y16, y26, y36, y46⟩ := id Ty6
  obtain ⟨z06, z16, z26, z36, z46⟩ := id Tz6
  obtain ⟨s06, s16, s26, s36, s46⟩ := id Ts6
  obtain ⟨t06, t16, t26, t36, t46⟩ := id Tt6
  go_wp2_with fail
  refine (mul_D _ _ _ _ _ L2 L1).mono ?_
  rintro e w7 ⟨rfl, hb⟩
  have B7 := Lib.hid (((B6.out).alloc _).up hb)
  have Tx7 := ((Tx6).alloc _).up hb
  have Ty7 := ((Ty6).alloc _).up hb
  have Tz7 := ((Tz6).alloc _).up hb
  have Ts7 := ((Ts6).alloc _).up hb
  have Tt7 := ((Tt6).alloc _).up hb
  have Tu7 := (Two.new _ _ _ _ (w6.heap.size) (by simp)).up hb
  clear hb Tx6 Ty6 Tz6 Ts6 Tt6 x06 x16 x26 x36 x46 y06 y16 y26 y36 y46 z06 z16 z26 z36 z46 s06 s16 s26 s36 s46 t06 t16 t26 t36 t46
  obtain ⟨x07, x17, x27, x37, x47⟩ := id Tx7
  obtain ⟨y07, y17, y27, y37, y47⟩ := id Ty7
  obtain ⟨z07, z17, z27, z37, z47⟩ := id Tz7
  obtain ⟨s07, s17, s27, s37, s47⟩ := id Ts7
  obtain ⟨t07, t17, t27, t37, t47⟩ := id Tt7
  obtain ⟨u07, u17, u27, u37, u47⟩ := id Tu7
  obtain ⟨c4, c5, c6⟩ := of_comm (Int.mul_comm N1 N2) (Int.mul_comm D1 D2)
  go_wp2_with fail
  refine (known_any _ (HT.out.below (B7.out.alloc _).out)).mono ?_
  rintro e w8 ⟨rfl, hb⟩
  have B8 := Lib.hid (((B7.out).alloc _).up hb)
  have Tx8 := ((Tx7).alloc _).up hb
  have Ty8 := ((Ty7).alloc _).up hb
  have Tz8 := ((Tz7).alloc _).up hb
  have Ts8 := ((Ts7).alloc _).up hb
  have Tt8 := ((Tt7).alloc _).up hb
  have Tu8 := ((Tu7).alloc _).up hb
  have Tv8 := (Two.new _ _ _ _ (w7.heap.size) (by simp)).up hb
  clear hb Tx7 Ty7 Tz7 Ts7 Tt7 Tu7 x07 x17 x27 x37 x47 y07 y17 y27 y37 y47 z07 z17 z27 z37 z47 s07 s17 s27 s37 s47 t07 t17 t27 t37 t47 u07 u17 u27 u37 u47
  obtain ⟨x08, x18, x28, x38, x48⟩ := id Tx8
  obtain ⟨y08, y18, y28, y38, y48⟩ := id Ty8
  obtain ⟨z08, z18, z28, z38, z48⟩ := id Tz8
  obtain ⟨s08, s18, s28, s38, s48⟩ := id Ts8
  obtain ⟨t08, t18, t28, t38, t48⟩ := id Tt8
  obtain ⟨u08, u18, u28, u38, u48⟩ := id Tu8
  obtain ⟨v08, v18, v28, v38, v48⟩ := id Tv8
  go_wp2_with fail
  refine (add_D _ _ _ _ _ L2 L3).mono ?_
  rintro e w9 ⟨rfl, hb⟩
  have B9 := Lib.hid ((B8.out).up hb)
  have Tx9 := (Tx8).up hb
  have Ty9 := (Ty8).up hb
  have Tz9 := (Tz8).up hb
  have Ts9 := (Ts8).up hb
  have Tt9 := (Tt8).up hb
  have Tu9 := (Tu8).up hb
  have Tv9 := (Tv8).up hb
  clear hb Tx8 Ty8 Tz8 Ts8 Tt8 Tu8 Tv8 x08 x18 x28 x38 x48 y08 y18 y28 y38 y48 z08 z18 z28 z38 z48 s08 s18 s28 s38 s48 t08 t18 t28 t38 t48 u08 u18 u28 u38 u48 v08 v18 v28 v38 v48
  obtain ⟨x09, x19, x29, x39, x49⟩ := id Tx9
  obtain ⟨y09, y19, y29, y39, y49⟩ := id Ty9
  obtain ⟨z09, z19, z29, z39, z49⟩ := id Tz9
  obtain ⟨s09, s19, s29, s39, s49⟩ := id Ts9
  obtain ⟨t09, t19, t29, t39, t49⟩ := id Tt9
  obtain ⟨u09, u19, u29, u39, u49⟩ := id Tu9
  obtain ⟨v09, v19, v29, v39, v49⟩ := id Tv9
  clear c1 c2 c3 c4 c5 c6
  go_wp2_with fail
  refine (add_D _ _ _ _ _ (low_of _ _) L3).mono ?_
  rintro e w10 ⟨rfl, hb⟩
  have B10 := Lib.hid (((B9.out).alloc _).up hb)
  have Tx10 := ((Tx9).alloc _).up hb
  have Ty10 := ((Ty9).alloc _).up hb
  have Tz10 := ((Tz9).alloc _).up hb
  have Ts10 := ((Ts9).alloc _).up hb
  have Tu10 := ((Tu9).alloc _).up hb
  have Td10 := (Two.new _ _ _ _ (w9.heap.size) (by simp)).up hb
  clear hb Tx9 Ty9 Tz9 Ts9 Tt9 Tu9 Tv9 x09 x19 x29 x39 x49 y09 y19 y29 y39 y49 z09 z19 z29 z39 z49 s09 s19 s29 s39 s49 t09 t19 t29 t39 t49 u09 u19 u29 u39 u49 v09 v19 v29 v39 v49
  obtain ⟨x010, x110, x210, x310, x410⟩ := id Tx10
  obtain ⟨y010, y110, y210, y310, y410⟩ := id Ty10
  obtain ⟨z010, z110, z210, z310, z410⟩ := id Tz10
  obtain ⟨s010, s110, s210, s310, s410⟩ := id Ts10
  obtain ⟨u010, u110, u210, u310, u410⟩ := id Tu10
  obtain ⟨d010, d110, d210, d310, d410⟩ := id Td10
  go_wp2_with fail
  refine (add_D _ _ _ _ _ L1 (low_of _ _)).mono ?_
  rintro e w11 ⟨rfl, hb⟩
  have B11 := Lib.hid (((B10.out).alloc _).up hb)
  have Tx11 := ((Tx10).alloc _).up hb
  have Ty11 := ((Ty10).alloc _).up hb
  have Tz11 := ((Tz10).alloc _).up hb
  have Ts11 := ((Ts10).alloc _).up hb
  have Tu11 := ((Tu10).alloc _).up hb
  have Td11 := ((Td10).alloc _).up hb
  have Te11 := (Two.new _ _ _ _ (w10.heap.size) (by simp)).up hb
  clear hb Tx10 Ty10 Tz10 Ts10 Tu10 Td10 x010 x110 x210 x310 x410 y010 y110 y210 y310 y410 z010 z110 z210 z310 z410 s010 s110 s210 s310 s410 u010 u110 u210 u310 u410 d010 d110 d210 d310 d410
  obtain ⟨x011, x111, x211, x311, x411⟩ := id Tx11
  obtain ⟨y011, y111, y211, y311, y411⟩ := id Ty11
  obtain ⟨z011, z111, z211, z311, z411⟩ := id Tz11
  obtain ⟨s011, s111, s211, s311, s411⟩ := id Ts11
  obtain ⟨u011, u111, u211, u311, u411⟩ := id Tu11
  obtain ⟨d011, d111, d211, d311, d411⟩ := id Td11
  obtain ⟨e011, e111, e211, e311, e411⟩ := id Te11
  by_cases e1 : Rat1.ofE (N1 * D2 + N2 * D1) (D1 * D2) = 0
  · have e1' : (Rat1.ofE (N1 * D2 + N2 * D1) (D1 * D2) == 0) = true := by simpa using e1
    by_cases i1 : Rat1.ofE (N2 * D3 + N3 * D2) (D2 * D3) = 0
    · have i1' : (Rat1.ofE (N2 * D3 + N3 * D2) (D2 * D3) == 0) = true := by simpa using i1
      by_cases j1 : Rat1.ofE (Rat1.ofN (N1 * D2 + N2 * D1) (D1 * D2) * D3 + N3 * Rat1.ofD (N1 * D2 + N2 * D1) (D1 * D2)) (Rat1.ofD (N1 * D2 + N2 * D1) (D1 * D2) * D3) = 0
      · have j1' : (Rat1.ofE (Rat1.ofN (N1 * D2 + N2 * D1) (D1 * D2) * D3 + N3 * Rat1.ofD (N1 * D2 + N2 * D1) (D1 * D2)) (Rat1.ofD (N1 * D2 + N2 * D1) (D1 * D2) * D3) == 0) = true := by simpa using j1
        obtain ⟨as1, as2, as3⟩ := assoc_add L1 L2 L3 e1 i1 j1
        clear j1 e1
        go_wp2_with fail
        refine (mul_D _ _ _ _ _ L1 L3).mono ?_
        rintro e w12 ⟨rfl, hb⟩
        have B12 := Lib.hid (((B11.out).alloc _).up hb)
        have Tx12 := ((Tx11).alloc _).up hb
        have Ty12 := ((Ty11).alloc _).up hb
        have Tz12 := ((Tz11).alloc _).up hb
        have Ts12 := ((Ts11).alloc _).up hb
        have Tu12 := ((Tu11).alloc _).up hb
        have Td12 := ((Td11).alloc _).up hb
        have Te12 := ((Te11).alloc _).up hb
        have Tf12 := (Two.new _ _ _ _ (w11.heap.size) (by simp)).up hb
        clear hb Tx11 Ty11 Tz11 Ts11 Tu11 Td11 Te11 x011 x111 x211 x311 x411 y011 y111 y211 y311 y411 z011 z111 z211 z311 z411 s011 s111 s211 s311 s411 u011 u111 u211 u311 u411 d011 d111 d211 d311 d411 e011 e111 e211 e311 e411
        obtain ⟨x012, x112, x212, x312, x412⟩ := id Tx12
        obtain ⟨y012, y112, y212, y312, y412⟩ := id Ty12
        obtain ⟨z012, z112, z212, z312, z412⟩ := id Tz12
        obtain ⟨s012, s112, s212, s312, s412⟩ := id Ts12
        obtain ⟨u012, u112, u212, u312, u412⟩ := id Tu12
        obtain ⟨d012, d112, d212, d312, d412⟩ := id Td12
        obtain ⟨e012, e112, e212, e312, e412⟩ := id Te12
        obtain ⟨f012, f112, f212, f312, f412⟩ := id Tf12
        go_wp2_with fail
        refine (mul_D _ _ _ _ _ L1 (low_of _ _)).mono ?_
        rintro e w13 ⟨rfl, hb⟩
        have B13 := Lib.hid (((B12.out).alloc _).up hb)
        have Tx13 := ((Tx12).alloc _).up hb
        have Ty13 := ((Ty12).alloc _).up hb
        have Tz13 := ((Tz12).alloc _).up hb
        have Ts13 := ((Ts12).alloc _).up hb
        have Tu13 := ((Tu12).alloc _).up hb
        have Td13 := ((Td12).alloc _).up hb
        have Te13 := ((Te12).alloc _).up hb
        have Tf13 := ((Tf12).alloc _).up hb
        have Tg13 := (Two.new _ _ _ _ (w12.heap.size) (by simp)).up hb
        clear hb Tx12 Ty12 Tz12 Ts12 Tu12 Td12 Te12 Tf12 x012 x112 x212 x312 x412 y012 y112 y212 y312 y412 z012 z112 z212 z312 z412 s012 s112 s212 s312 s412 u012 u112 u212 u312 u412 d012 d112 d212 d312 d412 e012 e112 e212 e312 e412 f012 f112 f212 f312 f412
        obtain ⟨x013, x113, x213, x313, x413⟩ := id Tx13
        obtain ⟨y013, y113, y213, y313, y413⟩ := id Ty13
        obtain ⟨z013, z113, z213, z313, z413⟩ := id Tz13
        obtain ⟨s013, s113, s213, s313, s413⟩ := id Ts13
        obtain ⟨u013, u113, u213, u313, u413⟩ := id Tu13
        obtain ⟨d013, d113, d213, d313, d413⟩ := id Td13
        obtain ⟨e013, e113, e213, e313, e413⟩ := id Te13
        obtain ⟨f013, f113, f213, f313, f413⟩ := id Tf13
        obtain ⟨g013, g113, g213, g313, g413⟩ := id Tg13
        go_wp2_with fail
        refine (add_D _ _ _ _ _ (low_of _ _) (low_of _ _)).mono ?_
        rintro e w14 ⟨rfl, hb⟩
        have B14 := Lib.hid (((B13.out).alloc _).up hb)
        have Tx14 := ((Tx13).alloc _).up hb
        have Ty14 := ((Ty13).alloc _).up hb
        have Tz14 := ((Tz13).alloc _).up hb
        have Ts14 := ((Ts13).alloc _).up hb
        have Tu14 := ((Tu13).alloc _).up hb
        have Td14 := ((Td13).alloc _).up hb
        have Te14 := ((Te13).alloc _).up hb
        have Tf14 := ((Tf13).alloc _).up hb
        have Tg14 := ((Tg13).alloc _).up hb
        have Th14 := (Two.new _ _ _ _ (w13.heap.size) (by simp)).up hb
        clear hb Tx13 Ty13 Tz13 Ts13 Tu13 Td13 Te13 Tf13 Tg13 x013 x113 x213 x313 x413 y013 y113 y213 y313 y413 z013 z113 z213 z313 z413 s013 s113 s213 s313 s413 u013 u113 u213 u313 u413 d013 d113 d213 d313 d413 e013 e113 e213 e313 e413 f013 f113 f213 f313 f413 g013 g113 g213 g313 g413
        obtain ⟨x014, x114, x214, x314, x414⟩ := id Tx14
        obtain ⟨y014, y114, y214, y314, y414⟩ := id Ty14
        obtain ⟨z014, z114, z214, z314, z414⟩ := id Tz14
        obtain ⟨s014, s114, s214, s314, s414⟩ := id Ts14
        obtain ⟨u014, u114, u214, u314, u414⟩ := id Tu14
        obtain ⟨d014, d114, d214, d314, d414⟩ := id Td14
        obtain ⟨e014, e114, e214, e314, e414⟩ := id Te14
        obtain ⟨f014, f114, f214, f314, f414⟩ := id Tf14
        obtain ⟨g014, g114, g214, g314, g414⟩ := id Tg14
        obtain ⟨h014, h114, h214, h314, h414⟩ := id Th14
        have i1' : (Rat1.ofE (N2 * D3 + N3 * D2) (D2 * D3) != 0) = false := by simpa using i1
        by_cases g1 : Rat1.ofE (N1 * N2) (D1 * D2) = 0
        · have g1' : (Rat1.ofE (N1 * N2) (D1 * D2) != 0) = false := by simpa using g1
          by_cases o1 : Rat1.ofE (N1 * N3) (D1 * D3) = 0
          · have o1' : (Rat1.ofE (N1 * N3) (D1 * D3) != 0) = false := by simpa using o1
            by_cases q1 : Rat1.ofE (N1 * Rat1.ofN (N2 * D3 + N3 * D2) (D2 * D3)) (D1 * Rat1.ofD (N2 * D3 + N3 * D2) (D2 * D3)) = Rat1.ofE (Rat1.ofN (N1 * N2) (D1 * D2) * Rat1.ofD (N1 * N3) (D1 * D3) + Rat1.ofN (N1 * N3) (D1 * D3) * Rat1.ofD (N1 * N2) (D1 * D2)) (Rat1.ofD (N1 * N2) (D1 * D2) * Rat1.ofD (N1 * N3) (D1 * D3))
            · obtain ⟨k1, k2⟩ := distrib L1 L2 L3 i1 g1 o1 q1
              have q2 : (Rat1.ofE (N1 * Rat1.ofN (N2 * D3 + N3 * D2) (D2 * D3)) (D1 * Rat1.ofD (N2 * D3 + N3 * D2) (D2 * D3)) != Rat1.ofE (Rat1.ofN (N1 * N2) (D1 * D2) * Rat1.ofD (N1 * N3) (D1 * D3) + Rat1.ofN (N1 * N3) (D1 * D3) * Rat1.ofD (N1 * N2) (D1 * D2)) (Rat1.ofD (N1 * N2) (D1 * D2) * Rat1.ofD (N1 * N3) (D1 * D3))) = false := by simpa using q1
              clear q1 i1 g1 o1
              go_wp2
              go_ret
              exact ⟨rfl, (show Bel w _ by repeat (first | exact B14.out | refine Bel.alloc ?_ _))⟩
            · have q2 : (Rat1.ofE (N1 * Rat1.ofN (N2 * D3 + N3 * D2) (D2 * D3)) (D1 * Rat1.ofD (N2 * D3 + N3 * D2) (D2 * D3)) != Rat1.ofE (Rat1.ofN (N1 * N2) (D1 * D2) * Rat1.ofD (N1 * N3) (D1 * D3) + Rat1.ofN (N1 * N3) (D1 * D3) * Rat1.ofD (N1 * N2) (D1 * D2)) (Rat1.ofD (N1 * N2) (D1 * D2) * Rat1.ofD (N1 * N3) (D1 * D3))) = true := by simpa using q1
              clear q1 i1 g1 o1
              go_wp2
              go_ret
              exact ⟨rfl, (show Bel w _ by repeat (first | exact B14.out | refine Bel.alloc ?_ _))⟩
          · have o1' : (Rat1.ofE (N1 * N3) (D1 * D3) != 0) = true := by simpa using o1
            clear o1
            go_wp2
            go_ret
            exact ⟨rfl, (show Bel w _ by repeat (first | exact B14.out | refine Bel.alloc ?_ _))⟩
        · have g1' : (Rat1.ofE (N1 * N2) (D1 * D2) != 0) = true := by simpa using g1
          clear g1
          go_wp2
          go_ret
          exact ⟨rfl, (show Bel w _ by repeat (first | exact B14.out | refine Bel.alloc ?_ _))⟩
      · have j1' : (Rat1.ofE (Rat1.ofN (N1 * D2 + N2 * D1) (D1 * D2) * D3 + N3 * Rat1.ofD (N1 * D2 + N2 * D1) (D1 * D2)) (Rat1.ofD (N1 * D2 + N2 * D1) (D1 * D2) * D3) == 0) = false := by simpa using j1
        clear j1
        go_wp2_with fail
        refine (mul_D _ _ _ _ _ L1 L3).mono ?_
        rintro e w12 ⟨rfl, hb⟩
        have B12 := Lib.hid (((B11.out).alloc _).up hb)
        have Tx12 := ((Tx11).alloc _).up hb
        have Ty12 := ((Ty11).alloc _).up hb
        have Tz12 := ((Tz11).alloc _).up hb
        have Ts12 := ((Ts11).alloc _).up hb
        have Tu12 := ((Tu11).alloc _).up hb
        have Td12 := ((Td11).alloc _).up hb
        have Te12 := ((Te11).alloc _).up hb
        have Tf12 := (Two.new _ _ _ _ (w11.heap.size) (by simp)).up hb
        clear hb Tx11 Ty11 Tz11 Ts11 Tu11 Td11 Te11 x011 x111 x211 x311 x411 y011 y111 y211 y311 y411 z011 z111 z211 z311 z411 s011 s111 s211 s311 s411 u011 u111 u211 u311 u411 d011 d111 d211 d311 d411 e011 e111 e211 e311 e411
        obtain ⟨x012, x112, x212, x312, x412⟩ := id Tx12
        obtain ⟨y012, y112, y212, y312, y412⟩ := id Ty12
        obtain ⟨z012, z112, z212, z312, z412⟩ := id Tz12
        obtain ⟨s012, s112, s212, s312, s412⟩ := id Ts12
        obtain ⟨u012, u112, u212, u312, u412⟩ := id Tu12
        obtain ⟨d012, d112, d212, d312, d412⟩ := id Td12
        obtain ⟨e012, e112, e212, e312, e412⟩ := id Te12
        obtain ⟨f012, f112, f212, f312, f412⟩ := id Tf12
        go_wp2_with fail
        refine (mul_D _ _ _ _ _ L1 (low_of _ _)).mono ?_
        rintro e w13 ⟨rfl, hb⟩
        have B13 := Lib.hid (((B12.out).alloc _).up hb)
        have Tx13 := ((Tx12).alloc _).up hb
        have Ty13 := ((Ty12).alloc _).up hb
        have Tz13 := ((Tz12).alloc _).up hb
        have Ts13 := ((Ts12).alloc _).up hb
        have Tu13 := ((Tu12).alloc _).up hb
        have Td13 := ((Td12).alloc _).up hb
        have Te13 := ((Te12).alloc _).up hb
        have Tf13 := ((Tf12).alloc _).up hb
        have Tg13 := (Two.new _ _ _ _ (w12.heap.size) (by simp)).up hb
        clear hb Tx12 Ty12 Tz12 Ts12 Tu12 Td12 Te12 Tf12 x012 x112 x212 x312 x412 y012 y112 y212 y312 y412 z012 z112 z212 z312 z412 s012 s112 s212 s312 s412 u012 u112 u212 u312 u412 d012 d112 d212 d312 d412 e012 e112 e212 e312 e412 f012 f112 f212 f312 f412
        obtain ⟨x013, x113, x213, x313, x413⟩ := id Tx13
        obtain ⟨y013, y113, y213, y313, y413⟩ := id Ty13
        obtain ⟨z013, z113, z213, z313, z413⟩ := id Tz13
        obtain ⟨s013, s113, s213, s313, s413⟩ := id Ts13
        obtain ⟨u013, u113, u213, u313, u413⟩ := id Tu13
        obtain ⟨d013, d113, d213, d313, d413⟩ := id Td13
        obtain ⟨e013, e113, e213, e313, e413⟩ := id Te13
        obtain ⟨f013, f113, f213, f313, f413⟩ := id Tf13
        obtain ⟨g013, g113, g213, g313, g413⟩ := id Tg13
        go_wp2_with fail
        refine (add_D _ _ _ _ _ (low_of _ _) (low_of _ _)).mono ?_
        rintro e w14 ⟨rfl, hb⟩
        have B14 := Lib.hid (((B13.out).alloc _).up hb)
        have Tx14 := ((Tx13).alloc _).up hb
        have Ty14 := ((Ty13).alloc _).up hb
        have Tz14 := ((Tz13).alloc _).up hb
        have Ts14 := ((Ts13).alloc _).up hb
        have Tu14 := ((Tu13).alloc _).up hb
        have Td14 := ((Td13).alloc _).up hb
        have Te14 := ((Te13).alloc _).up hb
        have Tf14 := ((Tf13).alloc _).up hb
        have Tg14 := ((Tg13).alloc _).up hb
        have Th14 := (Two.new _ _ _ _ (w13.heap.size) (by simp)).up hb
        clear hb Tx13 Ty13 Tz13 Ts13 Tu13 Td13 Te13 Tf13 Tg13 x013 x113 x213 x313 x413 y013 y113 y213 y313 y413 z013 z113 z213 z313 z413 s013 s113 s213 s313 s413 u013 u113 u213 u313 u413 d013 d113 d213 d313 d413 e013 e113 e213 e313 e413 f013 f113 f213 f313 f413 g013 g113 g213 g313 g413
        obtain ⟨x014, x114, x214, x314, x414⟩ := id Tx14
        obtain ⟨y014, y114, y214, y314, y414⟩ := id Ty14
        obtain ⟨z014, z114, z214, z314, z414⟩ := id Tz14
        obtain ⟨s014, s114, s214, s314, s414⟩ := id Ts14
        obtain ⟨u014, u114, u214, u314, u414⟩ := id Tu14
        obtain ⟨d014, d114, d214, d314, d414⟩ := id Td14
        obtain ⟨e014, e114, e214, e314, e414⟩ := id Te14
        obtain ⟨f014, f114, f214, f314, f414⟩ := id Tf14
        obtain ⟨g014, g114, g214, g314, g414⟩ := id Tg14
        obtain ⟨h014, h114, h214, h314, h414⟩ := id Th14
        have i1' : (Rat1.ofE (N2 * D3 + N3 * D2) (D2 * D3) != 0) = false := by simpa using i1
        by_cases g1 : Rat1.ofE (N1 * N2) (D1 * D2) = 0
        · have g1' : (Rat1.ofE (N1 * N2) (D1 * D2) != 0) = false := by simpa using g1
          by_cases o1 : Rat1.ofE (N1 * N3) (D1 * D3) = 0
          · have o1' : (Rat1.ofE (N1 * N3) (D1 * D3) != 0) = false := by simpa using o1
            by_cases q1 : Rat1.ofE (N1 * Rat1.ofN (N2 * D3 + N3 * D2) (D2 * D3)) (D1 * Rat1.ofD (N2 * D3 + N3 * D2) (D2 * D3)) = Rat1.ofE (Rat1.ofN (N1 * N2) (D1 * D2) * Rat1.ofD (N1 * N3) (D1 * D3) + Rat1.ofN (N1 * N3) (D1 * D3) * Rat1.ofD (N1 * N2) (D1 * D2)) (Rat1.ofD (N1 * N2) (D1 * D2) * Rat1.ofD (N1 * N3) (D1 * D3))
            · obtain ⟨k1, k2⟩ := distrib L1 L2 L3 i1 g1 o1 q1
              have q2 : (Rat1.ofE (N1 * Rat1.ofN (N2 * D3 + N3 * D2) (D2 * D3)) (D1 * Rat1.ofD (N2 * D3 + N3 * D2) (D2 * D3)) != Rat1.ofE (Rat1.ofN (N1 * N2) (D1 * D2) * Rat1.ofD (N1 * N3) (D1 * D3) + Rat1.ofN (N1 * N3) (D1 * D3) * Rat1.ofD (N1 * N2) (D1 * D2)) (Rat1.ofD (N1 * N2) (D1 * D2) * Rat1.ofD (N1 * N3) (D1 * D3))) = false := by simpa using q1
              clear q1 i1 g1 o1
              go_wp2
              go_ret
              exact ⟨rfl, (show Bel w _ by repeat (first | exact B14.out | refine Bel.alloc ?_ _))⟩
            · have q2 : (Rat1.ofE (N1 * Rat1.ofN (N2 * D3 + N3 * D2) (D2 * D3)) (D1 * Rat1.ofD (N2 * D3 + N3 * D2) (D2 * D3)) != Rat1.ofE (Rat1.ofN (N1 * N2) (D1 * D2) * Rat1.ofD (N1 * N3) (D1 * D3) + Rat1.ofN (N1 * N3) (D1 * D3) * Rat1.ofD (N1 * N2) (D1 * D2)) (Rat1.ofD (N1 * N2) (D1 * D2) * Rat1.ofD (N1 * N3) (D1 * D3))) = true := by simpa using q1
              clear q1 i1 g1 o1
              go_wp2
              go_ret
              exact ⟨rfl, (show Bel w _ by repeat (first | exact B14.out | refine Bel.alloc ?_ _))⟩
          · have o1' : (Rat1.ofE (N1 * N3) (D1 * D3) != 0) = true := by simpa using o1
            clear o1
            go_wp2
            go_ret
            exact ⟨rfl, (show Bel w _ by repeat (first | exact B14.out | refine Bel.alloc ?_ _))⟩
        · have g1' : (Rat1.ofE (N1 * N2) (D1 * D2) != 0) = true := by simpa using g1
          clear g1
          go_wp2
          go_ret
          exact ⟨rfl, (show Bel w _ by repeat (first | exact B14.out | refine Bel.alloc ?_ _))⟩
    · have i1' : (Rat1.ofE (N2 * D3 + N3 * D2) (D2 * D3) == 0) = false := by simpa using i1
      go_wp2_with fail
      refine (mul_D _ _ _ _ _ L1 L3).mono ?_
      rintro e w12 ⟨rfl, hb⟩
      have B12 := Lib.hid (((B11.out).alloc _).up hb)
      have Tx12 := ((Tx11).alloc _).up hb
      have Ty12 := ((Ty11).alloc _).up hb
      have Tz12 := ((Tz11).alloc _).up hb
      have Ts12 := ((Ts11).alloc _).up hb
      have Tu12 := ((Tu11).alloc _).up hb
      have Td12 := ((Td11).alloc _).up hb
      have Te12 := ((Te11).alloc _).up hb
      have Tf12 := (Two.new _ _ _ _ (w11.heap.size) (by simp)).up hb
      clear hb Tx11 Ty11 Tz11 Ts11 Tu11 Td11 Te11 x011 x111 x211 x311 x411 y011 y111 y211 y311 y411 z011 z111 z211 z311 z411 s011 s111 s211 s311 s411 u011 u111 u211 u311 u411 d011 d111 d211 d311 d411 e011 e111 e211 e311 e411
      obtain ⟨x012, x112, x212, x312, x412⟩ := id Tx12
      obtain ⟨y012, y112, y212, y312, y412⟩ := id Ty12
      obtain ⟨z012, z112, z212, z312, z412⟩ := id Tz12
      obtain ⟨s012, s112, s212, s312, s412⟩ := id Ts12
      obtain ⟨u012, u112, u212, u312, u412⟩ := id Tu12
      obtain ⟨d012, d112, d212, d312, d412⟩ := id Td12
      obtain ⟨e012, e112, e212, e312, e412⟩ := id Te12
      obtain ⟨f012, f112, f212, f312, f412⟩ := id Tf12
      go_wp2_with fail
      refine (mul_D _ _ _ _ _ L1 (low_of _ _)).mono ?_
      rintro e w13 ⟨rfl, hb⟩
      have B13 := Lib.hid (((B12.out).alloc _).up hb)
      have Tx13 := ((Tx12).alloc _).up hb
      have Ty13 := ((Ty12).alloc _).up hb
      have Tz13 := ((Tz12).alloc _).up hb
      have Ts13 := ((Ts12).alloc _).up hb
      have Tu13 := ((Tu12).alloc _).up hb
      have Td13 := ((Td12).alloc _).up hb
      have Te13 := ((Te12).alloc _).up hb
      have Tf13 := ((Tf12).alloc _).up hb
      have Tg13 := (Two.new _ _ _ _ (w12.heap.size) (by simp)).up hb
      clear hb Tx12 Ty12 Tz12 Ts12 Tu12 Td12 Te12 Tf12 x012 x112 x212 x312 x412 y012 y112 y212 y312 y412 z012 z112 z212 z312 z412 s012 s112 s212 s312 s412 u012 u112 u212 u312 u412 d012 d112 d212 d312 d412 e012 e112 e212 e312 e412 f012 f112 f212 f312 f412
      obtain ⟨x013, x113, x213, x313, x413⟩ := id Tx13
      obtain ⟨y013, y113, y213, y313, y413⟩ := id Ty13
      obtain ⟨z013, z113, z213, z313, z413⟩ := id Tz13
      obtain ⟨s013, s113, s213, s313, s413⟩ := id Ts13
      obtain ⟨u013, u113, u213, u313, u413⟩ := id Tu13
      obtain ⟨d013, d113, d213, d313, d413⟩ := id Td13
      obtain ⟨e013, e113, e213, e313, e413⟩ := id Te13
      obtain ⟨f013, f113, f213, f313, f413⟩ := id Tf13
      obtain ⟨g013, g113, g213, g313, g413⟩ := id Tg13
      go_wp2_with fail
      refine (add_D _ _ _ _ _ (low_of _ _) (low_of _ _)).mono ?_
      rintro e w14 ⟨rfl, hb⟩
      have B14 := Lib.hid (((B13.out).alloc _).up hb)
      have Tx14 := ((Tx13).alloc _).up hb
      have Ty14 := ((Ty13).alloc _).up hb
      have Tz14 := ((Tz13).alloc _).up hb
      have Ts14 := ((Ts13).alloc _).up hb
      have Tu14 := ((Tu13).alloc _).up hb
      have Td14 := ((Td13).alloc _).up hb
      have Te14 := ((Te13).alloc _).up hb
      have Tf14 := ((Tf13).alloc _).up hb
      have Tg14 := ((Tg13).alloc _).up hb
      have Th14 := (Two.new _ _ _ _ (w13.heap.size) (by simp)).up hb
      clear hb Tx13 Ty13 Tz13 Ts13 Tu13 Td13 Te13 Tf13 Tg13 x013 x113 x213 x313 x413 y013 y113 y213 y313 y413 z013 z113 z213 z313 z413 s013 s113 s213 s313 s413 u013 u113 u213 u313 u413 d013 d113 d213 d313 d413 e013 e113 e213 e313 e413 f013 f113 f213 f313 f413 g013 g113 g213 g313 g413
      obtain ⟨x014, x114, x214, x314, x414⟩ := id Tx14
      obtain ⟨y014, y114, y214, y314, y414⟩ := id Ty14
      obtain ⟨z014, z114, z214, z314, z414⟩ := id Tz14
      obtain ⟨s014, s114, s214, s314, s414⟩ := id Ts14
      obtain ⟨u014, u114, u214, u314, u414⟩ := id Tu14
      obtain ⟨d014, d114, d214, d314, d414⟩ := id Td14
      obtain ⟨e014, e114, e214, e314, e414⟩ := id Te14
      obtain ⟨f014, f114, f214, f314, f414⟩ := id Tf14
      obtain ⟨g014, g114, g214, g314, g414⟩ := id Tg14
      obtain ⟨h014, h114, h214, h314, h414⟩ := id Th14
      have i1' : (Rat1.ofE (N2 * D3 + N3 * D2) (D2 * D3) != 0) = true := by simpa using i1
      clear i1
      go_wp2
      go_ret
      exact ⟨rfl, (show Bel w _ by repeat (first | exact B14.out | refine Bel.alloc ?_ _))⟩
  · have e1' : (Rat1.ofE (N1 * D2 + N2 * D1) (D1 * D2) == 0) = false := by simpa using e1
    clear e1
    go_wp2_with fail
    refine (mul_D _ _ _ _ _ L1 L3).mono ?_
    rintro e w12 ⟨rfl, hb⟩
    have B12 := Lib.hid (((B11.out).alloc _).up hb)
    have Tx12 := ((Tx11).alloc _).up hb
    have Ty12 := ((Ty11).alloc _).up hb
    have Tz12 := ((Tz11).alloc _).up hb
    have Ts12 := ((Ts11).alloc _).up hb
    have Tu12 := ((Tu11).alloc _).up hb
    have Td12 := ((Td11).alloc _).up hb
    have Te12 := ((Te11).alloc _).up hb
    have Tf12 := (Two.new _ _ _ _ (w11.heap.size) (by simp)).up hb
    clear hb Tx11 Ty11 Tz11 Ts11 Tu11 Td11 Te11 x011 x111 x211 x311 x411 y011 y111 y211 y311 y411 z011 z111 z211 z311 z411 s011 s111 s211 s311 s411 u011 u111 u211 u311 u411 d011 d111 d211 d311 d411 e011 e111 e211 e311 e411
    obtain ⟨x012, x112, x212, x312, x412⟩ := id Tx12
    obtain ⟨y012, y112, y212, y312, y412⟩ := id Ty12
    obtain ⟨z012, z112, z212, z312, z412⟩ := id Tz12
    obtain ⟨s012, s112, s212, s312, s412⟩ := id Ts12
    obtain ⟨u012, u112, u212, u312, u412⟩ := id Tu12
    obtain ⟨d012, d112, d212, d312, d412⟩ := id Td12
    obtain ⟨e012, e112, e212, e312, e412⟩ := id Te12
    obtain ⟨f012, f112, f212, f312, f412⟩ := id Tf12
    go_wp2_with fail
    refine (mul_D _ _ _ _ _ L1 (low_of _ _)).mono ?_
    rintro e w13 ⟨rfl, hb⟩
    have B13 := Lib.hid (((B12.out).alloc _).up hb)
    have Tx13 := ((Tx12).alloc _).up hb
    have Ty13 := ((Ty12).alloc _).up hb
    have Tz13 := ((Tz12).alloc _).up hb
    have Ts13 := ((Ts12).alloc _).up hb
    have Tu13 := ((Tu12).alloc _).up hb
    have Td13 := ((Td12).alloc _).up hb
    have Te13 := ((Te12).alloc _).up hb
    have Tf13 := ((Tf12).alloc _).up hb
    have Tg13 := (Two.new _ _ _ _ (w12.heap.size) (by simp)).up hb
    clear hb Tx12 Ty12 Tz12 Ts12 Tu12 Td12 Te12 Tf12 x012 x112 x212 x312 x412 y012 y112 y212 y312 y412 z012 z112 z212 z312 z412 s012 s112 s212 s312 s412 u012 u112 u212 u312 u412 d012 d112 d212 d312 d412 e012 e112 e212 e312 e412 f012 f112 f212 f312 f412
    obtain ⟨x013, x113, x213, x313, x413⟩ := id Tx13
    obtain ⟨y013, y113, y213, y313, y413⟩ := id Ty13
    obtain ⟨z013, z113, z213, z313, z413⟩ := id Tz13
    obtain ⟨s013, s113, s213, s313, s413⟩ := id Ts13
    obtain ⟨u013, u113, u213, u313, u413⟩ := id Tu13
    obtain ⟨d013, d113, d213, d313, d413⟩ := id Td13
    obtain ⟨e013, e113, e213, e313, e413⟩ := id Te13
    obtain ⟨f013, f113, f213, f313, f413⟩ := id Tf13
    obtain ⟨g013, g113, g213, g313, g413⟩ := id Tg13
    go_wp2_with fail
    refine (add_D _ _ _ _ _ (low_of _ _) (low_of _ _)).mono ?_
    rintro e w14 ⟨rfl, hb⟩
    have B14 := Lib.hid (((B13.out).alloc _).up hb)
    have Tx14 := ((Tx13).alloc _).up hb
    have Ty14 := ((Ty13).alloc _).up hb
    have Tz14 := ((Tz13).alloc _).up hb
    have Ts14 := ((Ts13).alloc _).up hb
    have Tu14 := ((Tu13).alloc _).up hb
    have Td14 := ((Td13).alloc _).up hb
    have Te14 := ((Te13).alloc _).up hb
    have Tf14 := ((Tf13).alloc _).up hb
    have Tg14 := ((Tg13).alloc _).up hb
    have Th14 := (Two.new _ _ _ _ (w13.heap.size) (by simp)).up hb
    clear hb Tx13 Ty13 Tz13 Ts13 Tu13 Td13 Te13 Tf13 Tg13 x013 x113 x213 x313 x413 y013 y113 y213 y313 y413 z013 z113 z213 z313 z413 s013 s113 s213 s313 s413 u013 u113 u213 u313 u413 d013 d113 d213 d313 d413 e013 e113 e213 e313 e413 f013 f113 f213 f313 f413 g013 g113 g213 g313 g413
    obtain ⟨x014, x114, x214, x314, x414⟩ := id Tx14
    obtain ⟨y014, y114, y214, y314, y414⟩ := id Ty14
    obtain ⟨z014, z114, z214, z314, z414⟩ := id Tz14
    obtain ⟨s014, s114, s214, s314, s414⟩ := id Ts14
    obtain ⟨u014, u114, u214, u314, u414⟩ := id Tu14
    obtain ⟨d014, d114, d214, d314, d414⟩ := id Td14
    obtain ⟨e014, e114, e214, e314, e414⟩ := id Te14
    obtain ⟨f014, f114, f214, f314, f414⟩ := id Tf14
    obtain ⟨g014, g114, g214, g314, g414⟩ := id Tg14
    obtain ⟨h014, h114, h214, h314, h414⟩ := id Th14
    by_cases i1 : Rat1.ofE (N2 * D3 + N3 * D2) (D2 * D3) = 0
    · have i1' : (Rat1.ofE (N2 * D3 + N3 * D2) (D2 * D3) != 0) = false := by simpa using i1
      by_cases g1 : Rat1.ofE (N1 * N2) (D1 * D2) = 0
      · have g1' : (Rat1.ofE (N1 * N2) (D1 * D2) != 0) = false := by simpa using g1
        by_cases o1 : Rat1.ofE (N1 * N3) (D1 * D3) = 0
        · have o1' : (Rat1.ofE (N1 * N3) (D1 * D3) != 0) = false := by simpa using o1
          by_cases q1 : Rat1.ofE (N1 * Rat1.ofN (N2 * D3 + N3 * D2) (D2 * D3)) (D1 * Rat1.ofD (N2 * D3 + N3 * D2) (D2 * D3)) = Rat1.ofE (Rat1.ofN (N1 * N2) (D1 * D2) * Rat1.ofD (N1 * N3) (D1 * D3) + Rat1.ofN (N1 * N3) (D1 * D3) * Rat1.ofD (N1 * N2) (D1 * D2)) (Rat1.ofD (N1 * N2) (D1 * D2) * Rat1.ofD (N1 * N3) (D1 * D3))
          · obtain ⟨k1, k2⟩ := distrib L1 L2 L3 i1 g1 o1 q1
            have q2 : (Rat1.ofE (N1 * Rat1.ofN (N2 * D3 + N3 * D2) (D2 * D3)) (D1 * Rat1.ofD (N2 * D3 + N3 * D2) (D2 * D3)) != Rat1.ofE (Rat1.ofN (N1 * N2) (D1 * D2) * Rat1.ofD (N1 * N3) (D1 * D3) + Rat1.ofN (N1 * N3) (D1 * D3) * Rat1.ofD (N1 * N2) (D1 * D2)) (Rat1.ofD (N1 * N2) (D1 * D2) * Rat1.ofD (N1 * N3) (D1 * D3))) = false := by simpa using q1
            clear q1 i1 g1 o1
            go_wp2
            go_ret
            exact ⟨rfl, (show Bel w _ by repeat (first | exact B14.out | refine Bel.alloc ?_ _))⟩
          · have q2 : (Rat1.ofE (N1 * Rat1.ofN (N2 * D3 + N3 * D2) (D2 * D3)) (D1 * Rat1.ofD (N2 * D3 + N3 * D2) (D2 * D3)) != Rat1.ofE (Rat1.ofN (N1 * N2) (D1 * D2) * Rat1.ofD (N1 * N3) (D1 * D3) + Rat1.ofN (N1 * N3) (D1 * D3) * Rat1.ofD (N1 * N2) (D1 * D2)) (Rat1.ofD (N1 * N2) (D1 * D2) * Rat1.ofD (N1 * N3) (D1 * D3))) = true := by simpa using q1
            clear q1 i1 g1 o1
            go_wp2
            go_ret
            exact ⟨rfl, (show Bel w _ by repeat (first | exact B14.out | refine Bel.alloc ?_ _))⟩
        · have o1' : (Rat1.ofE (N1 * N3) (D1 * D3) != 0) = true := by simpa using o1
          clear o1
          go_wp2
          go_ret
          exact ⟨rfl, (show Bel w _ by repeat (first | exact B14.out | refine Bel.alloc ?_ _))⟩
      · have g1' : (Rat1.ofE (N1 * N2) (D1 * D2) != 0) = true := by simpa using g1
        clear g1
        go_wp2
        go_ret
        exact ⟨rfl, (show Bel w _ by repeat (first | exact B14.out | refine Bel.alloc ?_ _))⟩
    · have i1' : (Rat1.ofE (N2 * D3 + N3 * D2) (D2 * D3) != 0) = true := by simpa using i1
      clear i1
      go_wp2
      go_ret
      exact ⟨rfl, (show Bel w _ by repeat (first | exact B14.out | refine Bel.alloc ?_ _))⟩
end Go.Proofs.YtgbehiagkpcoaaaDoor
