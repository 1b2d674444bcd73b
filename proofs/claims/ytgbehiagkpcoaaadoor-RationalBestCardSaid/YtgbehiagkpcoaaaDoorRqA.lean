/- The walk of the law on the four operations. -/
import Derived.Test.YtgbehiagkpcoaaaDoorRqB
import Derived.Deep.RegionHeld3
import Derived.Deep.DeepCutAuto
import Derived.Deep.CutBlock
namespace Go.Proofs.YtgbehiagkpcoaaaDoor
open Go.RowKit
set_option linter.unusedVariables false
set_option linter.unusedSimpArgs false


theorem Two.drew {w : World} {b : Nat} {x y : Value} (h : Two w b x y) : Two w.drew b x y := ⟨h.lt, h.c0, h.c1, h.f0, h.f1⟩
theorem Bel.drew {w W : World} (h : Bel w W) : Bel w W.drew := ⟨h.os, h.tape, h.output, h.size, h.block⟩
theorem Two.up1 {w w' : World} {b : Nat} {x y : Value} (h : Two w b x y) (hb : Below (b + 1) w w') : Two w' b x y :=
  ⟨Nat.lt_of_lt_of_le h.lt hb.size, (hb.cell (p := ⟨b, 0, none⟩) (Nat.lt_succ_self b)).trans h.c0, (hb.cell (p := ⟨b, 1, none⟩) (Nat.lt_succ_self b)).trans h.c1, (hb.frozen (p := ⟨b, 0, none⟩) (Nat.lt_succ_self b)).trans h.f0, (hb.frozen (p := ⟨b, 1, none⟩) (Nat.lt_succ_self b)).trans h.f1⟩
theorem Two.set {w : World} {b c o : Nat} {x y v : Value} (h : Two w b x y) (hc : b < c) : Two (w.setCell ⟨c, o, none⟩ v) b x y :=
  h.up1 ((Below.refl _ _).setCell (p := ⟨c, o, none⟩) hc v)
theorem Two.store {w : World} {b : Nat} {x y u v : Value} (h : Two w b x y) : Two ((w.setCell ⟨b, 0, none⟩ u).setCell ⟨b, 1, none⟩ v) b u v := by
  obtain ⟨h0, h1, h2, h3, h4⟩ := h
  exact ⟨by simpa [go_sem] using h0, by simp [go_sem, *], by simp [go_sem, *], by simp [go_sem, *], by simp [go_sem, *]⟩
theorem Two.both {w : World} {b c : Nat} {x y u v : Value} (h : Two w b x y) (k : Two w c u v) : w.cell? ⟨b, 0, none⟩ = some x ∧ w.cell? ⟨b, 1, none⟩ = some y ∧ w.cell? ⟨c, 0, none⟩ = some u ∧ w.cell? ⟨c, 1, none⟩ = some v := ⟨h.c0, h.c1, k.c0, k.c1⟩

theorem div_all (a D c E : Int) (w : World) (h1 : Rat1.Low a D) (h2 : Rat1.Low c E) :
    Calls Tryd.prog 27 #[.agg #[.int .i64 a, .int .i64 (D - 1)], .agg #[.int .i64 c, .int .i64 (E - 1)]] w fun e w' => e = .returned (.tuple #[.agg #[.int .i64 (Rat1.ofN (a * E) (D * c)), .int .i64 (Rat1.ofD (a * E) (D * c) - 1)], .int .i64 (Rat1.ofE (a * E) (D * c))]) ∧ Below w.heap.size w w' := by
  by_cases hz : c = 0
  · have e := div_Z a D c E w h1 h2 hz
    have k1 : Rat1.ofN (a * E) (D * c) = 0 := by rw [hz, Int.mul_zero, Rat1.ofN, Rat1.ofQ_zero]
    have k2 : Rat1.ofD (a * E) (D * c) - 1 = 0 := by rw [hz, Int.mul_zero, Rat1.ofD, Rat1.ofQ_zero]; rfl
    have k3 : Rat1.ofE (a * E) (D * c) = 15 := by rw [hz, Int.mul_zero, Rat1.ofE, Rat1.ofQ_zero]
    rw [k1, k2, k3]
    exact e
  · exact div_D a D c E w h1 h2 (by simpa using hz)
set_option maxRecDepth 100000 in
set_option maxHeartbeats 4000000 in
theorem law_RationalArithmetic (a0 a1 b0 b1 : Int) (w : World) (ht : Tab w) :
    Calls Tryd.prog 4 #[.agg #[.int .i64 a0, .int .i64 a1], .agg #[.int .i64 b0, .int .i64 b1]] w fun e w' => e = .returned (.bool true) ∧ Below w.heap.size w w' := by
  have HT := Lib.hid ht
  clear ht
  go_enter Tryd.func4, Tryd.ntmps4
  go_wp2_with fail
  refine (of_fr a0 a1 _).mono ?_
  rintro e w1 ⟨N1, D1, L1, rfl, hb⟩
  have B1 := Lib.hid ((((Bel.refl w).alloc _).alloc _).up hb)
  have Ta1 := ((Two.new _ _ _ _ (w.heap.size) (by simp)).alloc _).up hb
  have Tb1 := (Two.new _ _ _ _ (w.heap.size + 1) (by simp)).up hb
  clear hb
  obtain ⟨a01, a11, a21, a31, a41⟩ := id Ta1
  obtain ⟨b01, b11, b21, b31, b41⟩ := id Tb1
  have p1 := L1.pos
  have l1 := L1.le
  have m1 := L1.num
  unfold Rat1.mx at l1 m1
  go_wp2_with fail
  refine (of_fr b0 b1 _).mono ?_
  rintro e w2 ⟨N2, D2, L2, rfl, hb⟩
  have B2 := Lib.hid ((((B1.out).alloc _).alloc _).up hb)
  have Ta2 := (((Ta1).alloc _).alloc _).up hb
  have Tb2 := (((Tb1).alloc _).alloc _).up hb
  have Tx2 := ((Two.new _ _ _ _ (w1.heap.size) (by simp)).alloc _).up hb
  have Tp2 := (Two.new _ _ _ _ (w1.heap.size + 1) (by simp)).up hb
  clear hb Ta1 Tb1 a01 a11 a21 a31 a41 b01 b11 b21 b31 b41
  obtain ⟨a02, a12, a22, a32, a42⟩ := id Ta2
  obtain ⟨b02, b12, b22, b32, b42⟩ := id Tb2
  obtain ⟨x02, x12, x22, x32, x42⟩ := id Tx2
  obtain ⟨p02, p12, p22, p32, p42⟩ := id Tp2
  have p2 := L2.pos
  have l2 := L2.le
  have m2 := L2.num
  unfold Rat1.mx at l2 m2
  go_wp2_with fail
  refine (add_D _ _ _ _ _ L1 L2).mono ?_
  rintro e w3 ⟨rfl, hb⟩
  have B3 := Lib.hid ((((B2.out).alloc _).alloc _).up hb)
  have Ta3 := (((Ta2).alloc _).alloc _).up hb
  have Tb3 := (((Tb2).alloc _).alloc _).up hb
  have Tx3 := (((Tx2).alloc _).alloc _).up hb
  have Tp3 := (((Tp2).alloc _).alloc _).up hb
  have Ty3 := ((Two.new _ _ _ _ (w2.heap.size) (by simp)).alloc _).up hb
  have Tq3 := (Two.new _ _ _ _ (w2.heap.size + 1) (by simp)).up hb
  clear hb Ta2 Tb2 Tx2 Tp2 a02 a12 a22 a32 a42 b02 b12 b22 b32 b42 x02 x12 x22 x32 x42 p02 p12 p22 p32 p42
  obtain ⟨a03, a13, a23, a33, a43⟩ := id Ta3
  obtain ⟨b03, b13, b23, b33, b43⟩ := id Tb3
  obtain ⟨x03, x13, x23, x33, x43⟩ := id Tx3
  obtain ⟨p03, p13, p23, p33, p43⟩ := id Tp3
  obtain ⟨y03, y13, y23, y33, y43⟩ := id Ty3
  obtain ⟨q03, q13, q23, q33, q43⟩ := id Tq3
  go_wp2_with fail
  refine (addR_D _ _ _ _ _ L1 L2).mono ?_
  rintro e w4 ⟨rfl, hb⟩
  have B4 := Lib.hid (((B3.out).alloc _).up hb)
  have Ta4 := ((Ta3).alloc _).up hb
  have Tb4 := ((Tb3).alloc _).up hb
  have Tx4 := ((Tx3).alloc _).up hb
  have Tp4 := ((Tp3).alloc _).up hb
  have Ty4 := ((Ty3).alloc _).up hb
  have Tq4 := ((Tq3).alloc _).up hb
  have Ts4 := (Two.new _ _ _ _ (w3.heap.size) (by simp)).up hb
  clear hb Ta3 Tb3 Tx3 Tp3 Ty3 Tq3 a03 a13 a23 a33 a43 b03 b13 b23 b33 b43 x03 x13 x23 x33 x43 p03 p13 p23 p33 p43 y03 y13 y23 y33 y43 q03 q13 q23 q33 q43
  obtain ⟨a04, a14, a24, a34, a44⟩ := id Ta4
  obtain ⟨b04, b14, b24, b34, b44⟩ := id Tb4
  obtain ⟨x04, x14, x24, x34, x44⟩ := id Tx4
  obtain ⟨p04, p14, p24, p34, p44⟩ := id Tp4
  obtain ⟨y04, y14, y24, y34, y44⟩ := id Ty4
  obtain ⟨q04, q14, q24, q34, q44⟩ := id Tq4
  obtain ⟨s04, s14, s24, s34, s44⟩ := id Ts4
  go_wp2_with fail
  refine (sub_D _ _ _ _ _ L1 L2).mono ?_
  rintro e w5 ⟨rfl, hb⟩
  have B5 := Lib.hid (((B4.out).alloc _).up hb)
  have Ta5 := ((Ta4).alloc _).up hb
  have Tb5 := ((Tb4).alloc _).up hb
  have Tx5 := ((Tx4).alloc _).up hb
  have Tp5 := ((Tp4).alloc _).up hb
  have Ty5 := ((Ty4).alloc _).up hb
  have Tq5 := ((Tq4).alloc _).up hb
  have Ts5 := ((Ts4).alloc _).up hb
  have Tu5 := (Two.new _ _ _ _ (w4.heap.size) (by simp)).up hb
  clear hb Ta4 Tb4 Tx4 Tp4 Ty4 Tq4 Ts4 a04 a14 a24 a34 a44 b04 b14 b24 b34 b44 x04 x14 x24 x34 x44 p04 p14 p24 p34 p44 y04 y14 y24 y34 y44 q04 q14 q24 q34 q44 s04 s14 s24 s34 s44
  obtain ⟨a05, a15, a25, a35, a45⟩ := id Ta5
  obtain ⟨b05, b15, b25, b35, b45⟩ := id Tb5
  obtain ⟨x05, x15, x25, x35, x45⟩ := id Tx5
  obtain ⟨p05, p15, p25, p35, p45⟩ := id Tp5
  obtain ⟨y05, y15, y25, y35, y45⟩ := id Ty5
  obtain ⟨q05, q15, q25, q35, q45⟩ := id Tq5
  obtain ⟨s05, s15, s25, s35, s45⟩ := id Ts5
  obtain ⟨u05, u15, u25, u35, u45⟩ := id Tu5
  go_wp2_with fail
  go_cut [15, 16] (fun va vb wx => ∃ k, va = .pointer (some ⟨k, 0, none⟩) ∧ vb = .int .i64 (Rat1.ofE (N1 * D2 + -N2 * D1) (D1 * D2)) ∧ Bel w5 wx ∧ Two wx w5.heap.size (.int .i64 (Rat1.ofN (N1 * D2 + -N2 * D1) (D1 * D2))) (.int .i64 (Rat1.ofD (N1 * D2 + -N2 * D1) (D1 * D2) - 1)) ∧ w5.heap.size ≤ k ∧ Two wx k (.int .i64 (Rat1.ofN (N1 * D2 + -N2 * D1) (D1 * D2))) (.int .i64 (Rat1.ofD (N1 * D2 + -N2 * D1) (D1 * D2))))
  case first =>
    go_region_held3 (fun w' => w'.cell? ⟨w1.heap.size + 1, 0, none⟩ = some (.int .i64 N1) ∧ w'.cell? ⟨w1.heap.size + 1, 1, none⟩ = some (.int .i64 D1) ∧ w'.cell? ⟨w2.heap.size + 1, 0, none⟩ = some (.int .i64 N2) ∧ w'.cell? ⟨w2.heap.size + 1, 1, none⟩ = some (.int .i64 D2))
      (first | (refine Two.both ?_ ?_ <;> (repeat (first | exact Tp5 | exact Tq5 | apply Two.alloc | apply Two.drew | (refine Two.set ?_ (by omega)) | refine Two.up ?_ (by assumption)))))
      (first | (go_at_call 24; refine (negR_D _ _ _ L2).mono ?_; rintro e W1 ⟨rfl, hb1⟩; have s1 : w5.heap.size + 1 ≤ W1.heap.size := Nat.le_trans (by (try simp [go_sem]); try omega) hb1.size; (first | (have TZ := TZ.up hb1; obtain ⟨z0, z1, z2, z3, z4⟩ := id TZ) | (have TZ := (Two.new _ (.int .i64 0) (.int .i64 0) 28 (w5.heap.size + 1) (by simp [go_sem])).up hb1; obtain ⟨z0, z1, z2, z3, z4⟩ := id TZ) | (have TZ := (Two.drew (Two.new _ (.int .i64 0) (.int .i64 0) 28 (w5.heap.size + 1) (by simp [go_sem]))).up hb1; obtain ⟨z0, z1, z2, z3, z4⟩ := id TZ) | skip)) | (go_at_call 22; refine (addR_D _ _ _ _ _ L1 L2.neg).mono ?_; rintro e W2 ⟨rfl, hb2⟩; have s2 : W1.heap.size ≤ W2.heap.size := Nat.le_trans (by (try simp [go_sem]); try omega) hb2.size; (first | (have TZ := TZ.up hb2; obtain ⟨z0, z1, z2, z3, z4⟩ := id TZ) | (have TZ := (Two.new _ (.int .i64 0) (.int .i64 0) 28 (W1.heap.size) (by simp [go_sem])).up hb2; obtain ⟨z0, z1, z2, z3, z4⟩ := id TZ) | (have TZ := (Two.drew (Two.new _ (.int .i64 0) (.int .i64 0) 28 (W1.heap.size) (by simp [go_sem]))).up hb2; obtain ⟨z0, z1, z2, z3, z4⟩ := id TZ) | skip)))
    all_goals (go_wp2_with fail; go_meet)
    all_goals (refine ⟨_, rfl, rfl, ?_, ?_, ?_, ?_⟩)
    all_goals first
      | ((repeat (first | exact Bel.refl _ | apply Bel.alloc | apply Bel.drew | (refine Bel.set ?_ (by omega) _ _) | refine Bel.up ?_ (by assumption))); done)
      | ((repeat (first | exact Two.new _ _ _ _ _ rfl | exact Two.store TZ | apply Two.alloc | apply Two.drew | (refine Two.set ?_ (by omega)) | refine Two.up ?_ (by assumption))); done)
      | omega
  case rest =>
    obtain ⟨k6, rfl, rfl, hB, hu, hk6, hv⟩ := hcut
    have B6 := Lib.hid ((B5.out).up hB)
    have Ta6 := (Ta5).up hB
    have Tb6 := (Tb5).up hB
    have Tx6 := (Tx5).up hB
    have Tp6 := (Tp5).up hB
    have Ty6 := (Ty5).up hB
    have Tq6 := (Tq5).up hB
    have Ts6 := (Ts5).up hB
    have Tu6 := (Tu5).up hB
    have Tv6 := hu
    have Tz6 := hv
    clear hB hu hv
    try clear a05; try clear a15; try clear a25; try clear a35; try clear a45; try clear Ta5
    try clear b05; try clear b15; try clear b25; try clear b35; try clear b45; try clear Tb5
    try clear x05; try clear x15; try clear x25; try clear x35; try clear x45; try clear Tx5
    try clear p05; try clear p15; try clear p25; try clear p35; try clear p45; try clear Tp5
    try clear y05; try clear y15; try clear y25; try clear y35; try clear y45; try clear Ty5
    try clear q05; try clear q15; try clear q25; try clear q35; try clear q45; try clear Tq5
    try clear s05; try clear s15; try clear s25; try clear s35; try clear s45; try clear Ts5
    try clear u05; try clear u15; try clear u25; try clear u35; try clear u45; try clear Tu5
    obtain ⟨a06, a16, a26, a36, a46⟩ := id Ta6
    obtain ⟨b06, b16, b26, b36, b46⟩ := id Tb6
    obtain ⟨x06, x16, x26, x36, x46⟩ := id Tx6
    obtain ⟨p06, p16, p26, p36, p46⟩ := id Tp6
    obtain ⟨y06, y16, y26, y36, y46⟩ := id Ty6
    obtain ⟨q06, q16, q26, q36, q46⟩ := id Tq6
    obtain ⟨s06, s16, s26, s36, s46⟩ := id Ts6
    obtain ⟨u06, u16, u26, u36, u46⟩ := id Tu6
    obtain ⟨v06, v16, v26, v36, v46⟩ := id Tv6
    obtain ⟨z06, z16, z26, z36, z46⟩ := id Tz6
    go_wp2_with fail
    refine (known_any _ (HT.out.below B6.out.out)).mono ?_
    rintro e w7 ⟨rfl, hb⟩
    have B7 := Lib.hid ((B6.out).up hb)
    have Ta7 := (Ta6).up hb
    have Tb7 := (Tb6).up hb
    have Tx7 := (Tx6).up hb
    have Tp7 := (Tp6).up hb
    have Ty7 := (Ty6).up hb
    have Tq7 := (Tq6).up hb
    have Ts7 := (Ts6).up hb
    have Tu7 := (Tu6).up hb
    have Tv7 := (Tv6).up hb
    have Tz7 := (Tz6).up hb
    clear hb Ta6 Tb6 Tx6 Tp6 Ty6 Tq6 Ts6 Tu6 Tv6 Tz6 a06 a16 a26 a36 a46 b06 b16 b26 b36 b46 x06 x16 x26 x36 x46 p06 p16 p26 p36 p46 y06 y16 y26 y36 y46 q06 q16 q26 q36 q46 s06 s16 s26 s36 s46 u06 u16 u26 u36 u46 v06 v16 v26 v36 v46 z06 z16 z26 z36 z46
    obtain ⟨a07, a17, a27, a37, a47⟩ := id Ta7
    obtain ⟨b07, b17, b27, b37, b47⟩ := id Tb7
    obtain ⟨x07, x17, x27, x37, x47⟩ := id Tx7
    obtain ⟨p07, p17, p27, p37, p47⟩ := id Tp7
    obtain ⟨y07, y17, y27, y37, y47⟩ := id Ty7
    obtain ⟨q07, q17, q27, q37, q47⟩ := id Tq7
    obtain ⟨s07, s17, s27, s37, s47⟩ := id Ts7
    obtain ⟨u07, u17, u27, u37, u47⟩ := id Tu7
    obtain ⟨v07, v17, v27, v37, v47⟩ := id Tv7
    obtain ⟨z07, z17, z27, z37, z47⟩ := id Tz7
    go_wp2_with fail
    refine (same_pair _ _ _).mono ?_
    rintro e w8 ⟨rfl, hb⟩
    have B8 := Lib.hid ((B7.out).up hb)
    have Ta8 := (Ta7).up hb
    have Tb8 := (Tb7).up hb
    have Tx8 := (Tx7).up hb
    have Tp8 := (Tp7).up hb
    have Ty8 := (Ty7).up hb
    have Tq8 := (Tq7).up hb
    have Ts8 := (Ts7).up hb
    have Tu8 := (Tu7).up hb
    have Tv8 := (Tv7).up hb
    have Tz8 := (Tz7).up hb
    clear hb Ta7 Tb7 Tx7 Tp7 Ty7 Tq7 Ts7 Tu7 Tv7 Tz7 a07 a17 a27 a37 a47 b07 b17 b27 b37 b47 x07 x17 x27 x37 x47 p07 p17 p27 p37 p47 y07 y17 y27 y37 y47 q07 q17 q27 q37 q47 s07 s17 s27 s37 s47 u07 u17 u27 u37 u47 v07 v17 v27 v37 v47 z07 z17 z27 z37 z47
    obtain ⟨a08, a18, a28, a38, a48⟩ := id Ta8
    obtain ⟨b08, b18, b28, b38, b48⟩ := id Tb8
    obtain ⟨x08, x18, x28, x38, x48⟩ := id Tx8
    obtain ⟨p08, p18, p28, p38, p48⟩ := id Tp8
    obtain ⟨y08, y18, y28, y38, y48⟩ := id Ty8
    obtain ⟨q08, q18, q28, q38, q48⟩ := id Tq8
    obtain ⟨s08, s18, s28, s38, s48⟩ := id Ts8
    obtain ⟨u08, u18, u28, u38, u48⟩ := id Tu8
    obtain ⟨v08, v18, v28, v38, v48⟩ := id Tv8
    obtain ⟨z08, z18, z28, z38, z48⟩ := id Tz8
    go_wp2_with fail
    refine (same_pair _ _ _).mono ?_
    rintro e w9 ⟨rfl, hb⟩
    have B9 := Lib.hid ((B8.out).up hb)
    have Ta9 := (Ta8).up hb
    have Tb9 := (Tb8).up hb
    have Tx9 := (Tx8).up hb
    have Tp9 := (Tp8).up hb
    have Ty9 := (Ty8).up hb
    have Tq9 := (Tq8).up hb
    clear hb Ta8 Tb8 Tx8 Tp8 Ty8 Tq8 Ts8 Tu8 Tv8 Tz8 a08 a18 a28 a38 a48 b08 b18 b28 b38 b48 x08 x18 x28 x38 x48 p08 p18 p28 p38 p48 y08 y18 y28 y38 y48 q08 q18 q28 q38 q48 s08 s18 s28 s38 s48 u08 u18 u28 u38 u48 v08 v18 v28 v38 v48 z08 z18 z28 z38 z48
    obtain ⟨a09, a19, a29, a39, a49⟩ := id Ta9
    obtain ⟨b09, b19, b29, b39, b49⟩ := id Tb9
    obtain ⟨x09, x19, x29, x39, x49⟩ := id Tx9
    obtain ⟨p09, p19, p29, p39, p49⟩ := id Tp9
    obtain ⟨y09, y19, y29, y39, y49⟩ := id Ty9
    obtain ⟨q09, q19, q29, q39, q49⟩ := id Tq9
    go_wp2_with fail
    refine (mul_D _ _ _ _ _ L1 L2).mono ?_
    rintro e w10 ⟨rfl, hb⟩
    have B10 := Lib.hid ((B9.out).up hb)
    have Ta10 := (Ta9).up hb
    have Tb10 := (Tb9).up hb
    have Tx10 := (Tx9).up hb
    have Tp10 := (Tp9).up hb
    have Ty10 := (Ty9).up hb
    have Tq10 := (Tq9).up hb
    clear hb Ta9 Tb9 Tx9 Tp9 Ty9 Tq9 a09 a19 a29 a39 a49 b09 b19 b29 b39 b49 x09 x19 x29 x39 x49 p09 p19 p29 p39 p49 y09 y19 y29 y39 y49 q09 q19 q29 q39 q49
    obtain ⟨a010, a110, a210, a310, a410⟩ := id Ta10
    obtain ⟨b010, b110, b210, b310, b410⟩ := id Tb10
    obtain ⟨x010, x110, x210, x310, x410⟩ := id Tx10
    obtain ⟨p010, p110, p210, p310, p410⟩ := id Tp10
    obtain ⟨y010, y110, y210, y310, y410⟩ := id Ty10
    obtain ⟨q010, q110, q210, q310, q410⟩ := id Tq10
    go_wp2_with fail
    refine (mulR_D _ _ _ _ _ L1 L2).mono ?_
    rintro e w11 ⟨rfl, hb⟩
    have B11 := Lib.hid (((B10.out).alloc _).up hb)
    have Ta11 := ((Ta10).alloc _).up hb
    have Tb11 := ((Tb10).alloc _).up hb
    have Tx11 := ((Tx10).alloc _).up hb
    have Tp11 := ((Tp10).alloc _).up hb
    have Ty11 := ((Ty10).alloc _).up hb
    have Tq11 := ((Tq10).alloc _).up hb
    have Tm11 := (Two.new _ _ _ _ (w10.heap.size) (by simp)).up hb
    clear hb Ta10 Tb10 Tx10 Tp10 Ty10 Tq10 a010 a110 a210 a310 a410 b010 b110 b210 b310 b410 x010 x110 x210 x310 x410 p010 p110 p210 p310 p410 y010 y110 y210 y310 y410 q010 q110 q210 q310 q410
    obtain ⟨a011, a111, a211, a311, a411⟩ := id Ta11
    obtain ⟨b011, b111, b211, b311, b411⟩ := id Tb11
    obtain ⟨x011, x111, x211, x311, x411⟩ := id Tx11
    obtain ⟨p011, p111, p211, p311, p411⟩ := id Tp11
    obtain ⟨y011, y111, y211, y311, y411⟩ := id Ty11
    obtain ⟨q011, q111, q211, q311, q411⟩ := id Tq11
    obtain ⟨m011, m111, m211, m311, m411⟩ := id Tm11
    go_wp2_with fail
    refine (div_all _ _ _ _ _ L1 L2).mono ?_
    rintro e w12 ⟨rfl, hb⟩
    have B12 := Lib.hid (((B11.out).alloc _).up hb)
    have Ta12 := ((Ta11).alloc _).up hb
    have Tb12 := ((Tb11).alloc _).up hb
    have Tx12 := ((Tx11).alloc _).up hb
    have Tp12 := ((Tp11).alloc _).up hb
    have Ty12 := ((Ty11).alloc _).up hb
    have Tq12 := ((Tq11).alloc _).up hb
    have Tm12 := ((Tm11).alloc _).up hb
    have Tn12 := (Two.new _ _ _ _ (w11.heap.size) (by simp)).up hb
    clear hb Ta11 Tb11 Tx11 Tp11 Ty11 Tq11 Tm11 a011 a111 a211 a311 a411 b011 b111 b211 b311 b411 x011 x111 x211 x311 x411 p011 p111 p211 p311 p411 y011 y111 y211 y311 y411 q011 q111 q211 q311 q411 m011 m111 m211 m311 m411
    obtain ⟨a012, a112, a212, a312, a412⟩ := id Ta12
    obtain ⟨b012, b112, b212, b312, b412⟩ := id Tb12
    obtain ⟨x012, x112, x212, x312, x412⟩ := id Tx12
    obtain ⟨p012, p112, p212, p312, p412⟩ := id Tp12
    obtain ⟨y012, y112, y212, y312, y412⟩ := id Ty12
    obtain ⟨q012, q112, q212, q312, q412⟩ := id Tq12
    obtain ⟨m012, m112, m212, m312, m412⟩ := id Tm12
    obtain ⟨n012, n112, n212, n312, n412⟩ := id Tn12
    go_wp2_with fail
    refine (divR_D _ _ _ _ _ L1 L2).mono ?_
    rintro e w13 ⟨rfl, hb⟩
    have B13 := Lib.hid (((B12.out).alloc _).up hb)
    have Ta13 := ((Ta12).alloc _).up hb
    have Tb13 := ((Tb12).alloc _).up hb
    have Tx13 := ((Tx12).alloc _).up hb
    have Tp13 := ((Tp12).alloc _).up hb
    have Ty13 := ((Ty12).alloc _).up hb
    have Tq13 := ((Tq12).alloc _).up hb
    have Tm13 := ((Tm12).alloc _).up hb
    have Tn13 := ((Tn12).alloc _).up hb
    have Td13 := (Two.new _ _ _ _ (w12.heap.size) (by simp)).up hb
    clear hb Ta12 Tb12 Tx12 Tp12 Ty12 Tq12 Tm12 Tn12 a012 a112 a212 a312 a412 b012 b112 b212 b312 b412 x012 x112 x212 x312 x412 p012 p112 p212 p312 p412 y012 y112 y212 y312 y412 q012 q112 q212 q312 q412 m012 m112 m212 m312 m412 n012 n112 n212 n312 n412
    obtain ⟨a013, a113, a213, a313, a413⟩ := id Ta13
    obtain ⟨b013, b113, b213, b313, b413⟩ := id Tb13
    obtain ⟨x013, x113, x213, x313, x413⟩ := id Tx13
    obtain ⟨p013, p113, p213, p313, p413⟩ := id Tp13
    obtain ⟨y013, y113, y213, y313, y413⟩ := id Ty13
    obtain ⟨q013, q113, q213, q313, q413⟩ := id Tq13
    obtain ⟨m013, m113, m213, m313, m413⟩ := id Tm13
    obtain ⟨n013, n113, n213, n313, n413⟩ := id Tn13
    obtain ⟨d013, d113, d213, d313, d413⟩ := id Td13
    go_wp2_with fail
    refine Qt.regionAll (by kernel_rfl) (by kernel_rfl) ?_
    intro T14 g14 F14 hne14
    have HB14 := Lib.hid (fun t => ((B13.out).alloc _).up (F14.below t))
    have Ta14 := fun t => ((Ta13).alloc _).up (F14.below t)
    have Tb14 := fun t => ((Tb13).alloc _).up (F14.below t)
    have Tx14 := fun t => ((Tx13).alloc _).up (F14.below t)
    have Tp14 := fun t => ((Tp13).alloc _).up (F14.below t)
    have Ty14 := fun t => ((Ty13).alloc _).up (F14.below t)
    have Tq14 := fun t => ((Tq13).alloc _).up (F14.below t)
    have Tm14 := fun t => ((Tm13).alloc _).up (F14.below t)
    have Tn14 := fun t => ((Tn13).alloc _).up (F14.below t)
    have Td14 := fun t => ((Td13).alloc _).up (F14.below t)
    have Tr14 := fun t => (Two.new _ _ _ _ (w13.heap.size) (by simp)).up (F14.below t)
    have a114 := fun t => (Ta14 t).c0
    have a214 := fun t => (Ta14 t).c1
    have b114 := fun t => (Tb14 t).c0
    have b214 := fun t => (Tb14 t).c1
    have x114 := fun t => (Tx14 t).c0
    have x214 := fun t => (Tx14 t).c1
    have p114 := fun t => (Tp14 t).c0
    have p214 := fun t => (Tp14 t).c1
    have y114 := fun t => (Ty14 t).c0
    have y214 := fun t => (Ty14 t).c1
    have q114 := fun t => (Tq14 t).c0
    have q214 := fun t => (Tq14 t).c1
    have m114 := fun t => (Tm14 t).c0
    have m214 := fun t => (Tm14 t).c1
    have n114 := fun t => (Tn14 t).c0
    have n214 := fun t => (Tn14 t).c1
    have d114 := fun t => (Td14 t).c0
    have d214 := fun t => (Td14 t).c1
    have r114 := fun t => (Tr14 t).c0
    have r214 := fun t => (Tr14 t).c1
    clear a013 a113 a213 a313 a413 b013 b113 b213 b313 b413 x013 x113 x213 x313 x413 p013 p113 p213 p313 p413 y013 y113 y213 y313 y413 q013 q113 q213 q313 q413 m013 m113 m213 m313 m413 n013 n113 n213 n313 n413 d013 d113 d213 d313 d413 Ta13 Tb13 Tx13 Tp13 Ty13 Tq13 Tm13 Tn13 Td13
    repeat (go_big_quiet_step (first | (go_at_call 19; with_reducible exact F14.call (same_pair _ _ _)) | (go_at_call 19; with_reducible exact F14.call (same_okD _ _ _ L1.neg)) | (go_at_call 29; with_reducible exact F14.call (neg_D _ _ _ L1)) | (go_at_call 24; with_reducible exact F14.call (negR_D _ _ _ L1))))
    refine wpQuiet_nil ?_
    rintro _ ⟨t14, rfl⟩
    have B14 := Lib.hid (HB14.out t14)
    replace Ta14 := Ta14 t14
    replace Tb14 := Tb14 t14
    replace Tx14 := Tx14 t14
    replace Tp14 := Tp14 t14
    replace Ty14 := Ty14 t14
    replace Tq14 := Tq14 t14
    replace Tm14 := Tm14 t14
    replace Tn14 := Tn14 t14
    replace Td14 := Td14 t14
    replace Tr14 := Tr14 t14
    clear F14 HB14 hne14 a114 a214 b114 b214 x114 x214 p114 p214 y114 y214 q114 q214 m114 m214 n114 n214 d114 d214 r114 r214
    generalize g14 t14 = w14 at *
    clear g14
    obtain ⟨a014, a114, a214, a314, a414⟩ := id Ta14
    obtain ⟨b014, b114, b214, b314, b414⟩ := id Tb14
    obtain ⟨x014, x114, x214, x314, x414⟩ := id Tx14
    obtain ⟨p014, p114, p214, p314, p414⟩ := id Tp14
    obtain ⟨y014, y114, y214, y314, y414⟩ := id Ty14
    obtain ⟨q014, q114, q214, q314, q414⟩ := id Tq14
    obtain ⟨m014, m114, m214, m314, m414⟩ := id Tm14
    obtain ⟨n014, n114, n214, n314, n414⟩ := id Tn14
    obtain ⟨d014, d114, d214, d314, d414⟩ := id Td14
    obtain ⟨r014, r114, r214, r314, r414⟩ := id Tr14
    go_wp2
    go_ret
    exact ⟨rfl, (show Bel w _ by repeat (first | exact B14.out | refine Bel.alloc ?_ _))⟩
end Go.Proofs.YtgbehiagkpcoaaaDoor
