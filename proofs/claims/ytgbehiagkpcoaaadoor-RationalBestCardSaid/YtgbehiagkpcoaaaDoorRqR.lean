/- The walk of the law on integers near a fraction. -/
import Derived.Test.YtgbehiagkpcoaaaDoorRqB
namespace Go.Proofs.YtgbehiagkpcoaaaDoor
open Go.RowKit
set_option linter.unusedVariables false
set_option linter.unusedSimpArgs false

theorem half_ok {a D : Int} (h : Rat1.Low a D) (W : Prop) : Rat1.ofD (2 * a + D) (2 * D) > 1 ∨ Rat1.ofN (2 * a + D) (2 * D) = 0 ∨ Rat1.ofN (2 * a + D) (2 * D) = (2 * a + D) / (2 * D) := by
  have p1 := h.pos
  rcases Rat1.of_cases (2 * a + D) (2 * D) with ⟨h1, h2⟩ | ⟨h1, h2, h3⟩
  · obtain ⟨hl, hd, hq⟩ := Rat1.ofQ_low (ofQ_of h1)
    have p2 := hl.pos
    by_cases hD : Rat1.ofD (2 * a + D) (2 * D) = 1
    · right; right
      rw [hD] at hq
      rw [Int.mul_one] at hq
      exact (Int.ediv_eq_of_eq_mul_left (by omega) (by omega)).symm
    · left; omega
  · right; left; exact h2

set_option maxRecDepth 100000 in
set_option maxHeartbeats 2000000 in
theorem law_RationalRounds (a0 a1 : Int) (w : World) (ht : Tab w) :
    Calls Tryd.prog 8 #[.agg #[.int .i64 a0, .int .i64 a1]] w fun e w' => e = .returned (.bool true) ∧ Below w.heap.size w w' := by
  have HT := Lib.hid ht
  clear ht
  go_enter Tryd.func8, Tryd.ntmps8
  go_wp2_with fail
  refine (of_fr a0 a1 _).mono ?_
  rintro e w1 ⟨N1, D1, L1, rfl, hb⟩
  have B1 := Lib.hid (((Bel.refl w).alloc _).up hb)
  have Ta1 := (Two.new _ _ _ _ (w.heap.size) (by simp)).up hb
  clear hb
  obtain ⟨a01, a11, a21, a31, a41⟩ := id Ta1
  have p1 := L1.pos
  have l1 := L1.le
  have m1 := L1.num
  unfold Rat1.mx at l1 m1
  have hf1 := half_ok L1 True
  go_wp2_with fail
  refine (ofRef_call (2 * N1 + D1) (2 * D1) _ (by omega) (by omega) (by omega) (by omega)).mono ?_
  rintro e w2 ⟨rfl, hb⟩
  have B2 := Lib.hid ((((B1.out).alloc _).alloc _).up hb)
  have Tx2 := ((Two.new _ _ _ _ (w1.heap.size) (by simp)).alloc _).up hb
  have Tp2 := (Two.new _ _ _ _ (w1.heap.size + 1) (by simp)).up hb
  clear hb Ta1 a01 a11 a21 a31 a41
  obtain ⟨x02, x12, x22, x32, x42⟩ := id Tx2
  obtain ⟨p02, p12, p22, p32, p42⟩ := id Tp2
  go_wp2_with fail
  refine (floorRef_any (2 * N1 + D1) (2 * D1) _ (by omega) (by omega) (by omega) (by omega)).mono ?_
  rintro e w3 ⟨rfl, hb⟩
  have B3 := Lib.hid (((B2.out).alloc _).up hb)
  have Tx3 := ((Tx2).alloc _).up hb
  have Tp3 := ((Tp2).alloc _).up hb
  have Th3 := (Two.new _ _ _ _ (w2.heap.size) (by simp)).up hb
  clear hb Tx2 Tp2 x02 x12 x22 x32 x42 p02 p12 p22 p32 p42
  obtain ⟨x03, x13, x23, x33, x43⟩ := id Tx3
  obtain ⟨p03, p13, p23, p33, p43⟩ := id Tp3
  obtain ⟨h03, h13, h23, h33, h43⟩ := id Th3
  obtain ⟨r1, r2⟩ := div_bd (x := -N1) (y := D1) (by omega) (by omega) p1
  obtain ⟨r3, r4⟩ := div_bd (x := N1) (y := D1) (by omega) (by omega) p1
  go_wp2_with fail
  by_cases hd : 1 < Rat1.ofD (2 * N1 + D1) (2 * D1)
  · have hd1 : decide (1 < Rat1.ofD (2 * N1 + D1) (2 * D1)) = true := by simpa using hd
    clear hf1 hd
    refine Qt.regionAll (by kernel_rfl) (by kernel_rfl) ?_
    intro T4 g4 F4 hne4
    have HB4 := Lib.hid (fun t => (B3.out).up (F4.below t))
    have Tx4 := fun t => (Tx3).up (F4.below t)
    have Tp4 := fun t => (Tp3).up (F4.below t)
    have Th4 := fun t => (Th3).up (F4.below t)
    have x14 := fun t => (Tx4 t).c0
    have x24 := fun t => (Tx4 t).c1
    have p14 := fun t => (Tp4 t).c0
    have p24 := fun t => (Tp4 t).c1
    have h14 := fun t => (Th4 t).c0
    have h24 := fun t => (Th4 t).c1
    clear x03 x13 x23 x33 x43 p03 p13 p23 p33 p43 h03 h13 h23 h33 h43 Tx3 Tp3 Th3
    repeat (go_big_quiet_step (first | (go_at_call 18; exact F4.call (known_any _ (HT.out.below (HB4.out _).out))) | (go_at_call 34; exact F4.call (floor_D _ _ _ L1)) | (go_at_call 35; exact F4.call (ceil_D _ _ _ L1)) | (go_at_call 36; exact F4.call (round_D _ _ _ L1)) | (go_at_call 33; exact F4.call (floorRef_any _ _ _ (by omega) (by omega) (by omega) (by omega))) | (go_at_call 24; exact F4.call (negR_D _ _ _ L1))))
    refine wpQuiet_nil ?_
    rintro _ ⟨t4, rfl⟩
    have B4 := Lib.hid (HB4.out t4)
    replace Tx4 := Tx4 t4
    replace Tp4 := Tp4 t4
    replace Th4 := Th4 t4
    clear F4 HB4 hne4 x14 x24 p14 p24 h14 h24
    generalize g4 t4 = w4 at *
    clear g4
    obtain ⟨x04, x14, x24, x34, x44⟩ := id Tx4
    obtain ⟨p04, p14, p24, p34, p44⟩ := id Tp4
    obtain ⟨h04, h14, h24, h34, h44⟩ := id Th4
    go_wp2
    go_ret
    exact ⟨rfl, B4.out.out⟩
  · have hd1 : decide (1 < Rat1.ofD (2 * N1 + D1) (2 * D1)) = false := by simpa using hd
    by_cases hn : Rat1.ofN (2 * N1 + D1) (2 * D1) = 0
    · have hn1 : (Rat1.ofN (2 * N1 + D1) (2 * D1) == 0) = true := by simpa using hn
      clear hf1 hd hn
      refine Qt.regionAll (by kernel_rfl) (by kernel_rfl) ?_
      intro T4 g4 F4 hne4
      have HB4 := Lib.hid (fun t => (B3.out).up (F4.below t))
      have Tx4 := fun t => (Tx3).up (F4.below t)
      have Tp4 := fun t => (Tp3).up (F4.below t)
      have Th4 := fun t => (Th3).up (F4.below t)
      have x14 := fun t => (Tx4 t).c0
      have x24 := fun t => (Tx4 t).c1
      have p14 := fun t => (Tp4 t).c0
      have p24 := fun t => (Tp4 t).c1
      have h14 := fun t => (Th4 t).c0
      have h24 := fun t => (Th4 t).c1
      clear x03 x13 x23 x33 x43 p03 p13 p23 p33 p43 h03 h13 h23 h33 h43 Tx3 Tp3 Th3
      repeat (go_big_quiet_step (first | (go_at_call 18; exact F4.call (known_any _ (HT.out.below (HB4.out _).out))) | (go_at_call 34; exact F4.call (floor_D _ _ _ L1)) | (go_at_call 35; exact F4.call (ceil_D _ _ _ L1)) | (go_at_call 36; exact F4.call (round_D _ _ _ L1)) | (go_at_call 33; exact F4.call (floorRef_any _ _ _ (by omega) (by omega) (by omega) (by omega))) | (go_at_call 24; exact F4.call (negR_D _ _ _ L1))))
      refine wpQuiet_nil ?_
      rintro _ ⟨t4, rfl⟩
      have B4 := Lib.hid (HB4.out t4)
      replace Tx4 := Tx4 t4
      replace Tp4 := Tp4 t4
      replace Th4 := Th4 t4
      clear F4 HB4 hne4 x14 x24 p14 p24 h14 h24
      generalize g4 t4 = w4 at *
      clear g4
      obtain ⟨x04, x14, x24, x34, x44⟩ := id Tx4
      obtain ⟨p04, p14, p24, p34, p44⟩ := id Tp4
      obtain ⟨h04, h14, h24, h34, h44⟩ := id Th4
      go_wp2
      go_ret
      exact ⟨rfl, B4.out.out⟩
    · have hn1 : (Rat1.ofN (2 * N1 + D1) (2 * D1) == 0) = false := by simpa using hn
      have hn2 : (Rat1.ofN (2 * N1 + D1) (2 * D1) == (2 * N1 + D1) / (2 * D1)) = true := by simp; omega
      clear hf1 hd hn
      refine Qt.regionAll (by kernel_rfl) (by kernel_rfl) ?_
      intro T4 g4 F4 hne4
      have HB4 := Lib.hid (fun t => (B3.out).up (F4.below t))
      have Tx4 := fun t => (Tx3).up (F4.below t)
      have Tp4 := fun t => (Tp3).up (F4.below t)
      have Th4 := fun t => (Th3).up (F4.below t)
      have x14 := fun t => (Tx4 t).c0
      have x24 := fun t => (Tx4 t).c1
      have p14 := fun t => (Tp4 t).c0
      have p24 := fun t => (Tp4 t).c1
      have h14 := fun t => (Th4 t).c0
      have h24 := fun t => (Th4 t).c1
      clear x03 x13 x23 x33 x43 p03 p13 p23 p33 p43 h03 h13 h23 h33 h43 Tx3 Tp3 Th3
      repeat (go_big_quiet_step (first | (go_at_call 18; exact F4.call (known_any _ (HT.out.below (HB4.out _).out))) | (go_at_call 34; exact F4.call (floor_D _ _ _ L1)) | (go_at_call 35; exact F4.call (ceil_D _ _ _ L1)) | (go_at_call 36; exact F4.call (round_D _ _ _ L1)) | (go_at_call 33; exact F4.call (floorRef_any _ _ _ (by omega) (by omega) (by omega) (by omega))) | (go_at_call 24; exact F4.call (negR_D _ _ _ L1))))
      refine wpQuiet_nil ?_
      rintro _ ⟨t4, rfl⟩
      have B4 := Lib.hid (HB4.out t4)
      replace Tx4 := Tx4 t4
      replace Tp4 := Tp4 t4
      replace Th4 := Th4 t4
      clear F4 HB4 hne4 x14 x24 p14 p24 h14 h24
      generalize g4 t4 = w4 at *
      clear g4
      obtain ⟨x04, x14, x24, x34, x44⟩ := id Tx4
      obtain ⟨p04, p14, p24, p34, p44⟩ := id Tp4
      obtain ⟨h04, h14, h24, h34, h44⟩ := id Th4
      go_wp2
      go_ret
      exact ⟨rfl, B4.out.out⟩
end Go.Proofs.YtgbehiagkpcoaaaDoor
