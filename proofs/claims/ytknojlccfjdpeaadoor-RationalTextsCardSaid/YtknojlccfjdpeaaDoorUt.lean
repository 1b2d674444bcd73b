/- The walk of the law on texts. -/
import Derived.Test.YtknojlccfjdpeaaDoorTg
namespace Go.Proofs.YtknojlccfjdpeaaDoor
open Go.RowKit
set_option linter.unusedVariables false
set_option linter.unusedSimpArgs false

theorem textB_size {a D : Int} (h : Rat1.Low a D) : (textB a D).size ≤ 100 := by
  have p1 := h.pos; have l1 := h.le; have m1 := h.num
  unfold Rat1.mx at l1 m1
  have k1 := Lib.itoa_length_le a (by omega) (by omega)
  have k2 := Lib.itoa_length_le D (by omega) (by omega)
  rw [size_list]
  unfold textB Rat1.textQ
  split
  · simp; omega
  · simp; omega
theorem parse_text (a D : Int) (w : World) (h : Rat1.Low a D) (ht : Tab w) :
    Calls Tryd.prog 7 #[.string (textB a D)] w fun e w' => e = .returned (.tuple #[.agg #[.int .i64 a, .int .i64 (D - 1)], .int .i64 0, .int .i64 0]) ∧ Below w.heap.size w w' := by
  have k := parse_any (textB a D) w (by have := textB_size h; omega) ht
  have e : (textB a D).data.toList = Rat1.textQ a D := by simp [textB]
  rw [e, Rat1.parseQ_text h] at k
  exact k
set_option maxRecDepth 100000 in
set_option maxHeartbeats 2000000 in
theorem law_RationalTexts (a0 a1 : Int) (w : World) (ht : Tab w) :
    Calls Tryd.prog 3 #[.agg #[.int .i64 a0, .int .i64 a1]] w fun e w' => e = .returned (.bool true) ∧ Below w.heap.size w w' := by
  have HT := Lib.hid ht
  clear ht
  go_enter Tryd.func3, Tryd.ntmps3
  go_wp2_with fail
  refine (of_fr a0 a1 _).mono ?_
  rintro e w1 ⟨N1, D1, L1, rfl, hb⟩
  have B1 := Lib.hid (((Bel.refl w).alloc _).up hb)
  have Ta1 := (Two.new _ _ _ _ (w.heap.size) (by simp)).up hb
  clear hb
  obtain ⟨a01, a11, a21, a31, a41⟩ := id Ta1
  have p1 := L1.pos
  have l1 := L1.le
  have m1 := L1.num
  unfold Rat1.mx at l1 m1
  go_wp2_with fail
  refine (text_D _ _ _ L1 (HT.out.below ((B1.out.alloc _).alloc _).out)).mono ?_
  rintro e w2 ⟨rfl, hb⟩
  have B2 := Lib.hid ((((B1.out).alloc _).alloc _).up hb)
  have Ta2 := (((Ta1).alloc _).alloc _).up hb
  have Tx2 := ((Two.new _ _ _ _ (w1.heap.size) (by simp)).alloc _).up hb
  have Tp2 := (Two.new _ _ _ _ (w1.heap.size + 1) (by simp)).up hb
  clear hb Ta1 a01 a11 a21 a31 a41
  obtain ⟨a02, a12, a22, a32, a42⟩ := id Ta2
  obtain ⟨x02, x12, x22, x32, x42⟩ := id Tx2
  obtain ⟨p02, p12, p22, p32, p42⟩ := id Tp2
  go_wp2_with fail
  refine (parse_text _ _ _ L1 (HT.out.below (B2.out).out)).mono ?_
  rintro e w3 ⟨rfl, hb⟩
  have B3 := Lib.hid ((B2.out).up hb)
  have Ta3 := (Ta2).up hb
  have Tx3 := (Tx2).up hb
  have Tp3 := (Tp2).up hb
  clear hb Ta2 Tx2 Tp2 a02 a12 a22 a32 a42 x02 x12 x22 x32 x42 p02 p12 p22 p32 p42
  obtain ⟨a03, a13, a23, a33, a43⟩ := id Ta3
  obtain ⟨x03, x13, x23, x33, x43⟩ := id Tx3
  obtain ⟨p03, p13, p23, p33, p43⟩ := id Tp3
  go_wp2_with fail
  refine Qt.regionAll (by kernel_rfl) (by kernel_rfl) ?_
  intro T4 g4 F4 hne4
  have HB4 := Lib.hid (fun t => ((B3.out).alloc _).up (F4.below t))
  have Ta4 := fun t => ((Ta3).alloc _).up (F4.below t)
  have Tx4 := fun t => ((Tx3).alloc _).up (F4.below t)
  have Tp4 := fun t => ((Tp3).alloc _).up (F4.below t)
  have Ty4 := fun t => (Two.new _ _ _ _ (w3.heap.size) (by simp)).up (F4.below t)
  have a14 := fun t => (Ta4 t).c0
  have a24 := fun t => (Ta4 t).c1
  have x14 := fun t => (Tx4 t).c0
  have x24 := fun t => (Tx4 t).c1
  have p14 := fun t => (Tp4 t).c0
  have p24 := fun t => (Tp4 t).c1
  have y14 := fun t => (Ty4 t).c0
  have y24 := fun t => (Ty4 t).c1
  clear a03 a13 a23 a33 a43 x03 x13 x23 x33 x43 p03 p13 p23 p33 p43 Ta3 Tx3 Tp3
  repeat (go_big_quiet_step (first | (go_at_call 9; exact F4.call (known_any _ (HT.out.below (HB4.out _).out))) | (go_at_call 8; exact F4.call (text_D _ _ _ L1 (HT.out.below (HB4.out _).out))) | (go_at_call 10; exact F4.call (textR_any _ _ _ L1))))
  refine wpQuiet_nil ?_
  rintro _ ⟨t4, rfl⟩
  have B4 := Lib.hid (HB4.out t4)
  replace Ta4 := Ta4 t4
  replace Tx4 := Tx4 t4
  replace Tp4 := Tp4 t4
  replace Ty4 := Ty4 t4
  clear F4 HB4 hne4 a14 a24 x14 x24 p14 p24 y14 y24
  generalize g4 t4 = w4 at *
  clear g4
  obtain ⟨a04, a14, a24, a34, a44⟩ := id Ta4
  obtain ⟨x04, x14, x24, x34, x44⟩ := id Tx4
  obtain ⟨p04, p14, p24, p34, p44⟩ := id Tp4
  obtain ⟨y04, y14, y24, y34, y44⟩ := id Ty4
  go_wp2
  go_ret
  exact ⟨rfl, (show Bel w _ by repeat (first | exact B4.out | refine Bel.alloc ?_ _))⟩
end Go.Proofs.YtknojlccfjdpeaaDoor
