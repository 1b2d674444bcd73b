/- The reference's Transpose. -/
import Derived.Test.YtfbogakmhaiddaaDoorIn
namespace Go.Proofs.YtfbogakmhaiddaaDoor
open Go.RowKit
set_option linter.unusedVariables false
set_option linter.unusedSimpArgs false

set_option maxHeartbeats 1000000 in
theorem refDist_any (x y : Int) (w : World) (x0 : -1000 ≤ x) (x1 : x ≤ 1000) (y0 : -1000 ≤ y) (y1 : y ≤ 1000) :
    Calls Tryd.prog 48 #[.int .i64 x, .int .i64 y] w fun e w' => e = .returned (.int .i64 (absI (x - y))) ∧ w = w' := by
  by_cases h : y < x
  · have e : absI (x - y) = x - y := by unfold absI; rw [if_neg (by omega)]
    rw [e]
    go_enter Tryd.func48, Tryd.ntmps48
    go_wp2_with fail
    go_ret
    exact ⟨rfl, rfl⟩
  · have e : absI (x - y) = y - x := by unfold absI; split <;> omega
    rw [e]
    go_enter Tryd.func48, Tryd.ntmps48
    go_wp2_with fail
    go_ret
    exact ⟨rfl, rfl⟩
theorem refDist_call (x y : Int) (w : World) (x0 : -1000 ≤ x) (x1 : x ≤ 1000) (y0 : -1000 ≤ y) (y1 : y ≤ 1000) :
    Calls Tryd.prog 48 #[.int .i64 x, .int .i64 y] w fun e w' => e = .returned (.int .i64 (absI (x - y))) ∧ Below w.heap.size w w' :=
  (refDist_any x y w x0 x1 y0 y1).mono fun e w' ⟨he, hw⟩ => ⟨he, hw ▸ Below.refl _ _⟩
set_option maxRecDepth 100000 in
set_option maxHeartbeats 2000000 in
theorem rtransp_b3 (s a o t m : Int) (w : World) (h : Pit s a o) (k : Iv t m) (l : numP s a o + m < 0 ∨ 127 < numP s a o + m) :
    Calls Tryd.prog 26 #[.agg #[.int .i64 s, .int .i64 a, .int .i64 o], .agg #[.int .i64 t, .int .i64 m]] w fun e w' => e = .returned (.tuple #[.agg #[.int .i64 0, .int .i64 0, .int .i64 0], .int .i64 18]) ∧ Below w.heap.size w w' := by
  have B0 := Lib.hid ((((Bel.refl w).alloc (.cells #[.int .i64 s, .int .i64 a, .int .i64 o] 41)).alloc (.cells #[.int .i64 t, .int .i64 m] 23)).alloc (.cells #[.int .i64 0, .int .i64 0, .int .i64 0] 41))
  have X0 := ((Tri.new w (.int .i64 s) (.int .i64 a) (.int .i64 o) 41 (w.heap.size) (by simp)).alloc (.cells #[.int .i64 t, .int .i64 m] 23)).alloc (.cells #[.int .i64 0, .int .i64 0, .int .i64 0] 41)
  have Y0 := (Duo.new (w.alloc (.cells #[.int .i64 s, .int .i64 a, .int .i64 o] 41)) (.int .i64 t) (.int .i64 m) 23 (w.heap.size + 1) (by simp)).alloc (.cells #[.int .i64 0, .int .i64 0, .int .i64 0] 41)
  have R0 := Tri.new ((w.alloc (.cells #[.int .i64 s, .int .i64 a, .int .i64 o] 41)).alloc (.cells #[.int .i64 t, .int .i64 m] 23)) (.int .i64 0) (.int .i64 0) (.int .i64 0) 41 (w.heap.size + 1 + 1) (by simp)
  have HP := Lib.hid h
  have HQ := Lib.hid k
  have HL := Lib.hid l
  have N0 := h.n0; have N1 := h.n1; have M0 := k.m0; have M1 := k.m1; have T0' := k.t0; have T1' := k.t1
  obtain ⟨D0, D1⟩ := dia_bd h
  go_enter Tryd.func26, Tryd.ntmps26
  obtain ⟨xf0, xf1, xf2, xf3, xf4, xf5, xf6⟩ := id X0
  obtain ⟨yf0, yf1, yf2, yf3, yf4⟩ := id Y0
  obtain ⟨rf0, rf1, rf2, rf3, rf4, rf5, rf6⟩ := id R0
  go_wp2_with fail
  clear xf0 xf1 xf2 xf3 xf4 xf5 xf6 yf0 yf1 yf2 yf3 yf4 rf0 rf1 rf2 rf3 rf4 rf5 rf6
  refine (valid_yes s a o _ HP.out).mono ?_
  rintro e w1 ⟨rfl, hb⟩
  have B1 := Lib.hid (B0.out.up hb)
  have X1 := X0.up hb
  have Y1 := Y0.up hb
  have R1 := R0.up hb
  clear hb B0  X0 Y0 R0
  obtain ⟨xf0, xf1, xf2, xf3, xf4, xf5, xf6⟩ := id X1
  obtain ⟨yf0, yf1, yf2, yf3, yf4⟩ := id Y1
  obtain ⟨rf0, rf1, rf2, rf3, rf4, rf5, rf6⟩ := id R1
  go_wp2_with fail
  clear xf0 xf1 xf2 xf3 xf4 xf5 xf6 yf0 yf1 yf2 yf3 yf4 rf0 rf1 rf2 rf3 rf4 rf5 rf6
  refine (refIs_yes t m _ HQ.out).mono ?_
  rintro e w2 ⟨rfl, hb⟩
  have B2 := Lib.hid (B1.out.up hb)
  have X2 := X1.up hb
  have Y2 := Y1.up hb
  have R2 := R1.up hb
  clear hb B1  X1 Y1 R1
  obtain ⟨xf0, xf1, xf2, xf3, xf4, xf5, xf6⟩ := id X2
  obtain ⟨yf0, yf1, yf2, yf3, yf4⟩ := id Y2
  obtain ⟨rf0, rf1, rf2, rf3, rf4, rf5, rf6⟩ := id R2
  go_wp2_with fail
  clear xf0 xf1 xf2 xf3 xf4 xf5 xf6 yf0 yf1 yf2 yf3 yf4 rf0 rf1 rf2 rf3 rf4 rf5 rf6
  refine Qt.region 5 (by kernel_rfl) (by kernel_rfl) ?_
  intro T f F hne
  have RB := Lib.hid (fun g => B2.out.up (F.below g))
  have RX := fun g => X2.up (F.below g)
  have RX0 := fun g => (RX g).c0
  have RX1 := fun g => (RX g).c1
  have RX2 := fun g => (RX g).c2
  have RY := fun g => Y2.up (F.below g)
  have RY0 := fun g => (RY g).c0
  have RY1 := fun g => (RY g).c1
  have RR := fun g => R2.up (F.below g)
  have RR0 := fun g => (RR g).c0
  have RR1 := fun g => (RR g).c1
  have RR2 := fun g => (RR g).c2
  simp only [List.take_succ_cons, List.take_zero, List.drop_succ_cons, List.drop_zero]
  repeat (go_big_quiet_step (first | (go_at_call 27; with_reducible exact F.call (refNum_any s a o _ HP.out.s0 HP.out.s1 HP.out.a0 HP.out.a1 HP.out.o0 HP.out.o1))))
  refine wpQuiet_nil ?_
  rintro _ ⟨g, rfl⟩
  have B3 := Lib.hid (RB.out g)
  have X3 := RX g
  have Y3 := RY g
  have R3 := RR g
  clear F RB hne RX RX0 RX1 RX2 RY RY0 RY1 RR RR0 RR1 RR2 B2 X2 Y2 R2
  generalize f g = w3 at *
  clear f
  obtain ⟨xf0, xf1, xf2, xf3, xf4, xf5, xf6⟩ := id X3
  obtain ⟨yf0, yf1, yf2, yf3, yf4⟩ := id Y3
  obtain ⟨rf0, rf1, rf2, rf3, rf4, rf5, rf6⟩ := id R3
  go_wp2_with fail
  clear xf0 xf1 xf2 xf3 xf4 xf5 xf6 yf0 yf1 yf2 yf3 yf4 rf0 rf1 rf2 rf3 rf4 rf5 rf6
  refine (refAll_any (numP s a o + m) _ (by omega) (by omega)).mono ?_
  rintro e w4 ⟨v, rfl, hown, hb⟩
  rw [refA_enh] at hown
  obtain ⟨ad, cap, rfl, hrow⟩ := rows_any hown
  have HW := Lib.hid hrow
  have HA := Lib.hid (show XL w w4 w4 s a o t m from ⟨B3.out.up hb, Below.refl _ _, X3.up hb, Y3.up hb, R3.up hb⟩)
  clear hown hrow hb B3 X3 Y3 R3
  have hpit := Lib.hid (enhL_pit (n := numP s a o + m))
  have hlen := enhL_len (numP s a o + m)
  rw [enhL_none HL.out]
  obtain ⟨r0, r1, r2, r3, r4, r5, r6⟩ := id HA.out.r
  go_wp2_with fail
  have Tf := HA.out.r.store (u := .int .i64 0) (v := .int .i64 0) (t := .int .i64 0)
  exact bodyPost_ret (v := .tuple #[.agg #[.int .i64 0, .int .i64 0, .int .i64 0], .int .i64 18]) (by simp [results, Tryd.results26, go_sem, Tf.c0, Tf.c1, Tf.c2]) rfl ⟨rfl, ((HA.out.bel.set (Nat.le_succ_of_le (Nat.le_succ _)) _ _).set (Nat.le_succ_of_le (Nat.le_succ _)) _ _).set (Nat.le_succ_of_le (Nat.le_succ _)) _ _⟩
set_option maxRecDepth 100000 in
set_option maxHeartbeats 2000000 in
theorem rtransp_ok (s a o t m : Int) (q0 M : Int × Int × Int) (w : World) (h : Pit s a o) (k : Iv t m) (n0 : 0 ≤ numP s a o + m) (n1 : numP s a o + m ≤ 127) (h0 : (enhL (numP s a o + m))[0]? = some q0) (hM : minF (diaP s o + t) ((enhL (numP s a o + m)).drop 1) q0 = M) :
    Calls Tryd.prog 26 #[.agg #[.int .i64 s, .int .i64 a, .int .i64 o], .agg #[.int .i64 t, .int .i64 m]] w fun e w' => e = .returned (.tuple #[.agg #[.int .i64 M.1, .int .i64 M.2.1, .int .i64 M.2.2], .int .i64 0]) ∧ Below w.heap.size w w' := by
  have B0 := Lib.hid ((((Bel.refl w).alloc (.cells #[.int .i64 s, .int .i64 a, .int .i64 o] 41)).alloc (.cells #[.int .i64 t, .int .i64 m] 23)).alloc (.cells #[.int .i64 0, .int .i64 0, .int .i64 0] 41))
  have X0 := ((Tri.new w (.int .i64 s) (.int .i64 a) (.int .i64 o) 41 (w.heap.size) (by simp)).alloc (.cells #[.int .i64 t, .int .i64 m] 23)).alloc (.cells #[.int .i64 0, .int .i64 0, .int .i64 0] 41)
  have Y0 := (Duo.new (w.alloc (.cells #[.int .i64 s, .int .i64 a, .int .i64 o] 41)) (.int .i64 t) (.int .i64 m) 23 (w.heap.size + 1) (by simp)).alloc (.cells #[.int .i64 0, .int .i64 0, .int .i64 0] 41)
  have R0 := Tri.new ((w.alloc (.cells #[.int .i64 s, .int .i64 a, .int .i64 o] 41)).alloc (.cells #[.int .i64 t, .int .i64 m] 23)) (.int .i64 0) (.int .i64 0) (.int .i64 0) 41 (w.heap.size + 1 + 1) (by simp)
  have HP := Lib.hid h
  have HQ := Lib.hid k
  have hne := enhL_some n0 n1
  have N0 := h.n0; have N1 := h.n1; have M0 := k.m0; have M1 := k.m1; have T0' := k.t0; have T1' := k.t1
  obtain ⟨D0, D1⟩ := dia_bd h
  go_enter Tryd.func26, Tryd.ntmps26
  obtain ⟨xf0, xf1, xf2, xf3, xf4, xf5, xf6⟩ := id X0
  obtain ⟨yf0, yf1, yf2, yf3, yf4⟩ := id Y0
  obtain ⟨rf0, rf1, rf2, rf3, rf4, rf5, rf6⟩ := id R0
  go_wp2_with fail
  clear xf0 xf1 xf2 xf3 xf4 xf5 xf6 yf0 yf1 yf2 yf3 yf4 rf0 rf1 rf2 rf3 rf4 rf5 rf6
  refine (valid_yes s a o _ HP.out).mono ?_
  rintro e w1 ⟨rfl, hb⟩
  have B1 := Lib.hid (B0.out.up hb)
  have X1 := X0.up hb
  have Y1 := Y0.up hb
  have R1 := R0.up hb
  clear hb B0  X0 Y0 R0
  obtain ⟨xf0, xf1, xf2, xf3, xf4, xf5, xf6⟩ := id X1
  obtain ⟨yf0, yf1, yf2, yf3, yf4⟩ := id Y1
  obtain ⟨rf0, rf1, rf2, rf3, rf4, rf5, rf6⟩ := id R1
  go_wp2_with fail
  clear xf0 xf1 xf2 xf3 xf4 xf5 xf6 yf0 yf1 yf2 yf3 yf4 rf0 rf1 rf2 rf3 rf4 rf5 rf6
  refine (refIs_yes t m _ HQ.out).mono ?_
  rintro e w2 ⟨rfl, hb⟩
  have B2 := Lib.hid (B1.out.up hb)
  have X2 := X1.up hb
  have Y2 := Y1.up hb
  have R2 := R1.up hb
  clear hb B1  X1 Y1 R1
  obtain ⟨xf0, xf1, xf2, xf3, xf4, xf5, xf6⟩ := id X2
  obtain ⟨yf0, yf1, yf2, yf3, yf4⟩ := id Y2
  obtain ⟨rf0, rf1, rf2, rf3, rf4, rf5, rf6⟩ := id R2
  go_wp2_with fail
  clear xf0 xf1 xf2 xf3 xf4 xf5 xf6 yf0 yf1 yf2 yf3 yf4 rf0 rf1 rf2 rf3 rf4 rf5 rf6
  refine Qt.region 5 (by kernel_rfl) (by kernel_rfl) ?_
  intro T f F hne
  have RB := Lib.hid (fun g => B2.out.up (F.below g))
  have RX := fun g => X2.up (F.below g)
  have RX0 := fun g => (RX g).c0
  have RX1 := fun g => (RX g).c1
  have RX2 := fun g => (RX g).c2
  have RY := fun g => Y2.up (F.below g)
  have RY0 := fun g => (RY g).c0
  have RY1 := fun g => (RY g).c1
  have RR := fun g => R2.up (F.below g)
  have RR0 := fun g => (RR g).c0
  have RR1 := fun g => (RR g).c1
  have RR2 := fun g => (RR g).c2
  simp only [List.take_succ_cons, List.take_zero, List.drop_succ_cons, List.drop_zero]
  repeat (go_big_quiet_step (first | (go_at_call 27; with_reducible exact F.call (refNum_any s a o _ HP.out.s0 HP.out.s1 HP.out.a0 HP.out.a1 HP.out.o0 HP.out.o1))))
  refine wpQuiet_nil ?_
  rintro _ ⟨g, rfl⟩
  have B3 := Lib.hid (RB.out g)
  have X3 := RX g
  have Y3 := RY g
  have R3 := RR g
  clear F RB hne RX RX0 RX1 RX2 RY RY0 RY1 RR RR0 RR1 RR2 B2 X2 Y2 R2
  generalize f g = w3 at *
  clear f
  obtain ⟨xf0, xf1, xf2, xf3, xf4, xf5, xf6⟩ := id X3
  obtain ⟨yf0, yf1, yf2, yf3, yf4⟩ := id Y3
  obtain ⟨rf0, rf1, rf2, rf3, rf4, rf5, rf6⟩ := id R3
  go_wp2_with fail
  clear xf0 xf1 xf2 xf3 xf4 xf5 xf6 yf0 yf1 yf2 yf3 yf4 rf0 rf1 rf2 rf3 rf4 rf5 rf6
  refine (refAll_any (numP s a o + m) _ (by omega) (by omega)).mono ?_
  rintro e w4 ⟨v, rfl, hown, hb⟩
  rw [refA_enh] at hown
  obtain ⟨ad, cap, rfl, hrow⟩ := rows_any hown
  have HW := Lib.hid hrow
  have HA := Lib.hid (show XL w w4 w4 s a o t m from ⟨B3.out.up hb, Below.refl _ _, X3.up hb, Y3.up hb, R3.up hb⟩)
  clear hown hrow hb B3 X3 Y3 R3
  have hpit := Lib.hid (enhL_pit (n := numP s a o + m))
  have hlen := enhL_len (numP s a o + m)
  generalize enhL (numP s a o + m) = L at *
  have hpos := List.length_pos_iff.2 hne
  obtain ⟨g, rfl, hrow⟩ := HW.out hne
  have HR := Lib.hid hrow
  obtain ⟨q1, q2, q3⟩ := hrow 0 q0 h0
  simp only [Nat.zero_mul, Nat.zero_add] at q1 q2 q3
  have H0 := Lib.hid h0
  have HM := Lib.hid hM
  clear h0 hM hrow HW hne
  go_wp2_with fail
  rw [show ((L.length : Int) == 0) = false from by simp only [beq_eq_false_iff_ne, ne_eq]; omega]
  go_loopg [8] (L.length - 1) (fun gm i wr => ∃ k : Nat, 1 ≤ k ∧ k ≤ L.length ∧ gm = L.length - k ∧ i = .int .i64 (k : Int) ∧ ∃ b : Int × Int × Int, Hid (Pit b.1 b.2.1 b.2.2) ∧ Hid (minF (diaP s o + t) (L.drop k) b = M) ∧ Hid (Below w4.heap.size w4 wr) ∧ Hid (Tri wr w4.heap.size (.int .i64 b.1) (.int .i64 b.2.1) (.int .i64 b.2.2)))
  case atStart => exact ⟨1, by omega, by omega, by omega, rfl, q0, Lib.hid (hpit.out q0 (List.mem_of_getElem? H0.out)).1, HM, Lib.hid ((Below.refl _ _).alloc (Nat.le_refl _) _), Lib.hid (Tri.new _ _ _ _ _ _ (by simp))⟩
  case round =>
    obtain ⟨k', k1, hk, rfl, rfl, b, HPb, HG, HU, HB⟩ := hrel
    have HS := Lib.hid (HA.out.go HU.out)
    clear q1 q2 q3
    by_cases hlt : k' < L.length
    · obtain ⟨q, hq⟩ : ∃ q, L[k']? = some q := ⟨_, List.getElem?_eq_getElem hlt⟩
      obtain ⟨q1, q2, q3⟩ := HR.out.up HU.out k' q hq
      have pq := Lib.hid (hpit.out q (List.mem_of_getElem? hq)).1
      have HD := Lib.hid (minF_at (p := diaP s o + t) (m := b) hq)
      obtain ⟨f0, f1⟩ := dia_bd pq.out
      obtain ⟨f2, f3⟩ := dia_bd HPb.out
      clear hq
      go_wp2_with fail
      refine Qt.regionAll (by kernel_rfl) (by kernel_rfl) ?_
      intro T f F hne
      have RS := Lib.hid (fun g => HS.out.go (F.below g))
      have RU := Lib.hid (fun g => HU.out.trans ((F.below g).mono HU.out.size))
      have RB := Lib.hid (fun g => HB.out.up (F.below g))
      have a1 := fun t => cell_up (F.below t) q1; have a2 := fun t => cell_up (F.below t) q2; have a3 := fun t => cell_up (F.below t) q3
      have b1 := fun t => (RS.out t).p.c0; have b2 := fun t => (RS.out t).p.c1; have b3 := fun t => (RS.out t).p.c2
      have c1 := fun t => (RS.out t).i.c0; have c2 := fun t => (RS.out t).i.c1
      have d1 := fun t => (RB.out t).c0; have d2 := fun t => (RB.out t).c1; have d3 := fun t => (RB.out t).c2
      repeat (go_big_quiet_step (first | (go_at_call 44; with_reducible exact F.call (refPos_any q.1 q.2.1 q.2.2 _ pq.out.s0 pq.out.s1 pq.out.o0 pq.out.o1)) | (go_at_call 44; with_reducible exact F.call (refPos_any s a o _ HP.out.s0 HP.out.s1 HP.out.o0 HP.out.o1)) | (go_at_call 44; with_reducible exact F.call (refPos_any b.1 b.2.1 b.2.2 _ HPb.out.s0 HPb.out.s1 HPb.out.o0 HPb.out.o1)) | (go_at_call 48; exact F.call (refDist_call _ _ _ (by omega) (by omega) (by omega) (by omega)))))
      refine wpQuiet_nil ?_
      rintro _ ⟨t', rfl⟩
      have U4 := Lib.hid (RU.out t')
      have B4 := Lib.hid (RB.out t')
      replace q1 := a1 t'
      replace q2 := a2 t'
      replace q3 := a3 t'
      clear F RS RU RB hne a1 a2 a3 b1 b2 b3 c1 c2 d1 d2 d3 HS HB HU
      generalize f t' = w5 at *
      clear f
      obtain ⟨r0, r1, r2, r3, r4, r5, r6⟩ := id B4.out
      by_cases hm : absI (diaP q.1 q.2.2 - (diaP s o + t)) < absI (diaP b.1 b.2.2 - (diaP s o + t))
      · have HE : Hid (minF (diaP s o + t) (L.drop (k' + 1)) q = M) := by have := HG.out; rw [HD.out, if_pos hm] at this; exact this
        go_wp2_with fail
        have Mf := B4.out.store (u := .int .i64 q.1) (v := .int .i64 q.2.1) (t := .int .i64 q.2.2)
        go_roundg (L.length - (k' + 1))
        case measure => omega
        case rel => exact ⟨k' + 1, by omega, by omega, rfl, by go_num, q, pq, HE, Lib.hid (((U4.out.setCell (p := ⟨w4.heap.size, 0, none⟩) (Nat.le_refl _) _).setCell (p := ⟨w4.heap.size, 1, none⟩) (Nat.le_refl _) _).setCell (p := ⟨w4.heap.size, 2, none⟩) (Nat.le_refl _) _), Lib.hid Mf⟩
      · have HE : Hid (minF (diaP s o + t) (L.drop (k' + 1)) b = M) := by have := HG.out; rw [HD.out, if_neg hm] at this; exact this
        go_wp2_with fail
        go_roundg (L.length - (k' + 1))
        case measure => omega
        case rel => exact ⟨k' + 1, by omega, by omega, rfl, by go_num, b, HPb, HE, U4, B4⟩
    · obtain rfl : k' = L.length := by omega
      have HE : Hid (b = M) := by have := HG.out; rw [List.drop_length] at this; exact this
      obtain ⟨b0, b1, b2, b3, b4, b5, b6⟩ := id HB.out
      obtain ⟨r0, r1, r2, r3, r4, r5, r6⟩ := id HS.out.r
      go_wp2_with fail
      have Tf := HS.out.r.store (u := .int .i64 b.1) (v := .int .i64 b.2.1) (t := .int .i64 b.2.2)
      exact bodyPost_ret (v := .tuple #[.agg #[.int .i64 b.1, .int .i64 b.2.1, .int .i64 b.2.2], .int .i64 0]) (by simp [results, Tryd.results26, go_sem, Tf.c0, Tf.c1, Tf.c2]) rfl ⟨by rw [HE.out], ((HS.out.bel.set (Nat.le_succ_of_le (Nat.le_succ _)) _ _).set (Nat.le_succ_of_le (Nat.le_succ _)) _ _).set (Nat.le_succ_of_le (Nat.le_succ _)) _ _⟩
end Go.Proofs.YtfbogakmhaiddaaDoor
