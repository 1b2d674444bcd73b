/- The law IntervalTransposes. -/
import Derived.Test.YtfbogakmhaiddaaDoorIo
import Derived.Test.YtfbogakmhaiddaaDoorIp
namespace Go.Proofs.YtfbogakmhaiddaaDoor
open Go.RowKit
set_option linter.unusedVariables false
set_option linter.unusedSimpArgs false

theorem minF_mem {p : Int} {L : List (Int × Int × Int)} : ∀ (l : List (Int × Int × Int)) (m : Int × Int × Int), (∀ q ∈ l, q ∈ L) → m ∈ L → minF p l m ∈ L
  | [], m, _, hm => hm
  | q :: l, m, hl, hm => by
    unfold minF
    refine minF_mem l _ (fun x hx => hl x (by simp [hx])) ?_
    split
    · exact hl q (by simp)
    · exact hm
set_option maxRecDepth 100000 in
set_option maxHeartbeats 2000000 in
theorem trLaw1 (s a o t m : Int) (w : World) (h : ¬ Pit s a o) (ht : PT w) (hi : IT w) :
    Calls Tryd.prog 7 #[.agg #[.int .i64 s, .int .i64 a, .int .i64 o], .agg #[.int .i64 t, .int .i64 m]] w fun e w' => e = .returned (.bool true) ∧ Below w.heap.size w w' := by
  have B0 := Lib.hid (((Bel.refl w).alloc (.cells #[.int .i64 s, .int .i64 a, .int .i64 o] 41)).alloc (.cells #[.int .i64 t, .int .i64 m] 23))
  have T0 := Lib.hid ((ht.below ((Below.refl _ _).alloc (Nat.le_refl _) (.cells #[.int .i64 s, .int .i64 a, .int .i64 o] 41))).below ((Below.refl _ _).alloc (Nat.le_refl _) (.cells #[.int .i64 t, .int .i64 m] 23)))
  have I0 := Lib.hid ((hi.below ((Below.refl _ _).alloc (Nat.le_refl _) (.cells #[.int .i64 s, .int .i64 a, .int .i64 o] 41))).below ((Below.refl _ _).alloc (Nat.le_refl _) (.cells #[.int .i64 t, .int .i64 m] 23)))
  have X0 := (Tri.new w (.int .i64 s) (.int .i64 a) (.int .i64 o) 41 (w.heap.size) (by simp)).alloc (.cells #[.int .i64 t, .int .i64 m] 23)
  have Y0 := Duo.new (w.alloc (.cells #[.int .i64 s, .int .i64 a, .int .i64 o] 41)) (.int .i64 t) (.int .i64 m) 23 (w.heap.size + 1) (by simp)
  have HP := Lib.hid h
  go_enter Tryd.func7, Tryd.ntmps7
  obtain ⟨xf0, xf1, xf2, xf3, xf4, xf5, xf6⟩ := id X0
  obtain ⟨yf0, yf1, yf2, yf3, yf4⟩ := id Y0
  go_wp2_with fail
  clear xf0 xf1 xf2 xf3 xf4 xf5 xf6 yf0 yf1 yf2 yf3 yf4
  refine (transp_b1 s a o t m _ HP.out T0.out).mono ?_
  rintro e w1 ⟨rfl, hb⟩
  have B1 := Lib.hid ((B0.out.up hb).alloc (.cells #[.int .i64 0, .int .i64 0, .int .i64 0] 41))
  have T1 := Lib.hid ((T0.out.below hb).below ((Below.refl _ _).alloc (Nat.le_refl _) (.cells #[.int .i64 0, .int .i64 0, .int .i64 0] 41)))
  have I1 := Lib.hid ((I0.out.below hb).below ((Below.refl _ _).alloc (Nat.le_refl _) (.cells #[.int .i64 0, .int .i64 0, .int .i64 0] 41)))
  have X1 := (X0.up hb).alloc (.cells #[.int .i64 0, .int .i64 0, .int .i64 0] 41)
  have Y1 := (Y0.up hb).alloc (.cells #[.int .i64 0, .int .i64 0, .int .i64 0] 41)
  have Q1 := Tri.new w1 (.int .i64 0) (.int .i64 0) (.int .i64 0) 41 (w1.heap.size) (by simp)
  clear hb B0 T0 I0 X0 Y0
  obtain ⟨xf0, xf1, xf2, xf3, xf4, xf5, xf6⟩ := id X1
  obtain ⟨yf0, yf1, yf2, yf3, yf4⟩ := id Y1
  obtain ⟨qf0, qf1, qf2, qf3, qf4, qf5, qf6⟩ := id Q1
  go_wp2_with fail
  clear xf0 xf1 xf2 xf3 xf4 xf5 xf6 yf0 yf1 yf2 yf3 yf4 qf0 qf1 qf2 qf3 qf4 qf5 qf6
  refine (rtransp_b1 s a o t m _ HP.out).mono ?_
  rintro e w2 ⟨rfl, hb⟩
  have B2 := Lib.hid ((B1.out.up hb).alloc (.cells #[.int .i64 0, .int .i64 0, .int .i64 0] 41))
  have T2 := Lib.hid ((T1.out.below hb).below ((Below.refl _ _).alloc (Nat.le_refl _) (.cells #[.int .i64 0, .int .i64 0, .int .i64 0] 41)))
  have I2 := Lib.hid ((I1.out.below hb).below ((Below.refl _ _).alloc (Nat.le_refl _) (.cells #[.int .i64 0, .int .i64 0, .int .i64 0] 41)))
  have X2 := (X1.up hb).alloc (.cells #[.int .i64 0, .int .i64 0, .int .i64 0] 41)
  have Y2 := (Y1.up hb).alloc (.cells #[.int .i64 0, .int .i64 0, .int .i64 0] 41)
  have Q2 := (Q1.up hb).alloc (.cells #[.int .i64 0, .int .i64 0, .int .i64 0] 41)
  have R2 := Tri.new w2 (.int .i64 0) (.int .i64 0) (.int .i64 0) 41 (w2.heap.size) (by simp)
  clear hb B1 T1 I1 X1 Y1 Q1
  obtain ⟨xf0, xf1, xf2, xf3, xf4, xf5, xf6⟩ := id X2
  obtain ⟨yf0, yf1, yf2, yf3, yf4⟩ := id Y2
  obtain ⟨qf0, qf1, qf2, qf3, qf4, qf5, qf6⟩ := id Q2
  obtain ⟨rf0, rf1, rf2, rf3, rf4, rf5, rf6⟩ := id R2
  go_wp2_with fail
  clear xf0 xf1 xf2 xf3 xf4 xf5 xf6 yf0 yf1 yf2 yf3 yf4 qf0 qf1 qf2 qf3 qf4 qf5 qf6 rf0 rf1 rf2 rf3 rf4 rf5 rf6
  refine (known_any _ T2.out I2.out).mono ?_
  rintro e w3 ⟨rfl, hb⟩
  have B3 := Lib.hid (B2.out.up hb)
  have T3 := Lib.hid (T2.out.below hb)
  have I3 := Lib.hid (I2.out.below hb)
  have X3 := X2.up hb
  have Y3 := Y2.up hb
  have Q3 := Q2.up hb
  have R3 := R2.up hb
  clear hb B2 T2 I2 X2 Y2 Q2 R2
  obtain ⟨xf0, xf1, xf2, xf3, xf4, xf5, xf6⟩ := id X3
  obtain ⟨yf0, yf1, yf2, yf3, yf4⟩ := id Y3
  obtain ⟨qf0, qf1, qf2, qf3, qf4, qf5, qf6⟩ := id Q3
  obtain ⟨rf0, rf1, rf2, rf3, rf4, rf5, rf6⟩ := id R3
  go_wp2_with fail
  clear xf0 xf1 xf2 xf3 xf4 xf5 xf6 yf0 yf1 yf2 yf3 yf4 qf0 qf1 qf2 qf3 qf4 qf5 qf6 rf0 rf1 rf2 rf3 rf4 rf5 rf6
  refine Qt.regionAll (by kernel_rfl) (by kernel_rfl) ?_
  intro T f F hne
  have RB := Lib.hid (fun g => B3.out.up (F.below g))
  have RT := Lib.hid (fun g => T3.out.below (F.below g))
  have RI := Lib.hid (fun g => I3.out.below (F.below g))
  have RX := fun g => X3.up (F.below g)
  have RX0 := fun g => (RX g).c0
  have RX1 := fun g => (RX g).c1
  have RX2 := fun g => (RX g).c2
  have RY := fun g => Y3.up (F.below g)
  have RY0 := fun g => (RY g).c0
  have RY1 := fun g => (RY g).c1
  have RQ := fun g => Q3.up (F.below g)
  have RQ0 := fun g => (RQ g).c0
  have RQ1 := fun g => (RQ g).c1
  have RQ2 := fun g => (RQ g).c2
  have RR := fun g => R3.up (F.below g)
  have RR0 := fun g => (RR g).c0
  have RR1 := fun g => (RR g).c1
  have RR2 := fun g => (RR g).c2
  repeat (go_big_quiet_step (fail))
  refine wpQuiet_nil ?_
  rintro _ ⟨g, rfl⟩
  have B4 := Lib.hid (RB.out g)
  have T4 := Lib.hid (RT.out g)
  have I4 := Lib.hid (RI.out g)
  have X4 := RX g
  have Y4 := RY g
  have Q4 := RQ g
  have R4 := RR g
  clear F RB hne RT RI RX RX0 RX1 RX2 RY RY0 RY1 RQ RQ0 RQ1 RQ2 RR RR0 RR1 RR2 B3 T3 I3 X3 Y3 Q3 R3
  generalize f g = w4 at *
  clear f
  obtain ⟨xf0, xf1, xf2, xf3, xf4, xf5, xf6⟩ := id X4
  obtain ⟨yf0, yf1, yf2, yf3, yf4⟩ := id Y4
  obtain ⟨qf0, qf1, qf2, qf3, qf4, qf5, qf6⟩ := id Q4
  obtain ⟨rf0, rf1, rf2, rf3, rf4, rf5, rf6⟩ := id R4
  go_wp2_with fail
  go_ret
  exact ⟨by first | rfl | (simp; done), B4.out.out⟩
set_option maxRecDepth 100000 in
set_option maxHeartbeats 2000000 in
theorem trLaw2 (s a o t m : Int) (w : World) (h : Pit s a o) (k : ¬ Iv t m) (ht : PT w) (hi : IT w) :
    Calls Tryd.prog 7 #[.agg #[.int .i64 s, .int .i64 a, .int .i64 o], .agg #[.int .i64 t, .int .i64 m]] w fun e w' => e = .returned (.bool true) ∧ Below w.heap.size w w' := by
  have B0 := Lib.hid (((Bel.refl w).alloc (.cells #[.int .i64 s, .int .i64 a, .int .i64 o] 41)).alloc (.cells #[.int .i64 t, .int .i64 m] 23))
  have T0 := Lib.hid ((ht.below ((Below.refl _ _).alloc (Nat.le_refl _) (.cells #[.int .i64 s, .int .i64 a, .int .i64 o] 41))).below ((Below.refl _ _).alloc (Nat.le_refl _) (.cells #[.int .i64 t, .int .i64 m] 23)))
  have I0 := Lib.hid ((hi.below ((Below.refl _ _).alloc (Nat.le_refl _) (.cells #[.int .i64 s, .int .i64 a, .int .i64 o] 41))).below ((Below.refl _ _).alloc (Nat.le_refl _) (.cells #[.int .i64 t, .int .i64 m] 23)))
  have X0 := (Tri.new w (.int .i64 s) (.int .i64 a) (.int .i64 o) 41 (w.heap.size) (by simp)).alloc (.cells #[.int .i64 t, .int .i64 m] 23)
  have Y0 := Duo.new (w.alloc (.cells #[.int .i64 s, .int .i64 a, .int .i64 o] 41)) (.int .i64 t) (.int .i64 m) 23 (w.heap.size + 1) (by simp)
  have HP := Lib.hid h
  have HQ := Lib.hid k
  go_enter Tryd.func7, Tryd.ntmps7
  obtain ⟨xf0, xf1, xf2, xf3, xf4, xf5, xf6⟩ := id X0
  obtain ⟨yf0, yf1, yf2, yf3, yf4⟩ := id Y0
  go_wp2_with fail
  clear xf0 xf1 xf2 xf3 xf4 xf5 xf6 yf0 yf1 yf2 yf3 yf4
  refine (transp_b2 s a o t m _ HP.out HQ.out T0.out).mono ?_
  rintro e w1 ⟨rfl, hb⟩
  have B1 := Lib.hid ((B0.out.up hb).alloc (.cells #[.int .i64 0, .int .i64 0, .int .i64 0] 41))
  have T1 := Lib.hid ((T0.out.below hb).below ((Below.refl _ _).alloc (Nat.le_refl _) (.cells #[.int .i64 0, .int .i64 0, .int .i64 0] 41)))
  have I1 := Lib.hid ((I0.out.below hb).below ((Below.refl _ _).alloc (Nat.le_refl _) (.cells #[.int .i64 0, .int .i64 0, .int .i64 0] 41)))
  have X1 := (X0.up hb).alloc (.cells #[.int .i64 0, .int .i64 0, .int .i64 0] 41)
  have Y1 := (Y0.up hb).alloc (.cells #[.int .i64 0, .int .i64 0, .int .i64 0] 41)
  have Q1 := Tri.new w1 (.int .i64 0) (.int .i64 0) (.int .i64 0) 41 (w1.heap.size) (by simp)
  clear hb B0 T0 I0 X0 Y0
  obtain ⟨xf0, xf1, xf2, xf3, xf4, xf5, xf6⟩ := id X1
  obtain ⟨yf0, yf1, yf2, yf3, yf4⟩ := id Y1
  obtain ⟨qf0, qf1, qf2, qf3, qf4, qf5, qf6⟩ := id Q1
  go_wp2_with fail
  clear xf0 xf1 xf2 xf3 xf4 xf5 xf6 yf0 yf1 yf2 yf3 yf4 qf0 qf1 qf2 qf3 qf4 qf5 qf6
  refine (rtransp_b2 s a o t m _ HP.out HQ.out).mono ?_
  rintro e w2 ⟨rfl, hb⟩
  have B2 := Lib.hid ((B1.out.up hb).alloc (.cells #[.int .i64 0, .int .i64 0, .int .i64 0] 41))
  have T2 := Lib.hid ((T1.out.below hb).below ((Below.refl _ _).alloc (Nat.le_refl _) (.cells #[.int .i64 0, .int .i64 0, .int .i64 0] 41)))
  have I2 := Lib.hid ((I1.out.below hb).below ((Below.refl _ _).alloc (Nat.le_refl _) (.cells #[.int .i64 0, .int .i64 0, .int .i64 0] 41)))
  have X2 := (X1.up hb).alloc (.cells #[.int .i64 0, .int .i64 0, .int .i64 0] 41)
  have Y2 := (Y1.up hb).alloc (.cells #[.int .i64 0, .int .i64 0, .int .i64 0] 41)
  have Q2 := (Q1.up hb).alloc (.cells #[.int .i64 0, .int .i64 0, .int .i64 0] 41)
  have R2 := Tri.new w2 (.int .i64 0) (.int .i64 0) (.int .i64 0) 41 (w2.heap.size) (by simp)
  clear hb B1 T1 I1 X1 Y1 Q1
  obtain ⟨xf0, xf1, xf2, xf3, xf4, xf5, xf6⟩ := id X2
  obtain ⟨yf0, yf1, yf2, yf3, yf4⟩ := id Y2
  obtain ⟨qf0, qf1, qf2, qf3, qf4, qf5, qf6⟩ := id Q2
  obtain ⟨rf0, rf1, rf2, rf3, rf4, rf5, rf6⟩ := id R2
  go_wp2_with fail
  clear xf0 xf1 xf2 xf3 xf4 xf5 xf6 yf0 yf1 yf2 yf3 yf4 qf0 qf1 qf2 qf3 qf4 qf5 qf6 rf0 rf1 rf2 rf3 rf4 rf5 rf6
  refine (known_any _ T2.out I2.out).mono ?_
  rintro e w3 ⟨rfl, hb⟩
  have B3 := Lib.hid (B2.out.up hb)
  have T3 := Lib.hid (T2.out.below hb)
  have I3 := Lib.hid (I2.out.below hb)
  have X3 := X2.up hb
  have Y3 := Y2.up hb
  have Q3 := Q2.up hb
  have R3 := R2.up hb
  clear hb B2 T2 I2 X2 Y2 Q2 R2
  obtain ⟨xf0, xf1, xf2, xf3, xf4, xf5, xf6⟩ := id X3
  obtain ⟨yf0, yf1, yf2, yf3, yf4⟩ := id Y3
  obtain ⟨qf0, qf1, qf2, qf3, qf4, qf5, qf6⟩ := id Q3
  obtain ⟨rf0, rf1, rf2, rf3, rf4, rf5, rf6⟩ := id R3
  go_wp2_with fail
  clear xf0 xf1 xf2 xf3 xf4 xf5 xf6 yf0 yf1 yf2 yf3 yf4 qf0 qf1 qf2 qf3 qf4 qf5 qf6 rf0 rf1 rf2 rf3 rf4 rf5 rf6
  refine Qt.regionAll (by kernel_rfl) (by kernel_rfl) ?_
  intro T f F hne
  have RB := Lib.hid (fun g => B3.out.up (F.below g))
  have RT := Lib.hid (fun g => T3.out.below (F.below g))
  have RI := Lib.hid (fun g => I3.out.below (F.below g))
  have RX := fun g => X3.up (F.below g)
  have RX0 := fun g => (RX g).c0
  have RX1 := fun g => (RX g).c1
  have RX2 := fun g => (RX g).c2
  have RY := fun g => Y3.up (F.below g)
  have RY0 := fun g => (RY g).c0
  have RY1 := fun g => (RY g).c1
  have RQ := fun g => Q3.up (F.below g)
  have RQ0 := fun g => (RQ g).c0
  have RQ1 := fun g => (RQ g).c1
  have RQ2 := fun g => (RQ g).c2
  have RR := fun g => R3.up (F.below g)
  have RR0 := fun g => (RR g).c0
  have RR1 := fun g => (RR g).c1
  have RR2 := fun g => (RR g).c2
  repeat (go_big_quiet_step (fail))
  refine wpQuiet_nil ?_
  rintro _ ⟨g, rfl⟩
  have B4 := Lib.hid (RB.out g)
  have T4 := Lib.hid (RT.out g)
  have I4 := Lib.hid (RI.out g)
  have X4 := RX g
  have Y4 := RY g
  have Q4 := RQ g
  have R4 := RR g
  clear F RB hne RT RI RX RX0 RX1 RX2 RY RY0 RY1 RQ RQ0 RQ1 RQ2 RR RR0 RR1 RR2 B3 T3 I3 X3 Y3 Q3 R3
  generalize f g = w4 at *
  clear f
  obtain ⟨xf0, xf1, xf2, xf3, xf4, xf5, xf6⟩ := id X4
  obtain ⟨yf0, yf1, yf2, yf3, yf4⟩ := id Y4
  obtain ⟨qf0, qf1, qf2, qf3, qf4, qf5, qf6⟩ := id Q4
  obtain ⟨rf0, rf1, rf2, rf3, rf4, rf5, rf6⟩ := id R4
  go_wp2_with fail
  go_ret
  exact ⟨by first | rfl | (simp; done), B4.out.out⟩
set_option maxRecDepth 100000 in
set_option maxHeartbeats 2000000 in
theorem trLaw3 (s a o t m : Int) (w : World) (h : Pit s a o) (k : Iv t m) (l : numP s a o + m < 0 ∨ 127 < numP s a o + m) (ht : PT w) (hi : IT w) :
    Calls Tryd.prog 7 #[.agg #[.int .i64 s, .int .i64 a, .int .i64 o], .agg #[.int .i64 t, .int .i64 m]] w fun e w' => e = .returned (.bool true) ∧ Below w.heap.size w w' := by
  have B0 := Lib.hid (((Bel.refl w).alloc (.cells #[.int .i64 s, .int .i64 a, .int .i64 o] 41)).alloc (.cells #[.int .i64 t, .int .i64 m] 23))
  have T0 := Lib.hid ((ht.below ((Below.refl _ _).alloc (Nat.le_refl _) (.cells #[.int .i64 s, .int .i64 a, .int .i64 o] 41))).below ((Below.refl _ _).alloc (Nat.le_refl _) (.cells #[.int .i64 t, .int .i64 m] 23)))
  have I0 := Lib.hid ((hi.below ((Below.refl _ _).alloc (Nat.le_refl _) (.cells #[.int .i64 s, .int .i64 a, .int .i64 o] 41))).below ((Below.refl _ _).alloc (Nat.le_refl _) (.cells #[.int .i64 t, .int .i64 m] 23)))
  have X0 := (Tri.new w (.int .i64 s) (.int .i64 a) (.int .i64 o) 41 (w.heap.size) (by simp)).alloc (.cells #[.int .i64 t, .int .i64 m] 23)
  have Y0 := Duo.new (w.alloc (.cells #[.int .i64 s, .int .i64 a, .int .i64 o] 41)) (.int .i64 t) (.int .i64 m) 23 (w.heap.size + 1) (by simp)
  have HP := Lib.hid h
  have HQ := Lib.hid k
  have HL := Lib.hid l
  go_enter Tryd.func7, Tryd.ntmps7
  obtain ⟨xf0, xf1, xf2, xf3, xf4, xf5, xf6⟩ := id X0
  obtain ⟨yf0, yf1, yf2, yf3, yf4⟩ := id Y0
  go_wp2_with fail
  clear xf0 xf1 xf2 xf3 xf4 xf5 xf6 yf0 yf1 yf2 yf3 yf4
  refine (transp_b3 s a o t m _ HP.out HQ.out HL.out T0.out).mono ?_
  rintro e w1 ⟨rfl, hb⟩
  have B1 := Lib.hid ((B0.out.up hb).alloc (.cells #[.int .i64 0, .int .i64 0, .int .i64 0] 41))
  have T1 := Lib.hid ((T0.out.below hb).below ((Below.refl _ _).alloc (Nat.le_refl _) (.cells #[.int .i64 0, .int .i64 0, .int .i64 0] 41)))
  have I1 := Lib.hid ((I0.out.below hb).below ((Below.refl _ _).alloc (Nat.le_refl _) (.cells #[.int .i64 0, .int .i64 0, .int .i64 0] 41)))
  have X1 := (X0.up hb).alloc (.cells #[.int .i64 0, .int .i64 0, .int .i64 0] 41)
  have Y1 := (Y0.up hb).alloc (.cells #[.int .i64 0, .int .i64 0, .int .i64 0] 41)
  have Q1 := Tri.new w1 (.int .i64 0) (.int .i64 0) (.int .i64 0) 41 (w1.heap.size) (by simp)
  clear hb B0 T0 I0 X0 Y0
  obtain ⟨xf0, xf1, xf2, xf3, xf4, xf5, xf6⟩ := id X1
  obtain ⟨yf0, yf1, yf2, yf3, yf4⟩ := id Y1
  obtain ⟨qf0, qf1, qf2, qf3, qf4, qf5, qf6⟩ := id Q1
  go_wp2_with fail
  clear xf0 xf1 xf2 xf3 xf4 xf5 xf6 yf0 yf1 yf2 yf3 yf4 qf0 qf1 qf2 qf3 qf4 qf5 qf6
  refine (rtransp_b3 s a o t m _ HP.out HQ.out HL.out).mono ?_
  rintro e w2 ⟨rfl, hb⟩
  have B2 := Lib.hid ((B1.out.up hb).alloc (.cells #[.int .i64 0, .int .i64 0, .int .i64 0] 41))
  have T2 := Lib.hid ((T1.out.below hb).below ((Below.refl _ _).alloc (Nat.le_refl _) (.cells #[.int .i64 0, .int .i64 0, .int .i64 0] 41)))
  have I2 := Lib.hid ((I1.out.below hb).below ((Below.refl _ _).alloc (Nat.le_refl _) (.cells #[.int .i64 0, .int .i64 0, .int .i64 0] 41)))
  have X2 := (X1.up hb).alloc (.cells #[.int .i64 0, .int .i64 0, .int .i64 0] 41)
  have Y2 := (Y1.up hb).alloc (.cells #[.int .i64 0, .int .i64 0, .int .i64 0] 41)
  have Q2 := (Q1.up hb).alloc (.cells #[.int .i64 0, .int .i64 0, .int .i64 0] 41)
  have R2 := Tri.new w2 (.int .i64 0) (.int .i64 0) (.int .i64 0) 41 (w2.heap.size) (by simp)
  clear hb B1 T1 I1 X1 Y1 Q1
  obtain ⟨xf0, xf1, xf2, xf3, xf4, xf5, xf6⟩ := id X2
  obtain ⟨yf0, yf1, yf2, yf3, yf4⟩ := id Y2
  obtain ⟨qf0, qf1, qf2, qf3, qf4, qf5, qf6⟩ := id Q2
  obtain ⟨rf0, rf1, rf2, rf3, rf4, rf5, rf6⟩ := id R2
  go_wp2_with fail
  clear xf0 xf1 xf2 xf3 xf4 xf5 xf6 yf0 yf1 yf2 yf3 yf4 qf0 qf1 qf2 qf3 qf4 qf5 qf6 rf0 rf1 rf2 rf3 rf4 rf5 rf6
  refine (known_any _ T2.out I2.out).mono ?_
  rintro e w3 ⟨rfl, hb⟩
  have B3 := Lib.hid (B2.out.up hb)
  have T3 := Lib.hid (T2.out.below hb)
  have I3 := Lib.hid (I2.out.below hb)
  have X3 := X2.up hb
  have Y3 := Y2.up hb
  have Q3 := Q2.up hb
  have R3 := R2.up hb
  clear hb B2 T2 I2 X2 Y2 Q2 R2
  obtain ⟨xf0, xf1, xf2, xf3, xf4, xf5, xf6⟩ := id X3
  obtain ⟨yf0, yf1, yf2, yf3, yf4⟩ := id Y3
  obtain ⟨qf0, qf1, qf2, qf3, qf4, qf5, qf6⟩ := id Q3
  obtain ⟨rf0, rf1, rf2, rf3, rf4, rf5, rf6⟩ := id R3
  go_wp2_with fail
  clear xf0 xf1 xf2 xf3 xf4 xf5 xf6 yf0 yf1 yf2 yf3 yf4 qf0 qf1 qf2 qf3 qf4 qf5 qf6 rf0 rf1 rf2 rf3 rf4 rf5 rf6
  refine Qt.regionAll (by kernel_rfl) (by kernel_rfl) ?_
  intro T f F hne
  have RB := Lib.hid (fun g => B3.out.up (F.below g))
  have RT := Lib.hid (fun g => T3.out.below (F.below g))
  have RI := Lib.hid (fun g => I3.out.below (F.below g))
  have RX := fun g => X3.up (F.below g)
  have RX0 := fun g => (RX g).c0
  have RX1 := fun g => (RX g).c1
  have RX2 := fun g => (RX g).c2
  have RY := fun g => Y3.up (F.below g)
  have RY0 := fun g => (RY g).c0
  have RY1 := fun g => (RY g).c1
  have RQ := fun g => Q3.up (F.below g)
  have RQ0 := fun g => (RQ g).c0
  have RQ1 := fun g => (RQ g).c1
  have RQ2 := fun g => (RQ g).c2
  have RR := fun g => R3.up (F.below g)
  have RR0 := fun g => (RR g).c0
  have RR1 := fun g => (RR g).c1
  have RR2 := fun g => (RR g).c2
  repeat (go_big_quiet_step (fail))
  refine wpQuiet_nil ?_
  rintro _ ⟨g, rfl⟩
  have B4 := Lib.hid (RB.out g)
  have T4 := Lib.hid (RT.out g)
  have I4 := Lib.hid (RI.out g)
  have X4 := RX g
  have Y4 := RY g
  have Q4 := RQ g
  have R4 := RR g
  clear F RB hne RT RI RX RX0 RX1 RX2 RY RY0 RY1 RQ RQ0 RQ1 RQ2 RR RR0 RR1 RR2 B3 T3 I3 X3 Y3 Q3 R3
  generalize f g = w4 at *
  clear f
  obtain ⟨xf0, xf1, xf2, xf3, xf4, xf5, xf6⟩ := id X4
  obtain ⟨yf0, yf1, yf2, yf3, yf4⟩ := id Y4
  obtain ⟨qf0, qf1, qf2, qf3, qf4, qf5, qf6⟩ := id Q4
  obtain ⟨rf0, rf1, rf2, rf3, rf4, rf5, rf6⟩ := id R4
  go_wp2_with fail
  go_ret
  exact ⟨by first | rfl | (simp; done), B4.out.out⟩
set_option maxRecDepth 100000 in
set_option maxHeartbeats 2000000 in
theorem trLaw4 (s a o t m : Int) (q0 M : Int × Int × Int) (w : World) (h : Pit s a o) (k : Iv t m) (n0 : 0 ≤ numP s a o + m) (n1 : numP s a o + m ≤ 127) (h0 : (enhL (numP s a o + m))[0]? = some q0) (hM : minF (diaP s o + t) ((enhL (numP s a o + m)).drop 1) q0 = M) (hP : Pit M.1 M.2.1 M.2.2) (hN : numP M.1 M.2.1 M.2.2 = numP s a o + m) (ht : PT w) (hi : IT w) :
    Calls Tryd.prog 7 #[.agg #[.int .i64 s, .int .i64 a, .int .i64 o], .agg #[.int .i64 t, .int .i64 m]] w fun e w' => e = .returned (.bool true) ∧ Below w.heap.size w w' := by
  have B0 := Lib.hid (((Bel.refl w).alloc (.cells #[.int .i64 s, .int .i64 a, .int .i64 o] 41)).alloc (.cells #[.int .i64 t, .int .i64 m] 23))
  have T0 := Lib.hid ((ht.below ((Below.refl _ _).alloc (Nat.le_refl _) (.cells #[.int .i64 s, .int .i64 a, .int .i64 o] 41))).below ((Below.refl _ _).alloc (Nat.le_refl _) (.cells #[.int .i64 t, .int .i64 m] 23)))
  have I0 := Lib.hid ((hi.below ((Below.refl _ _).alloc (Nat.le_refl _) (.cells #[.int .i64 s, .int .i64 a, .int .i64 o] 41))).below ((Below.refl _ _).alloc (Nat.le_refl _) (.cells #[.int .i64 t, .int .i64 m] 23)))
  have X0 := (Tri.new w (.int .i64 s) (.int .i64 a) (.int .i64 o) 41 (w.heap.size) (by simp)).alloc (.cells #[.int .i64 t, .int .i64 m] 23)
  have Y0 := Duo.new (w.alloc (.cells #[.int .i64 s, .int .i64 a, .int .i64 o] 41)) (.int .i64 t) (.int .i64 m) 23 (w.heap.size + 1) (by simp)
  have HP := Lib.hid h
  have HQ := Lib.hid k
  have KN := fun v' => refNum_any M.1 M.2.1 M.2.2 v' hP.s0 hP.s1 hP.a0 hP.a1 hP.o0 hP.o1
  rw [hN] at KN
  replace KN := Lib.hid KN
  have HM := Lib.hid hP
  have HN := Lib.hid hN
  have KA := Lib.hid (fun v' hv => transp_ok s a o t m q0 M v' h k n0 n1 h0 hM hv)
  have KB := Lib.hid (fun v' => rtransp_ok s a o t m q0 M v' h k n0 n1 h0 hM)
  have N0 := h.n0; have N1 := h.n1; have M0 := k.m0; have M1 := k.m1
  clear h0 hM hP h k
  go_enter Tryd.func7, Tryd.ntmps7
  obtain ⟨xf0, xf1, xf2, xf3, xf4, xf5, xf6⟩ := id X0
  obtain ⟨yf0, yf1, yf2, yf3, yf4⟩ := id Y0
  go_wp2_with fail
  clear xf0 xf1 xf2 xf3 xf4 xf5 xf6 yf0 yf1 yf2 yf3 yf4
  refine (KA.out _ T0.out).mono ?_
  rintro e w1 ⟨rfl, hb⟩
  have B1 := Lib.hid ((B0.out.up hb).alloc (.cells #[.int .i64 M.1, .int .i64 M.2.1, .int .i64 M.2.2] 41))
  have T1 := Lib.hid ((T0.out.below hb).below ((Below.refl _ _).alloc (Nat.le_refl _) (.cells #[.int .i64 M.1, .int .i64 M.2.1, .int .i64 M.2.2] 41)))
  have I1 := Lib.hid ((I0.out.below hb).below ((Below.refl _ _).alloc (Nat.le_refl _) (.cells #[.int .i64 M.1, .int .i64 M.2.1, .int .i64 M.2.2] 41)))
  have X1 := (X0.up hb).alloc (.cells #[.int .i64 M.1, .int .i64 M.2.1, .int .i64 M.2.2] 41)
  have Y1 := (Y0.up hb).alloc (.cells #[.int .i64 M.1, .int .i64 M.2.1, .int .i64 M.2.2] 41)
  have Q1 := Tri.new w1 (.int .i64 M.1) (.int .i64 M.2.1) (.int .i64 M.2.2) 41 (w1.heap.size) (by simp)
  clear hb B0 T0 I0 X0 Y0
  obtain ⟨xf0, xf1, xf2, xf3, xf4, xf5, xf6⟩ := id X1
  obtain ⟨yf0, yf1, yf2, yf3, yf4⟩ := id Y1
  obtain ⟨qf0, qf1, qf2, qf3, qf4, qf5, qf6⟩ := id Q1
  go_wp2_with fail
  clear xf0 xf1 xf2 xf3 xf4 xf5 xf6 yf0 yf1 yf2 yf3 yf4 qf0 qf1 qf2 qf3 qf4 qf5 qf6
  refine (KB.out _).mono ?_
  rintro e w2 ⟨rfl, hb⟩
  have B2 := Lib.hid ((B1.out.up hb).alloc (.cells #[.int .i64 M.1, .int .i64 M.2.1, .int .i64 M.2.2] 41))
  have T2 := Lib.hid ((T1.out.below hb).below ((Below.refl _ _).alloc (Nat.le_refl _) (.cells #[.int .i64 M.1, .int .i64 M.2.1, .int .i64 M.2.2] 41)))
  have I2 := Lib.hid ((I1.out.below hb).below ((Below.refl _ _).alloc (Nat.le_refl _) (.cells #[.int .i64 M.1, .int .i64 M.2.1, .int .i64 M.2.2] 41)))
  have X2 := (X1.up hb).alloc (.cells #[.int .i64 M.1, .int .i64 M.2.1, .int .i64 M.2.2] 41)
  have Y2 := (Y1.up hb).alloc (.cells #[.int .i64 M.1, .int .i64 M.2.1, .int .i64 M.2.2] 41)
  have Q2 := (Q1.up hb).alloc (.cells #[.int .i64 M.1, .int .i64 M.2.1, .int .i64 M.2.2] 41)
  have R2 := Tri.new w2 (.int .i64 M.1) (.int .i64 M.2.1) (.int .i64 M.2.2) 41 (w2.heap.size) (by simp)
  clear hb B1 T1 I1 X1 Y1 Q1
  obtain ⟨xf0, xf1, xf2, xf3, xf4, xf5, xf6⟩ := id X2
  obtain ⟨yf0, yf1, yf2, yf3, yf4⟩ := id Y2
  obtain ⟨qf0, qf1, qf2, qf3, qf4, qf5, qf6⟩ := id Q2
  obtain ⟨rf0, rf1, rf2, rf3, rf4, rf5, rf6⟩ := id R2
  go_wp2_with fail
  clear xf0 xf1 xf2 xf3 xf4 xf5 xf6 yf0 yf1 yf2 yf3 yf4 qf0 qf1 qf2 qf3 qf4 qf5 qf6 rf0 rf1 rf2 rf3 rf4 rf5 rf6
  refine (known_any _ T2.out I2.out).mono ?_
  rintro e w3 ⟨rfl, hb⟩
  have B3 := Lib.hid (B2.out.up hb)
  have T3 := Lib.hid (T2.out.below hb)
  have I3 := Lib.hid (I2.out.below hb)
  have X3 := X2.up hb
  have Y3 := Y2.up hb
  have Q3 := Q2.up hb
  have R3 := R2.up hb
  clear hb B2 T2 I2 X2 Y2 Q2 R2
  obtain ⟨xf0, xf1, xf2, xf3, xf4, xf5, xf6⟩ := id X3
  obtain ⟨yf0, yf1, yf2, yf3, yf4⟩ := id Y3
  obtain ⟨qf0, qf1, qf2, qf3, qf4, qf5, qf6⟩ := id Q3
  obtain ⟨rf0, rf1, rf2, rf3, rf4, rf5, rf6⟩ := id R3
  go_wp2_with fail
  clear xf0 xf1 xf2 xf3 xf4 xf5 xf6 yf0 yf1 yf2 yf3 yf4 qf0 qf1 qf2 qf3 qf4 qf5 qf6 rf0 rf1 rf2 rf3 rf4 rf5 rf6
  refine Qt.regionAll (by kernel_rfl) (by kernel_rfl) ?_
  intro T f F hne
  have RB := Lib.hid (fun g => B3.out.up (F.below g))
  have RT := Lib.hid (fun g => T3.out.below (F.below g))
  have RI := Lib.hid (fun g => I3.out.below (F.below g))
  have RX := fun g => X3.up (F.below g)
  have RX0 := fun g => (RX g).c0
  have RX1 := fun g => (RX g).c1
  have RX2 := fun g => (RX g).c2
  have RY := fun g => Y3.up (F.below g)
  have RY0 := fun g => (RY g).c0
  have RY1 := fun g => (RY g).c1
  have RQ := fun g => Q3.up (F.below g)
  have RQ0 := fun g => (RQ g).c0
  have RQ1 := fun g => (RQ g).c1
  have RQ2 := fun g => (RQ g).c2
  have RR := fun g => R3.up (F.below g)
  have RR0 := fun g => (RR g).c0
  have RR1 := fun g => (RR g).c1
  have RR2 := fun g => (RR g).c2
  repeat (go_big_quiet_step (first | (go_at_call 27; with_reducible exact F.call (KN.out _)) | (go_at_call 27; with_reducible exact F.call (refNum_any s a o _ HP.out.s0 HP.out.s1 HP.out.a0 HP.out.a1 HP.out.o0 HP.out.o1))))
  refine wpQuiet_nil ?_
  rintro _ ⟨g, rfl⟩
  have B4 := Lib.hid (RB.out g)
  have T4 := Lib.hid (RT.out g)
  have I4 := Lib.hid (RI.out g)
  have X4 := RX g
  have Y4 := RY g
  have Q4 := RQ g
  have R4 := RR g
  clear F RB hne RT RI RX RX0 RX1 RX2 RY RY0 RY1 RQ RQ0 RQ1 RQ2 RR RR0 RR1 RR2 B3 T3 I3 X3 Y3 Q3 R3
  generalize f g = w4 at *
  clear f
  obtain ⟨xf0, xf1, xf2, xf3, xf4, xf5, xf6⟩ := id X4
  obtain ⟨yf0, yf1, yf2, yf3, yf4⟩ := id Y4
  obtain ⟨qf0, qf1, qf2, qf3, qf4, qf5, qf6⟩ := id Q4
  obtain ⟨rf0, rf1, rf2, rf3, rf4, rf5, rf6⟩ := id R4
  go_wp2_with fail
  go_ret
  exact ⟨by first | rfl | (simp; done), B4.out.out⟩
theorem law_IntervalTransposes (s a o t m : Int) (w : World) (ht : PT w) (hi : IT w) :
    Calls Tryd.prog 7 #[.agg #[.int .i64 s, .int .i64 a, .int .i64 o], .agg #[.int .i64 t, .int .i64 m]] w fun e w' => e = .returned (.bool true) ∧ Below w.heap.size w w' := by
  by_cases h : Pit s a o
  · by_cases k : Iv t m
    · by_cases hn : 0 ≤ numP s a o + m ∧ numP s a o + m ≤ 127
      · have hne := enhL_some hn.1 hn.2
        have hpos := List.length_pos_iff.2 hne
        obtain ⟨q0, h0⟩ : ∃ q0, (enhL (numP s a o + m))[0]? = some q0 := ⟨_, List.getElem?_eq_getElem hpos⟩
        have hmem := minF_mem (p := diaP s o + t) (L := enhL (numP s a o + m)) ((enhL (numP s a o + m)).drop 1) q0 (fun q hq => List.mem_of_mem_drop hq) (List.mem_of_getElem? h0)
        have hp := enhL_pit _ hmem
        exact trLaw4 s a o t m q0 _ w h k hn.1 hn.2 h0 rfl hp.1 hp.2 ht hi
      · exact trLaw3 s a o t m w h k (by omega) ht hi
    · exact trLaw2 s a o t m w h k ht hi
  · exact trLaw1 s a o t m w h ht hi
end Go.Proofs.YtfbogakmhaiddaaDoor
