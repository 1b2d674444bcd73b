/- The law IntervalAdds. -/
import Derived.Test.YtfbogakmhaiddaaDoorIj
namespace Go.Proofs.YtfbogakmhaiddaaDoor
open Go.RowKit
set_option linter.unusedVariables false
set_option linter.unusedSimpArgs false

set_option maxRecDepth 100000 in
set_option maxHeartbeats 2000000 in
theorem adds_y (t m u v : Int) (w : World) (h : Iv t m) (ht : PT w) (hi : IT w) :
    Calls Tryd.prog 3 #[.agg #[.int .i64 t, .int .i64 m], .agg #[.int .i64 u, .int .i64 v]] w fun e w' => e = .returned (.bool true) ∧ Below w.heap.size w w' := by
  have B0 := Lib.hid (((Bel.refl w).alloc (.cells #[.int .i64 t, .int .i64 m] 23)).alloc (.cells #[.int .i64 u, .int .i64 v] 23))
  have T0 := Lib.hid ((ht.below ((Below.refl _ _).alloc (Nat.le_refl _) (.cells #[.int .i64 t, .int .i64 m] 23))).below ((Below.refl _ _).alloc (Nat.le_refl _) (.cells #[.int .i64 u, .int .i64 v] 23)))
  have I0 := Lib.hid ((hi.below ((Below.refl _ _).alloc (Nat.le_refl _) (.cells #[.int .i64 t, .int .i64 m] 23))).below ((Below.refl _ _).alloc (Nat.le_refl _) (.cells #[.int .i64 u, .int .i64 v] 23)))
  have X0 := (Duo.new w (.int .i64 t) (.int .i64 m) 23 (w.heap.size) (by simp)).alloc (.cells #[.int .i64 u, .int .i64 v] 23)
  have Y0 := Duo.new (w.alloc (.cells #[.int .i64 t, .int .i64 m] 23)) (.int .i64 u) (.int .i64 v) 23 (w.heap.size + 1) (by simp)
  have HP := Lib.hid h
  have KA := fun v' => add_any t m u v v'
  have KB := fun v' => sumA_any t m u v v'
  generalize addI t m u v = A at KA KB
  have KC := fun v' => sub_any t m u v v'
  have KD := fun v' => sumS_any t m u v v'
  generalize subI t m u v = D at KC KD
  have KE := fun v' => neg_any t m v'
  have KF := fun v' => sumS_any 0 0 t m v'
  generalize subI 0 0 t m = N at KE KF
  replace KA := Lib.hid KA
  replace KB := Lib.hid KB
  replace KC := Lib.hid KC
  replace KD := Lib.hid KD
  replace KE := Lib.hid KE
  replace KF := Lib.hid KF
  clear h
  go_enter Tryd.func3, Tryd.ntmps3
  obtain ⟨xf0, xf1, xf2, xf3, xf4⟩ := id X0
  obtain ⟨yf0, yf1, yf2, yf3, yf4⟩ := id Y0
  go_wp2_with fail
  clear xf0 xf1 xf2 xf3 xf4 yf0 yf1 yf2 yf3 yf4
  refine (KA.out _).mono ?_
  rintro e w1 ⟨rfl, hb⟩
  have B1 := Lib.hid ((B0.out.up hb).alloc (.cells #[.int .i64 A.1, .int .i64 A.2.1] 23))
  have T1 := Lib.hid ((T0.out.below hb).below ((Below.refl _ _).alloc (Nat.le_refl _) (.cells #[.int .i64 A.1, .int .i64 A.2.1] 23)))
  have I1 := Lib.hid ((I0.out.below hb).below ((Below.refl _ _).alloc (Nat.le_refl _) (.cells #[.int .i64 A.1, .int .i64 A.2.1] 23)))
  have X1 := (X0.up hb).alloc (.cells #[.int .i64 A.1, .int .i64 A.2.1] 23)
  have Y1 := (Y0.up hb).alloc (.cells #[.int .i64 A.1, .int .i64 A.2.1] 23)
  have C1 := Duo.new w1 (.int .i64 A.1) (.int .i64 A.2.1) 23 (w1.heap.size) (by simp)
  clear hb B0 T0 I0 X0 Y0
  obtain ⟨xf0, xf1, xf2, xf3, xf4⟩ := id X1
  obtain ⟨yf0, yf1, yf2, yf3, yf4⟩ := id Y1
  obtain ⟨cf0, cf1, cf2, cf3, cf4⟩ := id C1
  go_wp2_with fail
  clear xf0 xf1 xf2 xf3 xf4 yf0 yf1 yf2 yf3 yf4 cf0 cf1 cf2 cf3 cf4
  refine (KC.out _).mono ?_
  rintro e w2 ⟨rfl, hb⟩
  have B2 := Lib.hid ((B1.out.up hb).alloc (.cells #[.int .i64 D.1, .int .i64 D.2.1] 23))
  have T2 := Lib.hid ((T1.out.below hb).below ((Below.refl _ _).alloc (Nat.le_refl _) (.cells #[.int .i64 D.1, .int .i64 D.2.1] 23)))
  have I2 := Lib.hid ((I1.out.below hb).below ((Below.refl _ _).alloc (Nat.le_refl _) (.cells #[.int .i64 D.1, .int .i64 D.2.1] 23)))
  have X2 := (X1.up hb).alloc (.cells #[.int .i64 D.1, .int .i64 D.2.1] 23)
  have Y2 := (Y1.up hb).alloc (.cells #[.int .i64 D.1, .int .i64 D.2.1] 23)
  have C2 := (C1.up hb).alloc (.cells #[.int .i64 D.1, .int .i64 D.2.1] 23)
  have E2 := Duo.new w2 (.int .i64 D.1) (.int .i64 D.2.1) 23 (w2.heap.size) (by simp)
  clear hb B1 T1 I1 X1 Y1 C1
  obtain ⟨xf0, xf1, xf2, xf3, xf4⟩ := id X2
  obtain ⟨yf0, yf1, yf2, yf3, yf4⟩ := id Y2
  obtain ⟨cf0, cf1, cf2, cf3, cf4⟩ := id C2
  obtain ⟨ef0, ef1, ef2, ef3, ef4⟩ := id E2
  go_wp2_with fail
  clear xf0 xf1 xf2 xf3 xf4 yf0 yf1 yf2 yf3 yf4 cf0 cf1 cf2 cf3 cf4 ef0 ef1 ef2 ef3 ef4
  refine (KE.out _).mono ?_
  rintro e w3 ⟨rfl, hb⟩
  have B3 := Lib.hid ((B2.out.up hb).alloc (.cells #[.int .i64 N.1, .int .i64 N.2.1] 23))
  have T3 := Lib.hid ((T2.out.below hb).below ((Below.refl _ _).alloc (Nat.le_refl _) (.cells #[.int .i64 N.1, .int .i64 N.2.1] 23)))
  have I3 := Lib.hid ((I2.out.below hb).below ((Below.refl _ _).alloc (Nat.le_refl _) (.cells #[.int .i64 N.1, .int .i64 N.2.1] 23)))
  have X3 := (X2.up hb).alloc (.cells #[.int .i64 N.1, .int .i64 N.2.1] 23)
  have Y3 := (Y2.up hb).alloc (.cells #[.int .i64 N.1, .int .i64 N.2.1] 23)
  have C3 := (C2.up hb).alloc (.cells #[.int .i64 N.1, .int .i64 N.2.1] 23)
  have E3 := (E2.up hb).alloc (.cells #[.int .i64 N.1, .int .i64 N.2.1] 23)
  have G3 := Duo.new w3 (.int .i64 N.1) (.int .i64 N.2.1) 23 (w3.heap.size) (by simp)
  clear hb B2 T2 I2 X2 Y2 C2 E2
  obtain ⟨xf0, xf1, xf2, xf3, xf4⟩ := id X3
  obtain ⟨yf0, yf1, yf2, yf3, yf4⟩ := id Y3
  obtain ⟨cf0, cf1, cf2, cf3, cf4⟩ := id C3
  obtain ⟨ef0, ef1, ef2, ef3, ef4⟩ := id E3
  obtain ⟨gf0, gf1, gf2, gf3, gf4⟩ := id G3
  go_wp2_with fail
  clear xf0 xf1 xf2 xf3 xf4 yf0 yf1 yf2 yf3 yf4 cf0 cf1 cf2 cf3 cf4 ef0 ef1 ef2 ef3 ef4 gf0 gf1 gf2 gf3 gf4
  refine (KB.out _).mono ?_
  rintro e w4 ⟨rfl, hb⟩
  have B4 := Lib.hid ((B3.out.up hb).alloc (.cells #[.int .i64 A.1, .int .i64 A.2.1] 23))
  have T4 := Lib.hid ((T3.out.below hb).below ((Below.refl _ _).alloc (Nat.le_refl _) (.cells #[.int .i64 A.1, .int .i64 A.2.1] 23)))
  have I4 := Lib.hid ((I3.out.below hb).below ((Below.refl _ _).alloc (Nat.le_refl _) (.cells #[.int .i64 A.1, .int .i64 A.2.1] 23)))
  have X4 := (X3.up hb).alloc (.cells #[.int .i64 A.1, .int .i64 A.2.1] 23)
  have Y4 := (Y3.up hb).alloc (.cells #[.int .i64 A.1, .int .i64 A.2.1] 23)
  have C4 := (C3.up hb).alloc (.cells #[.int .i64 A.1, .int .i64 A.2.1] 23)
  have E4 := (E3.up hb).alloc (.cells #[.int .i64 A.1, .int .i64 A.2.1] 23)
  have G4 := (G3.up hb).alloc (.cells #[.int .i64 A.1, .int .i64 A.2.1] 23)
  have J4 := Duo.new w4 (.int .i64 A.1) (.int .i64 A.2.1) 23 (w4.heap.size) (by simp)
  clear hb B3 T3 I3 X3 Y3 C3 E3 G3
  obtain ⟨xf0, xf1, xf2, xf3, xf4⟩ := id X4
  obtain ⟨yf0, yf1, yf2, yf3, yf4⟩ := id Y4
  obtain ⟨cf0, cf1, cf2, cf3, cf4⟩ := id C4
  obtain ⟨ef0, ef1, ef2, ef3, ef4⟩ := id E4
  obtain ⟨gf0, gf1, gf2, gf3, gf4⟩ := id G4
  obtain ⟨jf0, jf1, jf2, jf3, jf4⟩ := id J4
  go_wp2_with fail
  clear xf0 xf1 xf2 xf3 xf4 yf0 yf1 yf2 yf3 yf4 cf0 cf1 cf2 cf3 cf4 ef0 ef1 ef2 ef3 ef4 gf0 gf1 gf2 gf3 gf4 jf0 jf1 jf2 jf3 jf4
  refine (KD.out _).mono ?_
  rintro e w5 ⟨rfl, hb⟩
  have B5 := Lib.hid ((B4.out.up hb).alloc (.cells #[.int .i64 D.1, .int .i64 D.2.1] 23))
  have T5 := Lib.hid ((T4.out.below hb).below ((Below.refl _ _).alloc (Nat.le_refl _) (.cells #[.int .i64 D.1, .int .i64 D.2.1] 23)))
  have I5 := Lib.hid ((I4.out.below hb).below ((Below.refl _ _).alloc (Nat.le_refl _) (.cells #[.int .i64 D.1, .int .i64 D.2.1] 23)))
  have X5 := (X4.up hb).alloc (.cells #[.int .i64 D.1, .int .i64 D.2.1] 23)
  have Y5 := (Y4.up hb).alloc (.cells #[.int .i64 D.1, .int .i64 D.2.1] 23)
  have C5 := (C4.up hb).alloc (.cells #[.int .i64 D.1, .int .i64 D.2.1] 23)
  have E5 := (E4.up hb).alloc (.cells #[.int .i64 D.1, .int .i64 D.2.1] 23)
  have G5 := (G4.up hb).alloc (.cells #[.int .i64 D.1, .int .i64 D.2.1] 23)
  have J5 := (J4.up hb).alloc (.cells #[.int .i64 D.1, .int .i64 D.2.1] 23)
  have K5 := Duo.new w5 (.int .i64 D.1) (.int .i64 D.2.1) 23 (w5.heap.size) (by simp)
  clear hb B4 T4 I4 X4 Y4 C4 E4 G4 J4
  obtain ⟨xf0, xf1, xf2, xf3, xf4⟩ := id X5
  obtain ⟨yf0, yf1, yf2, yf3, yf4⟩ := id Y5
  obtain ⟨cf0, cf1, cf2, cf3, cf4⟩ := id C5
  obtain ⟨ef0, ef1, ef2, ef3, ef4⟩ := id E5
  obtain ⟨gf0, gf1, gf2, gf3, gf4⟩ := id G5
  obtain ⟨jf0, jf1, jf2, jf3, jf4⟩ := id J5
  obtain ⟨kf0, kf1, kf2, kf3, kf4⟩ := id K5
  go_wp2_with fail
  clear xf0 xf1 xf2 xf3 xf4 yf0 yf1 yf2 yf3 yf4 cf0 cf1 cf2 cf3 cf4 ef0 ef1 ef2 ef3 ef4 gf0 gf1 gf2 gf3 gf4 jf0 jf1 jf2 jf3 jf4 kf0 kf1 kf2 kf3 kf4
  refine (KF.out _).mono ?_
  rintro e w6 ⟨rfl, hb⟩
  have B6 := Lib.hid ((B5.out.up hb).alloc (.cells #[.int .i64 N.1, .int .i64 N.2.1] 23))
  have T6 := Lib.hid ((T5.out.below hb).below ((Below.refl _ _).alloc (Nat.le_refl _) (.cells #[.int .i64 N.1, .int .i64 N.2.1] 23)))
  have I6 := Lib.hid ((I5.out.below hb).below ((Below.refl _ _).alloc (Nat.le_refl _) (.cells #[.int .i64 N.1, .int .i64 N.2.1] 23)))
  have X6 := (X5.up hb).alloc (.cells #[.int .i64 N.1, .int .i64 N.2.1] 23)
  have Y6 := (Y5.up hb).alloc (.cells #[.int .i64 N.1, .int .i64 N.2.1] 23)
  have C6 := (C5.up hb).alloc (.cells #[.int .i64 N.1, .int .i64 N.2.1] 23)
  have E6 := (E5.up hb).alloc (.cells #[.int .i64 N.1, .int .i64 N.2.1] 23)
  have G6 := (G5.up hb).alloc (.cells #[.int .i64 N.1, .int .i64 N.2.1] 23)
  have J6 := (J5.up hb).alloc (.cells #[.int .i64 N.1, .int .i64 N.2.1] 23)
  have K6 := (K5.up hb).alloc (.cells #[.int .i64 N.1, .int .i64 N.2.1] 23)
  have L6 := Duo.new w6 (.int .i64 N.1) (.int .i64 N.2.1) 23 (w6.heap.size) (by simp)
  clear hb B5 T5 I5 X5 Y5 C5 E5 G5 J5 K5
  obtain ⟨xf0, xf1, xf2, xf3, xf4⟩ := id X6
  obtain ⟨yf0, yf1, yf2, yf3, yf4⟩ := id Y6
  obtain ⟨cf0, cf1, cf2, cf3, cf4⟩ := id C6
  obtain ⟨ef0, ef1, ef2, ef3, ef4⟩ := id E6
  obtain ⟨gf0, gf1, gf2, gf3, gf4⟩ := id G6
  obtain ⟨jf0, jf1, jf2, jf3, jf4⟩ := id J6
  obtain ⟨kf0, kf1, kf2, kf3, kf4⟩ := id K6
  obtain ⟨lf0, lf1, lf2, lf3, lf4⟩ := id L6
  go_wp2_with fail
  clear xf0 xf1 xf2 xf3 xf4 yf0 yf1 yf2 yf3 yf4 cf0 cf1 cf2 cf3 cf4 ef0 ef1 ef2 ef3 ef4 gf0 gf1 gf2 gf3 gf4 jf0 jf1 jf2 jf3 jf4 kf0 kf1 kf2 kf3 kf4 lf0 lf1 lf2 lf3 lf4
  refine Qt.regionAll (by kernel_rfl) (by kernel_rfl) ?_
  intro T f F hne
  have RB := Lib.hid (fun g => B6.out.up (F.below g))
  have RT := Lib.hid (fun g => T6.out.below (F.below g))
  have RI := Lib.hid (fun g => I6.out.below (F.below g))
  have RX := fun g => X6.up (F.below g)
  have RX0 := fun g => (RX g).c0
  have RX1 := fun g => (RX g).c1
  have RY := fun g => Y6.up (F.below g)
  have RY0 := fun g => (RY g).c0
  have RY1 := fun g => (RY g).c1
  have RC := fun g => C6.up (F.below g)
  have RC0 := fun g => (RC g).c0
  have RC1 := fun g => (RC g).c1
  have RE := fun g => E6.up (F.below g)
  have RE0 := fun g => (RE g).c0
  have RE1 := fun g => (RE g).c1
  have RG := fun g => G6.up (F.below g)
  have RG0 := fun g => (RG g).c0
  have RG1 := fun g => (RG g).c1
  have RJ := fun g => J6.up (F.below g)
  have RJ0 := fun g => (RJ g).c0
  have RJ1 := fun g => (RJ g).c1
  have RK := fun g => K6.up (F.below g)
  have RK0 := fun g => (RK g).c0
  have RK1 := fun g => (RK g).c1
  have RL := fun g => L6.up (F.below g)
  have RL0 := fun g => (RL g).c0
  have RL1 := fun g => (RL g).c1
  repeat (go_big_quiet_step (first | (go_at_call 15; with_reducible exact F.call (known_any _ (RT.out _) (RI.out _))) | (go_at_call 16; with_reducible exact F.call (checkI_ok t m _ HP.out)) | (go_at_call 17; with_reducible exact F.call (refIs_yes t m _ HP.out))))
  refine wpQuiet_nil ?_
  rintro _ ⟨g, rfl⟩
  have B7 := Lib.hid (RB.out g)
  have T7 := Lib.hid (RT.out g)
  have I7 := Lib.hid (RI.out g)
  have X7 := RX g
  have Y7 := RY g
  have C7 := RC g
  have E7 := RE g
  have G7 := RG g
  have J7 := RJ g
  have K7 := RK g
  have L7 := RL g
  clear F RB hne RT RI RX RX0 RX1 RY RY0 RY1 RC RC0 RC1 RE RE0 RE1 RG RG0 RG1 RJ RJ0 RJ1 RK RK0 RK1 RL RL0 RL1 B6 T6 I6 X6 Y6 C6 E6 G6 J6 K6 L6
  generalize f g = w7 at *
  clear f
  obtain ⟨xf0, xf1, xf2, xf3, xf4⟩ := id X7
  obtain ⟨yf0, yf1, yf2, yf3, yf4⟩ := id Y7
  obtain ⟨cf0, cf1, cf2, cf3, cf4⟩ := id C7
  obtain ⟨ef0, ef1, ef2, ef3, ef4⟩ := id E7
  obtain ⟨gf0, gf1, gf2, gf3, gf4⟩ := id G7
  obtain ⟨jf0, jf1, jf2, jf3, jf4⟩ := id J7
  obtain ⟨kf0, kf1, kf2, kf3, kf4⟩ := id K7
  obtain ⟨lf0, lf1, lf2, lf3, lf4⟩ := id L7
  go_wp2_with fail
  go_ret
  exact ⟨by first | rfl | simp, B7.out.out⟩
set_option maxRecDepth 100000 in
set_option maxHeartbeats 2000000 in
theorem adds_n (t m u v : Int) (w : World) (h : ¬ Iv t m) (ht : PT w) (hi : IT w) :
    Calls Tryd.prog 3 #[.agg #[.int .i64 t, .int .i64 m], .agg #[.int .i64 u, .int .i64 v]] w fun e w' => e = .returned (.bool true) ∧ Below w.heap.size w w' := by
  have B0 := Lib.hid (((Bel.refl w).alloc (.cells #[.int .i64 t, .int .i64 m] 23)).alloc (.cells #[.int .i64 u, .int .i64 v] 23))
  have T0 := Lib.hid ((ht.below ((Below.refl _ _).alloc (Nat.le_refl _) (.cells #[.int .i64 t, .int .i64 m] 23))).below ((Below.refl _ _).alloc (Nat.le_refl _) (.cells #[.int .i64 u, .int .i64 v] 23)))
  have I0 := Lib.hid ((hi.below ((Below.refl _ _).alloc (Nat.le_refl _) (.cells #[.int .i64 t, .int .i64 m] 23))).below ((Below.refl _ _).alloc (Nat.le_refl _) (.cells #[.int .i64 u, .int .i64 v] 23)))
  have X0 := (Duo.new w (.int .i64 t) (.int .i64 m) 23 (w.heap.size) (by simp)).alloc (.cells #[.int .i64 u, .int .i64 v] 23)
  have Y0 := Duo.new (w.alloc (.cells #[.int .i64 t, .int .i64 m] 23)) (.int .i64 u) (.int .i64 v) 23 (w.heap.size + 1) (by simp)
  have HP := Lib.hid h
  have KA := fun v' => add_any t m u v v'
  have KB := fun v' => sumA_any t m u v v'
  generalize addI t m u v = A at KA KB
  have KC := fun v' => sub_any t m u v v'
  have KD := fun v' => sumS_any t m u v v'
  generalize subI t m u v = D at KC KD
  have KE := fun v' => neg_any t m v'
  have KF := fun v' => sumS_any 0 0 t m v'
  generalize subI 0 0 t m = N at KE KF
  replace KA := Lib.hid KA
  replace KB := Lib.hid KB
  replace KC := Lib.hid KC
  replace KD := Lib.hid KD
  replace KE := Lib.hid KE
  replace KF := Lib.hid KF
  clear h
  go_enter Tryd.func3, Tryd.ntmps3
  obtain ⟨xf0, xf1, xf2, xf3, xf4⟩ := id X0
  obtain ⟨yf0, yf1, yf2, yf3, yf4⟩ := id Y0
  go_wp2_with fail
  clear xf0 xf1 xf2 xf3 xf4 yf0 yf1 yf2 yf3 yf4
  refine (KA.out _).mono ?_
  rintro e w1 ⟨rfl, hb⟩
  have B1 := Lib.hid ((B0.out.up hb).alloc (.cells #[.int .i64 A.1, .int .i64 A.2.1] 23))
  have T1 := Lib.hid ((T0.out.below hb).below ((Below.refl _ _).alloc (Nat.le_refl _) (.cells #[.int .i64 A.1, .int .i64 A.2.1] 23)))
  have I1 := Lib.hid ((I0.out.below hb).below ((Below.refl _ _).alloc (Nat.le_refl _) (.cells #[.int .i64 A.1, .int .i64 A.2.1] 23)))
  have X1 := (X0.up hb).alloc (.cells #[.int .i64 A.1, .int .i64 A.2.1] 23)
  have Y1 := (Y0.up hb).alloc (.cells #[.int .i64 A.1, .int .i64 A.2.1] 23)
  have C1 := Duo.new w1 (.int .i64 A.1) (.int .i64 A.2.1) 23 (w1.heap.size) (by simp)
  clear hb B0 T0 I0 X0 Y0
  obtain ⟨xf0, xf1, xf2, xf3, xf4⟩ := id X1
  obtain ⟨yf0, yf1, yf2, yf3, yf4⟩ := id Y1
  obtain ⟨cf0, cf1, cf2, cf3, cf4⟩ := id C1
  go_wp2_with fail
  clear xf0 xf1 xf2 xf3 xf4 yf0 yf1 yf2 yf3 yf4 cf0 cf1 cf2 cf3 cf4
  refine (KC.out _).mono ?_
  rintro e w2 ⟨rfl, hb⟩
  have B2 := Lib.hid ((B1.out.up hb).alloc (.cells #[.int .i64 D.1, .int .i64 D.2.1] 23))
  have T2 := Lib.hid ((T1.out.below hb).below ((Below.refl _ _).alloc (Nat.le_refl _) (.cells #[.int .i64 D.1, .int .i64 D.2.1] 23)))
  have I2 := Lib.hid ((I1.out.below hb).below ((Below.refl _ _).alloc (Nat.le_refl _) (.cells #[.int .i64 D.1, .int .i64 D.2.1] 23)))
  have X2 := (X1.up hb).alloc (.cells #[.int .i64 D.1, .int .i64 D.2.1] 23)
  have Y2 := (Y1.up hb).alloc (.cells #[.int .i64 D.1, .int .i64 D.2.1] 23)
  have C2 := (C1.up hb).alloc (.cells #[.int .i64 D.1, .int .i64 D.2.1] 23)
  have E2 := Duo.new w2 (.int .i64 D.1) (.int .i64 D.2.1) 23 (w2.heap.size) (by simp)
  clear hb B1 T1 I1 X1 Y1 C1
  obtain ⟨xf0, xf1, xf2, xf3, xf4⟩ := id X2
  obtain ⟨yf0, yf1, yf2, yf3, yf4⟩ := id Y2
  obtain ⟨cf0, cf1, cf2, cf3, cf4⟩ := id C2
  obtain ⟨ef0, ef1, ef2, ef3, ef4⟩ := id E2
  go_wp2_with fail
  clear xf0 xf1 xf2 xf3 xf4 yf0 yf1 yf2 yf3 yf4 cf0 cf1 cf2 cf3 cf4 ef0 ef1 ef2 ef3 ef4
  refine (KE.out _).mono ?_
  rintro e w3 ⟨rfl, hb⟩
  have B3 := Lib.hid ((B2.out.up hb).alloc (.cells #[.int .i64 N.1, .int .i64 N.2.1] 23))
  have T3 := Lib.hid ((T2.out.below hb).below ((Below.refl _ _).alloc (Nat.le_refl _) (.cells #[.int .i64 N.1, .int .i64 N.2.1] 23)))
  have I3 := Lib.hid ((I2.out.below hb).below ((Below.refl _ _).alloc (Nat.le_refl _) (.cells #[.int .i64 N.1, .int .i64 N.2.1] 23)))
  have X3 := (X2.up hb).alloc (.cells #[.int .i64 N.1, .int .i64 N.2.1] 23)
  have Y3 := (Y2.up hb).alloc (.cells #[.int .i64 N.1, .int .i64 N.2.1] 23)
  have C3 := (C2.up hb).alloc (.cells #[.int .i64 N.1, .int .i64 N.2.1] 23)
  have E3 := (E2.up hb).alloc (.cells #[.int .i64 N.1, .int .i64 N.2.1] 23)
  have G3 := Duo.new w3 (.int .i64 N.1) (.int .i64 N.2.1) 23 (w3.heap.size) (by simp)
  clear hb B2 T2 I2 X2 Y2 C2 E2
  obtain ⟨xf0, xf1, xf2, xf3, xf4⟩ := id X3
  obtain ⟨yf0, yf1, yf2, yf3, yf4⟩ := id Y3
  obtain ⟨cf0, cf1, cf2, cf3, cf4⟩ := id C3
  obtain ⟨ef0, ef1, ef2, ef3, ef4⟩ := id E3
  obtain ⟨gf0, gf1, gf2, gf3, gf4⟩ := id G3
  go_wp2_with fail
  clear xf0 xf1 xf2 xf3 xf4 yf0 yf1 yf2 yf3 yf4 cf0 cf1 cf2 cf3 cf4 ef0 ef1 ef2 ef3 ef4 gf0 gf1 gf2 gf3 gf4
  refine (KB.out _).mono ?_
  rintro e w4 ⟨rfl, hb⟩
  have B4 := Lib.hid ((B3.out.up hb).alloc (.cells #[.int .i64 A.1, .int .i64 A.2.1] 23))
  have T4 := Lib.hid ((T3.out.below hb).below ((Below.refl _ _).alloc (Nat.le_refl _) (.cells #[.int .i64 A.1, .int .i64 A.2.1] 23)))
  have I4 := Lib.hid ((I3.out.below hb).below ((Below.refl _ _).alloc (Nat.le_refl _) (.cells #[.int .i64 A.1, .int .i64 A.2.1] 23)))
  have X4 := (X3.up hb).alloc (.cells #[.int .i64 A.1, .int .i64 A.2.1] 23)
  have Y4 := (Y3.up hb).alloc (.cells #[.int .i64 A.1, .int .i64 A.2.1] 23)
  have C4 := (C3.up hb).alloc (.cells #[.int .i64 A.1, .int .i64 A.2.1] 23)
  have E4 := (E3.up hb).alloc (.cells #[.int .i64 A.1, .int .i64 A.2.1] 23)
  have G4 := (G3.up hb).alloc (.cells #[.int .i64 A.1, .int .i64 A.2.1] 23)
  have J4 := Duo.new w4 (.int .i64 A.1) (.int .i64 A.2.1) 23 (w4.heap.size) (by simp)
  clear hb B3 T3 I3 X3 Y3 C3 E3 G3
  obtain ⟨xf0, xf1, xf2, xf3, xf4⟩ := id X4
  obtain ⟨yf0, yf1, yf2, yf3, yf4⟩ := id Y4
  obtain ⟨cf0, cf1, cf2, cf3, cf4⟩ := id C4
  obtain ⟨ef0, ef1, ef2, ef3, ef4⟩ := id E4
  obtain ⟨gf0, gf1, gf2, gf3, gf4⟩ := id G4
  obtain ⟨jf0, jf1, jf2, jf3, jf4⟩ := id J4
  go_wp2_with fail
  clear xf0 xf1 xf2 xf3 xf4 yf0 yf1 yf2 yf3 yf4 cf0 cf1 cf2 cf3 cf4 ef0 ef1 ef2 ef3 ef4 gf0 gf1 gf2 gf3 gf4 jf0 jf1 jf2 jf3 jf4
  refine (KD.out _).mono ?_
  rintro e w5 ⟨rfl, hb⟩
  have B5 := Lib.hid ((B4.out.up hb).alloc (.cells #[.int .i64 D.1, .int .i64 D.2.1] 23))
  have T5 := Lib.hid ((T4.out.below hb).below ((Below.refl _ _).alloc (Nat.le_refl _) (.cells #[.int .i64 D.1, .int .i64 D.2.1] 23)))
  have I5 := Lib.hid ((I4.out.below hb).below ((Below.refl _ _).alloc (Nat.le_refl _) (.cells #[.int .i64 D.1, .int .i64 D.2.1] 23)))
  have X5 := (X4.up hb).alloc (.cells #[.int .i64 D.1, .int .i64 D.2.1] 23)
  have Y5 := (Y4.up hb).alloc (.cells #[.int .i64 D.1, .int .i64 D.2.1] 23)
  have C5 := (C4.up hb).alloc (.cells #[.int .i64 D.1, .int .i64 D.2.1] 23)
  have E5 := (E4.up hb).alloc (.cells #[.int .i64 D.1, .int .i64 D.2.1] 23)
  have G5 := (G4.up hb).alloc (.cells #[.int .i64 D.1, .int .i64 D.2.1] 23)
  have J5 := (J4.up hb).alloc (.cells #[.int .i64 D.1, .int .i64 D.2.1] 23)
  have K5 := Duo.new w5 (.int .i64 D.1) (.int .i64 D.2.1) 23 (w5.heap.size) (by simp)
  clear hb B4 T4 I4 X4 Y4 C4 E4 G4 J4
  obtain ⟨xf0, xf1, xf2, xf3, xf4⟩ := id X5
  obtain ⟨yf0, yf1, yf2, yf3, yf4⟩ := id Y5
  obtain ⟨cf0, cf1, cf2, cf3, cf4⟩ := id C5
  obtain ⟨ef0, ef1, ef2, ef3, ef4⟩ := id E5
  obtain ⟨gf0, gf1, gf2, gf3, gf4⟩ := id G5
  obtain ⟨jf0, jf1, jf2, jf3, jf4⟩ := id J5
  obtain ⟨kf0, kf1, kf2, kf3, kf4⟩ := id K5
  go_wp2_with fail
  clear xf0 xf1 xf2 xf3 xf4 yf0 yf1 yf2 yf3 yf4 cf0 cf1 cf2 cf3 cf4 ef0 ef1 ef2 ef3 ef4 gf0 gf1 gf2 gf3 gf4 jf0 jf1 jf2 jf3 jf4 kf0 kf1 kf2 kf3 kf4
  refine (KF.out _).mono ?_
  rintro e w6 ⟨rfl, hb⟩
  have B6 := Lib.hid ((B5.out.up hb).alloc (.cells #[.int .i64 N.1, .int .i64 N.2.1] 23))
  have T6 := Lib.hid ((T5.out.below hb).below ((Below.refl _ _).alloc (Nat.le_refl _) (.cells #[.int .i64 N.1, .int .i64 N.2.1] 23)))
  have I6 := Lib.hid ((I5.out.below hb).below ((Below.refl _ _).alloc (Nat.le_refl _) (.cells #[.int .i64 N.1, .int .i64 N.2.1] 23)))
  have X6 := (X5.up hb).alloc (.cells #[.int .i64 N.1, .int .i64 N.2.1] 23)
  have Y6 := (Y5.up hb).alloc (.cells #[.int .i64 N.1, .int .i64 N.2.1] 23)
  have C6 := (C5.up hb).alloc (.cells #[.int .i64 N.1, .int .i64 N.2.1] 23)
  have E6 := (E5.up hb).alloc (.cells #[.int .i64 N.1, .int .i64 N.2.1] 23)
  have G6 := (G5.up hb).alloc (.cells #[.int .i64 N.1, .int .i64 N.2.1] 23)
  have J6 := (J5.up hb).alloc (.cells #[.int .i64 N.1, .int .i64 N.2.1] 23)
  have K6 := (K5.up hb).alloc (.cells #[.int .i64 N.1, .int .i64 N.2.1] 23)
  have L6 := Duo.new w6 (.int .i64 N.1) (.int .i64 N.2.1) 23 (w6.heap.size) (by simp)
  clear hb B5 T5 I5 X5 Y5 C5 E5 G5 J5 K5
  obtain ⟨xf0, xf1, xf2, xf3, xf4⟩ := id X6
  obtain ⟨yf0, yf1, yf2, yf3, yf4⟩ := id Y6
  obtain ⟨cf0, cf1, cf2, cf3, cf4⟩ := id C6
  obtain ⟨ef0, ef1, ef2, ef3, ef4⟩ := id E6
  obtain ⟨gf0, gf1, gf2, gf3, gf4⟩ := id G6
  obtain ⟨jf0, jf1, jf2, jf3, jf4⟩ := id J6
  obtain ⟨kf0, kf1, kf2, kf3, kf4⟩ := id K6
  obtain ⟨lf0, lf1, lf2, lf3, lf4⟩ := id L6
  go_wp2_with fail
  clear xf0 xf1 xf2 xf3 xf4 yf0 yf1 yf2 yf3 yf4 cf0 cf1 cf2 cf3 cf4 ef0 ef1 ef2 ef3 ef4 gf0 gf1 gf2 gf3 gf4 jf0 jf1 jf2 jf3 jf4 kf0 kf1 kf2 kf3 kf4 lf0 lf1 lf2 lf3 lf4
  refine Qt.regionAll (by kernel_rfl) (by kernel_rfl) ?_
  intro T f F hne
  have RB := Lib.hid (fun g => B6.out.up (F.below g))
  have RT := Lib.hid (fun g => T6.out.below (F.below g))
  have RI := Lib.hid (fun g => I6.out.below (F.below g))
  have RX := fun g => X6.up (F.below g)
  have RX0 := fun g => (RX g).c0
  have RX1 := fun g => (RX g).c1
  have RY := fun g => Y6.up (F.below g)
  have RY0 := fun g => (RY g).c0
  have RY1 := fun g => (RY g).c1
  have RC := fun g => C6.up (F.below g)
  have RC0 := fun g => (RC g).c0
  have RC1 := fun g => (RC g).c1
  have RE := fun g => E6.up (F.below g)
  have RE0 := fun g => (RE g).c0
  have RE1 := fun g => (RE g).c1
  have RG := fun g => G6.up (F.below g)
  have RG0 := fun g => (RG g).c0
  have RG1 := fun g => (RG g).c1
  have RJ := fun g => J6.up (F.below g)
  have RJ0 := fun g => (RJ g).c0
  have RJ1 := fun g => (RJ g).c1
  have RK := fun g => K6.up (F.below g)
  have RK0 := fun g => (RK g).c0
  have RK1 := fun g => (RK g).c1
  have RL := fun g => L6.up (F.below g)
  have RL0 := fun g => (RL g).c0
  have RL1 := fun g => (RL g).c1
  repeat (go_big_quiet_step (first | (go_at_call 15; with_reducible exact F.call (known_any _ (RT.out _) (RI.out _))) | (go_at_call 16; with_reducible exact F.call (checkI_bad t m _ HP.out)) | (go_at_call 17; with_reducible exact F.call (refIs_no t m _ HP.out))))
  refine wpQuiet_nil ?_
  rintro _ ⟨g, rfl⟩
  have B7 := Lib.hid (RB.out g)
  have T7 := Lib.hid (RT.out g)
  have I7 := Lib.hid (RI.out g)
  have X7 := RX g
  have Y7 := RY g
  have C7 := RC g
  have E7 := RE g
  have G7 := RG g
  have J7 := RJ g
  have K7 := RK g
  have L7 := RL g
  clear F RB hne RT RI RX RX0 RX1 RY RY0 RY1 RC RC0 RC1 RE RE0 RE1 RG RG0 RG1 RJ RJ0 RJ1 RK RK0 RK1 RL RL0 RL1 B6 T6 I6 X6 Y6 C6 E6 G6 J6 K6 L6
  generalize f g = w7 at *
  clear f
  obtain ⟨xf0, xf1, xf2, xf3, xf4⟩ := id X7
  obtain ⟨yf0, yf1, yf2, yf3, yf4⟩ := id Y7
  obtain ⟨cf0, cf1, cf2, cf3, cf4⟩ := id C7
  obtain ⟨ef0, ef1, ef2, ef3, ef4⟩ := id E7
  obtain ⟨gf0, gf1, gf2, gf3, gf4⟩ := id G7
  obtain ⟨jf0, jf1, jf2, jf3, jf4⟩ := id J7
  obtain ⟨kf0, kf1, kf2, kf3, kf4⟩ := id K7
  obtain ⟨lf0, lf1, lf2, lf3, lf4⟩ := id L7
  go_wp2_with fail
  go_ret
  exact ⟨by first | rfl | simp, B7.out.out⟩
theorem law_IntervalAdds (t m u v : Int) (w : World) (ht : PT w) (hi : IT w) :
    Calls Tryd.prog 3 #[.agg #[.int .i64 t, .int .i64 m], .agg #[.int .i64 u, .int .i64 v]] w fun e w' => e = .returned (.bool true) ∧ Below w.heap.size w w' := by
  by_cases h : Iv t m
  · exact adds_y t m u v w h ht hi
  · exact adds_n t m u v w h ht hi
end Go.Proofs.YtfbogakmhaiddaaDoor
