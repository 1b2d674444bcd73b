/- Intervals: the reference's pitches. -/
import Derived.Test.YtfbogakmhaiddaaDoorIj
namespace Go.Proofs.YtfbogakmhaiddaaDoor
open Go.RowKit
set_option linter.unusedVariables false
set_option linter.unusedSimpArgs false

set_option maxRecDepth 100000 in
set_option maxHeartbeats 1000000 in
theorem base_any (s : Int) (w : World) (s0 : 0 ≤ s) (s1 : s ≤ 6) :
    Calls Tryd.prog 49 #[.int .i64 s] w fun e w' => e = .returned (.int .i64 (stepI s)) ∧ Below w.heap.size w w' := by
  rcases step_cases s0 s1 with rfl | rfl | rfl | rfl | rfl | rfl | rfl
  all_goals
    go_enter Tryd.func49, Tryd.ntmps49
    go_wp2_with fail
    go_ret
    exact ⟨ret_int (by simp [stepI]), (Below.refl _ _).alloc (Nat.le_refl _) _⟩
set_option maxRecDepth 100000 in
set_option maxHeartbeats 2000000 in
theorem refNum_any (s a o : Int) (w : World) (s0 : 0 ≤ s) (s1 : s ≤ 6) (a0 : -2 ≤ a) (a1 : a ≤ 2) (o0 : -1 ≤ o) (o1 : o ≤ 9) :
    Calls Tryd.prog 27 #[.agg #[.int .i64 s, .int .i64 a, .int .i64 o]] w fun e w' => e = .returned (.int .i64 (numP s a o)) ∧ Below w.heap.size w w' := by
  unfold numP
  have k := step_bd s0 s1
  have B0 := Lib.hid ((Bel.refl w).alloc (.cells #[.int .i64 s, .int .i64 a, .int .i64 o] 41))
  have X0 := Tri.new w (.int .i64 s) (.int .i64 a) (.int .i64 o) 41 (w.heap.size) (by simp)
  go_enter Tryd.func27, Tryd.ntmps27
  obtain ⟨xf0, xf1, xf2, xf3, xf4, xf5, xf6⟩ := id X0
  go_wp2_with fail
  clear xf0 xf1 xf2 xf3 xf4 xf5 xf6
  refine Qt.regionAll (by kernel_rfl) (by kernel_rfl) ?_
  intro T f F hne
  have RB := Lib.hid (fun g => B0.out.up (F.below g))
  have RX := fun g => X0.up (F.below g)
  have RX0 := fun g => (RX g).c0
  have RX1 := fun g => (RX g).c1
  have RX2 := fun g => (RX g).c2
  repeat (go_big_quiet_step (first | (go_at_call 49; with_reducible exact F.call (base_any _ _ s0 s1))))
  refine wpQuiet_nil ?_
  rintro _ ⟨g, rfl⟩
  have B1 := Lib.hid (RB.out g)
  have X1 := RX g
  clear F RB hne RX RX0 RX1 RX2 B0 X0
  generalize f g = w1 at *
  clear f
  obtain ⟨xf0, xf1, xf2, xf3, xf4, xf5, xf6⟩ := id X1
  go_wp2_with fail
  go_ret
  exact ⟨rfl, B1.out.out⟩
set_option maxRecDepth 100000 in
set_option maxHeartbeats 2000000 in
theorem refPos_any (s a o : Int) (w : World) (s0 : 0 ≤ s) (s1 : s ≤ 6) (o0 : -1 ≤ o) (o1 : o ≤ 9) :
    Calls Tryd.prog 44 #[.agg #[.int .i64 s, .int .i64 a, .int .i64 o]] w fun e w' => e = .returned (.int .i64 (diaP s o)) ∧ Below w.heap.size w w' := by
  unfold diaP
  have B0 := Lib.hid ((Bel.refl w).alloc (.cells #[.int .i64 s, .int .i64 a, .int .i64 o] 41))
  have X0 := Tri.new w (.int .i64 s) (.int .i64 a) (.int .i64 o) 41 (w.heap.size) (by simp)
  go_enter Tryd.func44, Tryd.ntmps44
  obtain ⟨xf0, xf1, xf2, xf3, xf4, xf5, xf6⟩ := id X0
  go_wp2_with fail
  try (go_quiet (fail); go_wp2_with fail)
  go_ret
  exact ⟨rfl, by first | exact B0.out.out | exact below_drewN B0.out.out _⟩
set_option maxRecDepth 100000 in
set_option maxHeartbeats 2000000 in
theorem valid_yes (s a o : Int) (w : World) (h : Pit s a o) :
    Calls Tryd.prog 21 #[.agg #[.int .i64 s, .int .i64 a, .int .i64 o]] w fun e w' => e = .returned (.bool true) ∧ Below w.heap.size w w' := by
  have B0 := Lib.hid ((Bel.refl w).alloc (.cells #[.int .i64 s, .int .i64 a, .int .i64 o] 41))
  have X0 := Tri.new w (.int .i64 s) (.int .i64 a) (.int .i64 o) 41 (w.heap.size) (by simp)
  obtain ⟨s0, s1, a0, a1, o0, o1, k0, k1⟩ := h
  go_enter Tryd.func21, Tryd.ntmps21
  obtain ⟨xf0, xf1, xf2, xf3, xf4, xf5, xf6⟩ := id X0
  go_wp2_with fail
  clear xf0 xf1 xf2 xf3 xf4 xf5 xf6
  refine (refNum_any s a o _ s0 s1 a0 a1 o0 o1).mono ?_
  rintro e w1 ⟨rfl, hb⟩
  have B1 := Lib.hid (B0.out.up hb)
  have X1 := X0.up hb
  clear hb B0  X0
  obtain ⟨xf0, xf1, xf2, xf3, xf4, xf5, xf6⟩ := id X1
  go_wp2_with fail
  clear xf0 xf1 xf2 xf3 xf4 xf5 xf6
  refine (refNum_any s a o _ s0 s1 a0 a1 o0 o1).mono ?_
  rintro e w2 ⟨rfl, hb⟩
  have B2 := Lib.hid (B1.out.up hb)
  have X2 := X1.up hb
  clear hb B1  X1
  obtain ⟨xf0, xf1, xf2, xf3, xf4, xf5, xf6⟩ := id X2
  go_wp2_with fail
  go_ret
  exact ⟨by first | rfl | (simp; done) | (simp; omega), B2.out.out⟩
set_option maxRecDepth 100000 in
set_option maxHeartbeats 2000000 in
theorem valid_lo (s a o : Int) (w : World) (s0 : 0 ≤ s) (s1 : s ≤ 6) (a0 : -2 ≤ a) (a1 : a ≤ 2) (o0 : -1 ≤ o) (o1 : o ≤ 9) (h : numP s a o < 0) :
    Calls Tryd.prog 21 #[.agg #[.int .i64 s, .int .i64 a, .int .i64 o]] w fun e w' => e = .returned (.bool false) ∧ Below w.heap.size w w' := by
  have B0 := Lib.hid ((Bel.refl w).alloc (.cells #[.int .i64 s, .int .i64 a, .int .i64 o] 41))
  have X0 := Tri.new w (.int .i64 s) (.int .i64 a) (.int .i64 o) 41 (w.heap.size) (by simp)
  go_enter Tryd.func21, Tryd.ntmps21
  obtain ⟨xf0, xf1, xf2, xf3, xf4, xf5, xf6⟩ := id X0
  go_wp2_with fail
  clear xf0 xf1 xf2 xf3 xf4 xf5 xf6
  refine (refNum_any s a o _ s0 s1 a0 a1 o0 o1).mono ?_
  rintro e w1 ⟨rfl, hb⟩
  have B1 := Lib.hid (B0.out.up hb)
  have X1 := X0.up hb
  clear hb B0  X0
  obtain ⟨xf0, xf1, xf2, xf3, xf4, xf5, xf6⟩ := id X1
  go_wp2_with fail
  go_ret
  exact ⟨by first | rfl | (simp; done) | (simp; omega), B1.out.out⟩
set_option maxRecDepth 100000 in
set_option maxHeartbeats 2000000 in
theorem valid_hi (s a o : Int) (w : World) (s0 : 0 ≤ s) (s1 : s ≤ 6) (a0 : -2 ≤ a) (a1 : a ≤ 2) (o0 : -1 ≤ o) (o1 : o ≤ 9) (h : 127 < numP s a o) :
    Calls Tryd.prog 21 #[.agg #[.int .i64 s, .int .i64 a, .int .i64 o]] w fun e w' => e = .returned (.bool false) ∧ Below w.heap.size w w' := by
  have B0 := Lib.hid ((Bel.refl w).alloc (.cells #[.int .i64 s, .int .i64 a, .int .i64 o] 41))
  have X0 := Tri.new w (.int .i64 s) (.int .i64 a) (.int .i64 o) 41 (w.heap.size) (by simp)
  go_enter Tryd.func21, Tryd.ntmps21
  obtain ⟨xf0, xf1, xf2, xf3, xf4, xf5, xf6⟩ := id X0
  go_wp2_with fail
  clear xf0 xf1 xf2 xf3 xf4 xf5 xf6
  refine (refNum_any s a o _ s0 s1 a0 a1 o0 o1).mono ?_
  rintro e w1 ⟨rfl, hb⟩
  have B1 := Lib.hid (B0.out.up hb)
  have X1 := X0.up hb
  clear hb B0  X0
  obtain ⟨xf0, xf1, xf2, xf3, xf4, xf5, xf6⟩ := id X1
  go_wp2_with fail
  clear xf0 xf1 xf2 xf3 xf4 xf5 xf6
  refine (refNum_any s a o _ s0 s1 a0 a1 o0 o1).mono ?_
  rintro e w2 ⟨rfl, hb⟩
  have B2 := Lib.hid (B1.out.up hb)
  have X2 := X1.up hb
  clear hb B1  X1
  obtain ⟨xf0, xf1, xf2, xf3, xf4, xf5, xf6⟩ := id X2
  go_wp2_with fail
  go_ret
  exact ⟨by first | rfl | (simp; done) | (simp; omega), B2.out.out⟩
set_option maxRecDepth 100000 in
set_option maxHeartbeats 2000000 in
theorem valid_no (s a o : Int) (w : World) (h : ¬ Pit s a o) :
    Calls Tryd.prog 21 #[.agg #[.int .i64 s, .int .i64 a, .int .i64 o]] w fun e w' => e = .returned (.bool false) ∧ Below w.heap.size w w' := by
  rcases not_pit h with h1 | ⟨s0, h1 | ⟨s1, h1 | ⟨a0, h1 | ⟨a1, h1 | ⟨o0, h1 | ⟨o1, h1⟩⟩⟩⟩⟩⟩
  rotate_right
  · rcases h1 with h1 | h1
    · exact valid_lo s a o w s0 s1 a0 a1 o0 o1 h1
    · exact valid_hi s a o w s0 s1 a0 a1 o0 o1 h1
  all_goals
    clear h
    have B0 := Lib.hid ((Bel.refl w).alloc (.cells #[.int .i64 s, .int .i64 a, .int .i64 o] 41))
    go_enter Tryd.func21, Tryd.ntmps21
    go_wp2_with fail
    go_ret
    exact ⟨by first | rfl | (simp; done) | (simp; omega), B0.out.out⟩
set_option maxRecDepth 100000 in
set_option maxHeartbeats 2000000 in
theorem refBetw_ok (s a o r b q : Int) (w : World) (h : Pit s a o) (k : Pit r b q) :
    Calls Tryd.prog 23 #[.agg #[.int .i64 s, .int .i64 a, .int .i64 o], .agg #[.int .i64 r, .int .i64 b, .int .i64 q]] w fun e w' => e = .returned (.agg #[.int .i64 (diaP r q - diaP s o), .int .i64 (numP r b q - numP s a o)]) ∧ Below w.heap.size w w' := by
  have B0 := Lib.hid ((((Bel.refl w).alloc (.cells #[.int .i64 s, .int .i64 a, .int .i64 o] 41)).alloc (.cells #[.int .i64 r, .int .i64 b, .int .i64 q] 41)).alloc (.cells #[.int .i64 0, .int .i64 0] 23))
  have X0 := ((Tri.new w (.int .i64 s) (.int .i64 a) (.int .i64 o) 41 (w.heap.size) (by simp)).alloc (.cells #[.int .i64 r, .int .i64 b, .int .i64 q] 41)).alloc (.cells #[.int .i64 0, .int .i64 0] 23)
  have Y0 := (Tri.new (w.alloc (.cells #[.int .i64 s, .int .i64 a, .int .i64 o] 41)) (.int .i64 r) (.int .i64 b) (.int .i64 q) 41 (w.heap.size + 1) (by simp)).alloc (.cells #[.int .i64 0, .int .i64 0] 23)
  have R0 := Duo.new ((w.alloc (.cells #[.int .i64 s, .int .i64 a, .int .i64 o] 41)).alloc (.cells #[.int .i64 r, .int .i64 b, .int .i64 q] 41)) (.int .i64 0) (.int .i64 0) 23 (w.heap.size + 1 + 1) (by simp)
  have HP := Lib.hid h
  have HQ := Lib.hid k
  have N0 := h.n0; have N1 := h.n1; have M0 := k.n0; have M1 := k.n1
  obtain ⟨D0, D1⟩ := dia_bd h
  obtain ⟨E0, E1⟩ := dia_bd k
  go_enter Tryd.func23, Tryd.ntmps23
  obtain ⟨xf0, xf1, xf2, xf3, xf4, xf5, xf6⟩ := id X0
  obtain ⟨yf0, yf1, yf2, yf3, yf4, yf5, yf6⟩ := id Y0
  obtain ⟨rf0, rf1, rf2, rf3, rf4⟩ := id R0
  go_wp2_with fail
  clear xf0 xf1 xf2 xf3 xf4 xf5 xf6 yf0 yf1 yf2 yf3 yf4 yf5 yf6 rf0 rf1 rf2 rf3 rf4
  refine Qt.region 11 (by kernel_rfl) (by kernel_rfl) ?_
  intro T f F hne
  have RB := Lib.hid (fun g => B0.out.up (F.below g))
  have RX := fun g => X0.up (F.below g)
  have RX0 := fun g => (RX g).c0
  have RX1 := fun g => (RX g).c1
  have RX2 := fun g => (RX g).c2
  have RY := fun g => Y0.up (F.below g)
  have RY0 := fun g => (RY g).c0
  have RY1 := fun g => (RY g).c1
  have RY2 := fun g => (RY g).c2
  have RR := fun g => R0.up (F.below g)
  have RR0 := fun g => (RR g).c0
  have RR1 := fun g => (RR g).c1
  simp only [List.take_succ_cons, List.take_zero, List.drop_succ_cons, List.drop_zero]
  repeat (go_big_quiet_step (first | (go_at_call 44; with_reducible exact F.call (refPos_any s a o _ HP.out.s0 HP.out.s1 HP.out.o0 HP.out.o1)) | (go_at_call 44; with_reducible exact F.call (refPos_any r b q _ HQ.out.s0 HQ.out.s1 HQ.out.o0 HQ.out.o1)) | (go_at_call 27; with_reducible exact F.call (refNum_any s a o _ HP.out.s0 HP.out.s1 HP.out.a0 HP.out.a1 HP.out.o0 HP.out.o1)) | (go_at_call 27; with_reducible exact F.call (refNum_any r b q _ HQ.out.s0 HQ.out.s1 HQ.out.a0 HQ.out.a1 HQ.out.o0 HQ.out.o1))))
  refine wpQuiet_nil ?_
  rintro _ ⟨g, rfl⟩
  have B1 := Lib.hid (RB.out g)
  have X1 := RX g
  have Y1 := RY g
  have R1 := RR g
  clear F RB hne RX RX0 RX1 RX2 RY RY0 RY1 RY2 RR RR0 RR1 B0 X0 Y0 R0
  generalize f g = w1 at *
  clear f
  obtain ⟨xf0, xf1, xf2, xf3, xf4, xf5, xf6⟩ := id X1
  obtain ⟨yf0, yf1, yf2, yf3, yf4, yf5, yf6⟩ := id Y1
  obtain ⟨rf0, rf1, rf2, rf3, rf4⟩ := id R1
  go_wp2_with fail
  have Tf := R1.store (u := .int .i64 (diaP r q - diaP s o)) (v := .int .i64 (numP r b q - numP s a o))
  exact bodyPost_ret (v := .agg #[.int .i64 (diaP r q - diaP s o), .int .i64 (numP r b q - numP s a o)]) (by first | (simp [results, Tryd.results23, go_sem, Tf.c0, Tf.c1]; done) | (simp [results, Tryd.results23, go_sem, Tf.c0, Tf.c1]; omega)) rfl ⟨rfl, ((B1.out.set (Nat.le_succ_of_le (Nat.le_succ _)) _ _).set (Nat.le_succ_of_le (Nat.le_succ _)) _ _)⟩
def allA (n : Int) (k : Nat) : Option (Int × Int × Int) :=
  if -2 ≤ n - 12 * ((k / 7 : Nat) : Int) - stepI ((k % 7 : Nat) : Int) ∧ n - 12 * ((k / 7 : Nat) : Int) - stepI ((k % 7 : Nat) : Int) ≤ 2 ∧ 0 ≤ n ∧ n ≤ 127 then some (((k % 7 : Nat) : Int), n - 12 * ((k / 7 : Nat) : Int) - stepI ((k % 7 : Nat) : Int), ((k / 7 : Nat) : Int) - 1) else none
def refA (n : Int) (k : Nat) : List (Int × Int × Int) := (List.range k).filterMap (allA n)
theorem refA_hit {n : Int} {k : Nat} {p : Int × Int × Int} (h : allA n k = some p) : refA n (k + 1) = refA n k ++ [p] := by simp [refA, List.range_succ, h]
theorem refA_miss {n : Int} {k : Nat} (h : allA n k = none) : refA n (k + 1) = refA n k := by simp [refA, List.range_succ, h]
theorem refA_len (n : Int) (k : Nat) : (refA n k).length ≤ k := by have := List.length_filterMap_le (allA n) (List.range k); simpa [refA] using this
theorem refA_fin : ∀ n : Fin 128, refA (n.val : Int) 77 = enhL (n.val : Int) := by decide +kernel
theorem refA_none {n : Int} (h : n < 0 ∨ 127 < n) (k : Nat) : refA n k = [] := by
  induction k with
  | zero => rfl
  | succ k ih => rw [refA_miss (by unfold allA; rw [if_neg (by omega)]), ih]
theorem enhL_none {n : Int} (h : n < 0 ∨ 127 < n) : enhL n = [] := by
  cases hl : enhL n with
  | nil => rfl
  | cons q l =>
    have := enhL_pit (n := n) q (by rw [hl]; simp)
    have h1 := this.1.n0; have h2 := this.1.n1; have h3 := this.2
    omega
theorem refA_enh (n : Int) : refA n 77 = enhL n := by
  by_cases h : 0 ≤ n ∧ n ≤ 127
  · have := refA_fin ⟨n.toNat, by omega⟩
    have e : ((n.toNat : Nat) : Int) = n := by omega
    simpa [e] using this
  · rw [refA_none (by omega), enhL_none (by omega)]
theorem allA_at (n : Int) (i j : Nat) (hj : j < 7) : allA n (7 * i + j) = if -2 ≤ n - 12 * (i : Int) - stepI (j : Int) ∧ n - 12 * (i : Int) - stepI (j : Int) ≤ 2 ∧ 0 ≤ n ∧ n ≤ 127 then some ((j : Int), n - 12 * (i : Int) - stepI (j : Int), (i : Int) - 1) else none := by
  have e1 : (7 * i + j) % 7 = j := by omega
  have e2 : (7 * i + j) / 7 = i := by omega
  unfold allA
  rw [e1, e2]
/-- what the loops of All keep -/
structure RA (w wr : World) (v : Value) (n : Int) (k : Nat) : Prop where
  bel : Bel w wr
  own : wr.ownsRow w.heap.size 41 3 v (refA n k).length (cells3 (refA n k))
theorem RA.up {w wr w' : World} {v : Value} {n : Int} {k : Nat} (h : RA w wr v n k) (hb : Below wr.heap.size wr w') : RA w w' v n k := ⟨h.bel.up hb, ownUp h.own hb⟩
end Go.Proofs.YtfbogakmhaiddaaDoor
