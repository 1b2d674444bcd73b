/- Clefs: pitch.Of, the reference's Exists. -/
import Derived.Test.YtmdnlnjapkcanaaDoorCa
namespace Go.Proofs.YtmdnlnjapkcanaaDoor
open Go.RowKit
set_option linter.unusedVariables false
set_option linter.unusedSimpArgs false

set_option maxHeartbeats 400000 in
theorem floor7 (x : Int) (w : World) (x0 : -9223372036854775808 ≤ x) (x1 : x ≤ 9223372036854775807) :
    Calls Tryd.prog 45 #[.int .i64 x, .int .i64 7] w fun e w' => e = .returned (.int .i64 (x / 7)) ∧ w = w' := by
  have b1 : -1317624576693539401 ≤ x.tdiv 7 ∧ x.tdiv 7 ≤ 1317624576693539401 := by
    have := Int.natAbs_tdiv_le_natAbs x 7
    have h := Int.tdiv_eq_ediv (a := x) (b := 7)
    rw [show Int.sign 7 = 1 from rfl] at h
    split at h <;> omega
  obtain ⟨b1, b2⟩ := b1
  by_cases h : x.tmod 7 < 0
  · have e := Lib.hid (floor_neg (by omega) h)
    go_enter Tryd.func45, Tryd.ntmps45
    go_wp2
    go_ret
    exact ⟨ret_int e.out, rfl⟩
  · have e := Lib.hid (floor_pos (by omega) h)
    go_enter Tryd.func45, Tryd.ntmps45
    go_wp2
    go_ret
    exact ⟨ret_int e.out, rfl⟩
theorem mod7 (x : Int) : (x.tmod 7 + 7).tmod 7 = x % 7 ∧ 0 ≤ x.tmod 7 + 7 ∧ -7 < x.tmod 7 ∧ x.tmod 7 < 7 := by
  have h2 := Int.tmod_eq_emod (a := x) (b := 7)
  have h3 := Int.emod_lt_of_pos x (show (0 : Int) < 7 by omega)
  have h4 := Int.emod_nonneg x (show (7 : Int) ≠ 0 by omega)
  have h5 : -7 < x.tmod 7 ∧ x.tmod 7 < 7 := by split at h2 <;> simp at h2 <;> omega
  have h6 := Int.tmod_eq_emod_of_nonneg (a := x.tmod 7 + 7) (b := 7) (by omega)
  refine ⟨?_, by omega, h5.1, h5.2⟩
  rw [h6]
  split at h2 <;> simp at h2 <;> omega
set_option maxRecDepth 100000 in
set_option maxHeartbeats 2000000 in
theorem of_ok (m a : Int) (w : World) (m0 : -9223372036854775808 ≤ m) (m1 : m ≤ 9223372036854775807) (h : Pit (m % 7) a (m / 7)) (ht : PT w) :
    Calls Tryd.prog 36 #[.int .i64 m, .int .i64 a] w fun e w' => e = .returned (.tuple #[.agg #[.int .i64 (m % 7), .int .i64 a, .int .i64 (m / 7)], .int .i64 0]) ∧ Below w.heap.size w w' := by
  have HP := Lib.hid h
  have B0 := Lib.hid ((Bel.refl w).alloc (.cells #[.int .i64 0, .int .i64 0, .int .i64 0] 23))
  have T0 := Lib.hid (ht.alloc (.cells #[.int .i64 0, .int .i64 0, .int .i64 0] 23))
  have R0 := Tri.new w (.int .i64 0) (.int .i64 0) (.int .i64 0) 23 w.heap.size rfl
  obtain ⟨e1, e2, e3, e4⟩ := mod7 m
  clear ht h
  go_enter Tryd.func36, Tryd.ntmps36
  go_wp2_with fail
  refine (floor7 m _ m0 m1).mono ?_
  rintro e w1 ⟨rfl, rfl⟩
  have B1 := Lib.hid (B0.out.alloc (.cells #[.int .i64 (m % 7), .int .i64 a, .int .i64 (m / 7)] 23))
  have T1 := Lib.hid (T0.out.alloc (.cells #[.int .i64 (m % 7), .int .i64 a, .int .i64 (m / 7)] 23))
  have R1 := R0.alloc (.cells #[.int .i64 (m % 7), .int .i64 a, .int .i64 (m / 7)] 23)
  have X1 := Tri.new (w.alloc (.cells #[.int .i64 0, .int .i64 0, .int .i64 0] 23)) (.int .i64 (m % 7)) (.int .i64 a) (.int .i64 (m / 7)) 23 (w.heap.size + 1) (by simp)
  clear B0 T0 R0
  go_wp2_with fail
  refine (check_ok (m % 7) a (m / 7) _ HP.out T1.out).mono ?_
  rintro e w2 ⟨rfl, hb⟩
  have B2 := Lib.hid (B1.out.up hb)
  have R2 := R1.up hb
  have X2 := X1.up hb
  clear hb B1 T1 R1 X1
  obtain ⟨r0, r1, r2, r3, r4, r5, r6⟩ := id R2
  obtain ⟨x0, x1, x2, x3, x4, x5, x6⟩ := id X2
  go_wp2_with fail
  have Tf := R2.store (u := .int .i64 (m % 7)) (v := .int .i64 a) (t := .int .i64 (m / 7))
  exact bodyPost_ret (v := .tuple #[.agg #[.int .i64 (m % 7), .int .i64 a, .int .i64 (m / 7)], .int .i64 0]) (by simp [results, Tryd.results36, go_sem, Tf.c0, Tf.c1, Tf.c2]) rfl ⟨rfl, ((B2.out.set (Nat.le_refl _) _ _).set (Nat.le_refl _) _ _).set (Nat.le_refl _) _ _⟩
set_option maxRecDepth 100000 in
set_option maxHeartbeats 2000000 in
theorem of_bad (m a : Int) (w : World) (m0 : -9223372036854775808 ≤ m) (m1 : m ≤ 9223372036854775807) (h : ¬ Pit (m % 7) a (m / 7)) (ht : PT w) :
    Calls Tryd.prog 36 #[.int .i64 m, .int .i64 a] w fun e w' => e = .returned (.tuple #[.agg #[.int .i64 0, .int .i64 0, .int .i64 0], .int .i64 18]) ∧ Below w.heap.size w w' := by
  have HP := Lib.hid h
  have B0 := Lib.hid ((Bel.refl w).alloc (.cells #[.int .i64 0, .int .i64 0, .int .i64 0] 23))
  have T0 := Lib.hid (ht.alloc (.cells #[.int .i64 0, .int .i64 0, .int .i64 0] 23))
  have R0 := Tri.new w (.int .i64 0) (.int .i64 0) (.int .i64 0) 23 w.heap.size rfl
  obtain ⟨e1, e2, e3, e4⟩ := mod7 m
  clear ht h
  go_enter Tryd.func36, Tryd.ntmps36
  go_wp2_with fail
  refine (floor7 m _ m0 m1).mono ?_
  rintro e w1 ⟨rfl, rfl⟩
  have B1 := Lib.hid (B0.out.alloc (.cells #[.int .i64 (m % 7), .int .i64 a, .int .i64 (m / 7)] 23))
  have T1 := Lib.hid (T0.out.alloc (.cells #[.int .i64 (m % 7), .int .i64 a, .int .i64 (m / 7)] 23))
  have R1 := R0.alloc (.cells #[.int .i64 (m % 7), .int .i64 a, .int .i64 (m / 7)] 23)
  have X1 := Tri.new (w.alloc (.cells #[.int .i64 0, .int .i64 0, .int .i64 0] 23)) (.int .i64 (m % 7)) (.int .i64 a) (.int .i64 (m / 7)) 23 (w.heap.size + 1) (by simp)
  clear B0 T0 R0
  go_wp2_with fail
  refine (check_bad (m % 7) a (m / 7) _ HP.out T1.out).mono ?_
  rintro e w2 ⟨rfl, hb⟩
  have B2 := Lib.hid (B1.out.up hb)
  have R2 := R1.up hb
  have X2 := X1.up hb
  clear hb B1 T1 R1 X1
  obtain ⟨r0, r1, r2, r3, r4, r5, r6⟩ := id R2
  obtain ⟨x0, x1, x2, x3, x4, x5, x6⟩ := id X2
  go_wp2_with fail
  have Tf := R2.store (u := .int .i64 0) (v := .int .i64 0) (t := .int .i64 0)
  exact bodyPost_ret (v := .tuple #[.agg #[.int .i64 0, .int .i64 0, .int .i64 0], .int .i64 18]) (by simp [results, Tryd.results36, go_sem, Tf.c0, Tf.c1, Tf.c2]) rfl ⟨rfl, ((B2.out.set (Nat.le_refl _) _ _).set (Nat.le_refl _) _ _).set (Nat.le_refl _) _ _⟩
set_option maxRecDepth 100000 in
set_option maxHeartbeats 1000000 in
theorem semi_any (s : Int) (w : World) (s0 : 0 ≤ s) (s1 : s ≤ 6) :
    Calls Tryd.prog 44 #[.int .i64 s] w fun e w' => e = .returned (.int .i64 (stepI s)) ∧ Below w.heap.size w w' := by
  rcases step_cases s0 s1 with rfl | rfl | rfl | rfl | rfl | rfl | rfl
  all_goals
    go_enter Tryd.func44, Tryd.ntmps44
    go_wp2_with fail
    go_ret
    exact ⟨ret_int (by simp [stepI]), (Below.refl _ _).alloc (Nat.le_refl _) _⟩
set_option maxRecDepth 100000 in
set_option maxHeartbeats 1000000 in
theorem refNumber_any (s a o : Int) (w : World) (s0 : 0 ≤ s) (s1 : s ≤ 6) (a0 : -2 ≤ a) (a1 : a ≤ 2) (o0 : -1 ≤ o) (o1 : o ≤ 9) :
    Calls Tryd.prog 34 #[.agg #[.int .i64 s, .int .i64 a, .int .i64 o]] w fun e w' => e = .returned (.int .i64 (numP s a o)) ∧ Below w.heap.size w w' := by
  have k := step_bd s0 s1
  have X := Lib.hid (Tri.new w (.int .i64 s) (.int .i64 a) (.int .i64 o) 23 w.heap.size rfl)
  unfold numP
  go_enter Tryd.func34, Tryd.ntmps34
  go_wp2_with fail
  refine Qt.regionAll (by kernel_rfl) (by kernel_rfl) ?_
  intro T f F hne
  have Y := fun t => X.out.up (F.below t)
  have a1 := fun t => (Y t).c0; have a2 := fun t => (Y t).c1; have a3 := fun t => (Y t).c2
  repeat (go_big_quiet_step (first | (go_at_call 44; exact F.call (semi_any _ _ s0 s1))))
  refine wpQuiet_nil ?_
  rintro _ ⟨t, rfl⟩
  have hb := F.below t
  go_wp2_with fail
  go_ret
  exact ⟨rfl, ((Below.refl _ _).alloc (Nat.le_refl _) _).trans (hb.mono (by simp))⟩
set_option maxRecDepth 100000 in
set_option maxHeartbeats 1000000 in
theorem exists_yes (s a o : Int) (w : World) (h : Pit s a o) :
    Calls Tryd.prog 16 #[.agg #[.int .i64 s, .int .i64 a, .int .i64 o]] w fun e w' => e = .returned (.bool true) ∧ Below w.heap.size w w' := by
  obtain ⟨s0, s1, a0, a1, o0, o1, k0, k1⟩ := h
  go_enter Tryd.func16, Tryd.ntmps16
  go_wp2_with fail
  refine (refNumber_any s a o _ s0 s1 a0 a1 o0 o1).mono ?_
  rintro e w1 ⟨rfl, hb⟩
  go_wp2_with fail
  go_ret
  exact ⟨rfl, ((Below.refl _ _).alloc (Nat.le_refl _) _).trans (hb.mono (by simp))⟩
set_option maxRecDepth 100000 in
set_option maxHeartbeats 1000000 in
theorem exists_no (s a o : Int) (w : World) (h : ¬ Pit s a o) :
    Calls Tryd.prog 16 #[.agg #[.int .i64 s, .int .i64 a, .int .i64 o]] w fun e w' => e = .returned (.bool false) ∧ Below w.heap.size w w' := by
  rcases not_pit h with h1 | ⟨s0, h1 | ⟨s1, h1 | ⟨a0, h1 | ⟨a1, h1 | ⟨o0, h1 | ⟨o1, h1⟩⟩⟩⟩⟩⟩
  rotate_right
  · rcases h1 with h1 | h1
    all_goals
      clear h
      go_enter Tryd.func16, Tryd.ntmps16
      go_wp2_with fail
      refine (refNumber_any s a o _ s0 s1 a0 a1 o0 o1).mono ?_
      rintro e w1 ⟨rfl, hb⟩
      go_wp2_with fail
      go_ret
      refine ⟨?_, ((Below.refl _ _).alloc (Nat.le_refl _) _).trans (hb.mono (by simp))⟩
      first
        | rfl
        | (simp [go_sem]; done)
        | (simp [go_sem]; omega)
  all_goals
    clear h
    go_enter Tryd.func16, Tryd.ntmps16
    go_wp2_with fail
    go_ret
    exact ⟨rfl, (Below.refl _ _).alloc (Nat.le_refl _) _⟩
end Go.Proofs.YtmdnlnjapkcanaaDoor
