/- The law PitchOf. -/
import Derived.Test.YtolfgomlokpopaaDoorQa
import Derived.Test.YtolfgomlokpopaaDoorPk
namespace Go.Proofs.YtolfgomlokpopaaDoor
open Go.RowKit
set_option linter.unusedVariables false
set_option linter.unusedSimpArgs false

set_option maxHeartbeats 400000 in
theorem floor7 (x : Int) (w : World) (x0 : -9223372036854775808 ≤ x) (x1 : x ≤ 9223372036854775807) :
    Calls Tryd.prog 33 #[.int .i64 x, .int .i64 7] w fun e w' => e = .returned (.int .i64 (x / 7)) ∧ w = w' := by
  have b1 : -1317624576693539401 ≤ x.tdiv 7 ∧ x.tdiv 7 ≤ 1317624576693539401 := by
    have := Int.natAbs_tdiv_le_natAbs x 7
    have h := Int.tdiv_eq_ediv (a := x) (b := 7)
    rw [show Int.sign 7 = 1 from rfl] at h
    split at h <;> omega
  obtain ⟨b1, b2⟩ := b1
  by_cases h : x.tmod 7 < 0
  · have e := Lib.hid (floor_neg (by omega) h)
    go_enter Tryd.func33, Tryd.ntmps33
    go_wp2
    go_ret
    exact ⟨ret_int e.out, rfl⟩
  · have e := Lib.hid (floor_pos (by omega) h)
    go_enter Tryd.func33, Tryd.ntmps33
    go_wp2
    go_ret
    exact ⟨ret_int e.out, rfl⟩
theorem mod7 (x : Int) : (x.tmod 7 + 7).tmod 7 = x % 7 ∧ 0 ≤ x.tmod 7 + 7 ∧ -7 < x.tmod 7 ∧ x.tmod 7 < 7 := by
  have h2 := Int.tmod_eq_emod (a := x) (b := 7)
  have h3 := Int.emod_lt_of_pos x (show (0 : Int) < 7 by omega)
  have h4 := Int.emod_nonneg x (show (7 : Int) ≠ 0 by omega)
  have h5 : -7 < x.tmod 7 ∧ x.tmod 7 < 7 := by split at h2 <;> simp at h2 <;> omega
  have h6 := Int.tmod_eq_emod_of_nonneg (a := x.tmod 7 + 7) (b := 7) (by omega)
  refine ⟨?_, by omega, h5.1, h5.2⟩
  rw [h6]
  split at h2 <;> simp at h2 <;> omega
set_option maxRecDepth 100000 in
set_option maxHeartbeats 2000000 in
theorem of_ok (m a : Int) (w : World) (m0 : -9223372036854775808 ≤ m) (m1 : m ≤ 9223372036854775807) (h : Pit (m % 7) a (m / 7)) (ht : PT w) :
    Calls Tryd.prog 19 #[.int .i64 m, .int .i64 a] w fun e w' => e = .returned (.tuple #[.agg #[.int .i64 (m % 7), .int .i64 a, .int .i64 (m / 7)], .int .i64 0]) ∧ Below w.heap.size w w' := by
  have HP := Lib.hid h
  have B0 := Lib.hid ((Bel.refl w).alloc (.cells #[.int .i64 0, .int .i64 0, .int .i64 0] 23))
  have T0 := Lib.hid (ht.alloc (.cells #[.int .i64 0, .int .i64 0, .int .i64 0] 23))
  have R0 := Tri.new w (.int .i64 0) (.int .i64 0) (.int .i64 0) 23 w.heap.size rfl
  obtain ⟨e1, e2, e3, e4⟩ := mod7 m
  clear ht h
  go_enter Tryd.func19, Tryd.ntmps19
  go_wp2_with fail
  refine (floor7 m _ m0 m1).mono ?_
  rintro e w1 ⟨rfl, rfl⟩
  have B1 := Lib.hid (B0.out.alloc (.cells #[.int .i64 (m % 7), .int .i64 a, .int .i64 (m / 7)] 23))
  have T1 := Lib.hid (T0.out.alloc (.cells #[.int .i64 (m % 7), .int .i64 a, .int .i64 (m / 7)] 23))
  have R1 := R0.alloc (.cells #[.int .i64 (m % 7), .int .i64 a, .int .i64 (m / 7)] 23)
  have X1 := Tri.new (w.alloc (.cells #[.int .i64 0, .int .i64 0, .int .i64 0] 23)) (.int .i64 (m % 7)) (.int .i64 a) (.int .i64 (m / 7)) 23 (w.heap.size + 1) (by simp)
  clear B0 T0 R0
  go_wp2_with fail
  refine (check_ok (m % 7) a (m / 7) _ HP.out T1.out).mono ?_
  rintro e w2 ⟨rfl, hb⟩
  have B2 := Lib.hid (B1.out.up hb)
  have R2 := R1.up hb
  have X2 := X1.up hb
  clear hb B1 T1 R1 X1
  obtain ⟨r0, r1, r2, r3, r4, r5, r6⟩ := id R2
  obtain ⟨x0, x1, x2, x3, x4, x5, x6⟩ := id X2
  go_wp2_with fail
  have Tf := R2.store (u := .int .i64 (m % 7)) (v := .int .i64 a) (t := .int .i64 (m / 7))
  exact bodyPost_ret (v := .tuple #[.agg #[.int .i64 (m % 7), .int .i64 a, .int .i64 (m / 7)], .int .i64 0]) (by simp [results, Tryd.results19, go_sem, Tf.c0, Tf.c1, Tf.c2]) rfl ⟨rfl, ((B2.out.set (Nat.le_refl _) _ _).set (Nat.le_refl _) _ _).set (Nat.le_refl _) _ _⟩
set_option maxRecDepth 100000 in
set_option maxHeartbeats 2000000 in
theorem of_bad (m a : Int) (w : World) (m0 : -9223372036854775808 ≤ m) (m1 : m ≤ 9223372036854775807) (h : ¬ Pit (m % 7) a (m / 7)) (ht : PT w) :
    Calls Tryd.prog 19 #[.int .i64 m, .int .i64 a] w fun e w' => e = .returned (.tuple #[.agg #[.int .i64 0, .int .i64 0, .int .i64 0], .int .i64 18]) ∧ Below w.heap.size w w' := by
  have HP := Lib.hid h
  have B0 := Lib.hid ((Bel.refl w).alloc (.cells #[.int .i64 0, .int .i64 0, .int .i64 0] 23))
  have T0 := Lib.hid (ht.alloc (.cells #[.int .i64 0, .int .i64 0, .int .i64 0] 23))
  have R0 := Tri.new w (.int .i64 0) (.int .i64 0) (.int .i64 0) 23 w.heap.size rfl
  obtain ⟨e1, e2, e3, e4⟩ := mod7 m
  clear ht h
  go_enter Tryd.func19, Tryd.ntmps19
  go_wp2_with fail
  refine (floor7 m _ m0 m1).mono ?_
  rintro e w1 ⟨rfl, rfl⟩
  have B1 := Lib.hid (B0.out.alloc (.cells #[.int .i64 (m % 7), .int .i64 a, .int .i64 (m / 7)] 23))
  have T1 := Lib.hid (T0.out.alloc (.cells #[.int .i64 (m % 7), .int .i64 a, .int .i64 (m / 7)] 23))
  have R1 := R0.alloc (.cells #[.int .i64 (m % 7), .int .i64 a, .int .i64 (m / 7)] 23)
  have X1 := Tri.new (w.alloc (.cells #[.int .i64 0, .int .i64 0, .int .i64 0] 23)) (.int .i64 (m % 7)) (.int .i64 a) (.int .i64 (m / 7)) 23 (w.heap.size + 1) (by simp)
  clear B0 T0 R0
  go_wp2_with fail
  refine (check_bad (m % 7) a (m / 7) _ HP.out T1.out).mono ?_
  rintro e w2 ⟨rfl, hb⟩
  have B2 := Lib.hid (B1.out.up hb)
  have R2 := R1.up hb
  have X2 := X1.up hb
  clear hb B1 T1 R1 X1
  obtain ⟨r0, r1, r2, r3, r4, r5, r6⟩ := id R2
  obtain ⟨x0, x1, x2, x3, x4, x5, x6⟩ := id X2
  go_wp2_with fail
  have Tf := R2.store (u := .int .i64 0) (v := .int .i64 0) (t := .int .i64 0)
  exact bodyPost_ret (v := .tuple #[.agg #[.int .i64 0, .int .i64 0, .int .i64 0], .int .i64 18]) (by simp [results, Tryd.results19, go_sem, Tf.c0, Tf.c1, Tf.c2]) rfl ⟨rfl, ((B2.out.set (Nat.le_refl _) _ _).set (Nat.le_refl _) _ _).set (Nat.le_refl _) _ _⟩
theorem refDia4 (s a o : Int) (w : World) (s0 : 0 ≤ s) (s1 : s ≤ 6) (o0 : -1 ≤ o) (o1 : o ≤ 9) :
    Calls Tryd.prog 17 #[.agg #[.int .i64 s, .int .i64 a, .int .i64 o]] w fun e w' => e = .returned (.int .i64 (diaP s o)) ∧ Below w.heap.size w w' := by
  unfold diaP
  go_enter Tryd.func17, Tryd.ntmps17
  go_wp2
  try go_quiet (fail)
  go_wp2
  go_ret
  first
    | exact ⟨rfl, (Below.refl _ _).alloc (Nat.le_refl _) _⟩
    | exact ⟨rfl, below_drewN ((Below.refl _ _).alloc (Nat.le_refl _) _) _⟩
set_option maxRecDepth 100000 in
set_option maxHeartbeats 2000000 in
theorem ofLaw_yes (m a : Int) (w : World) (m0 : -9223372036854775808 ≤ m) (m1 : m ≤ 9223372036854775807) (h : Pit (m % 7) a (m / 7)) (ht : PW w) :
    Calls Tryd.prog 4 #[.int .i64 m, .int .i64 a] w fun e w' => e = .returned (.bool true) ∧ Below w.heap.size w w' := by
  have HP := Lib.hid h
  have h0 := h.s0; have h1 := h.s1; have h4 := h.o0; have h5 := h.o1
  have T0 := Lib.hid ht
  have hd : diaP (m % 7) (m / 7) = m := by unfold diaP; omega
  clear ht h
  go_enter Tryd.func4, Tryd.ntmps4
  go_wp2_with fail
  refine (of_ok m a _ m0 m1 HP.out T0.out.t).mono ?_
  rintro e w1 ⟨rfl, hb⟩
  have B1 := Lib.hid (((Bel.refl w).up hb).alloc (.cells #[.int .i64 (m % 7), .int .i64 a, .int .i64 (m / 7)] 23))
  have T1 := Lib.hid ((T0.out.below hb).below ((Below.refl _ _).alloc (Nat.le_refl _) (.cells #[.int .i64 (m % 7), .int .i64 a, .int .i64 (m / 7)] 23)))
  have X1 := Tri.new w1 (.int .i64 (m % 7)) (.int .i64 a) (.int .i64 (m / 7)) 23 w1.heap.size rfl
  clear hb T0
  go_wp2_with fail
  refine (known_any _ T1.out).mono ?_
  rintro e w2 ⟨rfl, hb⟩
  have B2 := Lib.hid (B1.out.up hb)
  have X2 := X1.up hb
  clear hb T1 B1 X1
  obtain ⟨x0, x1, x2, x3, x4, x5, x6⟩ := id X2
  go_wp2_with fail
  clear x0 x1 x2 x3 x4 x5 x6
  refine (exists_yes _ _ _ _ HP.out).mono ?_
  rintro e w3 ⟨rfl, hb⟩
  have B3 := Lib.hid (B2.out.up hb)
  have X3 := X2.up hb
  clear hb B2 X2
  obtain ⟨x0, x1, x2, x3, x4, x5, x6⟩ := id X3
  go_wp2_with fail
  clear x0 x1 x2 x3 x4 x5 x6
  refine (refDia4 (m % 7) a (m / 7) _ h0 h1 h4 h5).mono ?_
  rintro e w4 ⟨rfl, hb⟩
  rw [hd]
  have B4 := Lib.hid (B3.out.up hb)
  have X4 := X3.up hb
  clear hb B3 X3
  obtain ⟨x0, x1, x2, x3, x4, x5, x6⟩ := id X4
  go_wp2_with fail
  go_ret
  exact ⟨by first | rfl | simp, B4.out.out⟩
theorem seven (m : Int) (h0 : -7 ≤ m) (h1 : m ≤ 69) : (m + 7).tmod 7 = m % 7 ∧ (m + 7).tdiv 7 - 1 = m / 7 := by
  have e1 := Int.tmod_eq_emod_of_nonneg (a := m + 7) (b := 7) (by omega)
  have e2 := Int.tdiv_eq_ediv_of_nonneg (a := m + 7) (b := 7) (by omega)
  omega
set_option maxRecDepth 100000 in
set_option maxHeartbeats 2000000 in
theorem ofLaw_no (m a : Int) (w : World) (m0 : -9223372036854775808 ≤ m) (m1 : m ≤ 9223372036854775807) (h : ¬ Pit (m % 7) a (m / 7)) (ht : PW w) :
    Calls Tryd.prog 4 #[.int .i64 m, .int .i64 a] w fun e w' => e = .returned (.bool true) ∧ Below w.heap.size w w' := by
  have HP := Lib.hid h
  have T0 := Lib.hid ht
  clear ht h
  go_enter Tryd.func4, Tryd.ntmps4
  go_wp2_with fail
  refine (of_bad m a _ m0 m1 HP.out T0.out.t).mono ?_
  rintro e w1 ⟨rfl, hb⟩
  have B1 := Lib.hid (((Bel.refl w).up hb).alloc (.cells #[.int .i64 0, .int .i64 0, .int .i64 0] 23))
  have T1 := Lib.hid ((T0.out.below hb).below ((Below.refl _ _).alloc (Nat.le_refl _) (.cells #[.int .i64 0, .int .i64 0, .int .i64 0] 23)))
  have X1 := Tri.new w1 (.int .i64 0) (.int .i64 0) (.int .i64 0) 23 w1.heap.size rfl
  clear hb T0
  go_wp2_with fail
  refine (known_any _ T1.out).mono ?_
  rintro e w2 ⟨rfl, hb⟩
  have B2 := Lib.hid (B1.out.up hb)
  have X2 := X1.up hb
  clear hb T1 B1 X1
  obtain ⟨x0, x1, x2, x3, x4, x5, x6⟩ := id X2
  by_cases hr : -7 ≤ m ∧ m ≤ 69 ∧ -2 ≤ a ∧ a ≤ 2
  · obtain ⟨u0, u1, u2, u3⟩ := hr
    obtain ⟨e1, e2⟩ := seven m u0 u1
    have b1 := Int.tdiv_eq_ediv_of_nonneg (a := m + 7) (b := 7) (by omega)
    have b2 : 0 ≤ (m + 7).tdiv 7 ∧ (m + 7).tdiv 7 ≤ 11 := by omega
    clear b1
    go_wp2_with fail
    clear x0 x1 x2 x3 x4 x5 x6
    refine (exists_no (m % 7) a (m / 7) _ HP.out).mono ?_
    rintro e w3 ⟨rfl, hb⟩
    have B3 := Lib.hid (B2.out.up hb)
    go_wp2_with fail
    go_ret
    exact ⟨rfl, B3.out.out⟩
  · have hr' : m < -7 ∨ 69 < m ∨ a < -2 ∨ 2 < a := by omega
    clear hr
    go_wp2_with fail
    all_goals
      go_ret
      exact ⟨rfl, B2.out.out⟩
theorem law_PitchOf (m a : Int) (w : World) (m0 : -9223372036854775808 ≤ m) (m1 : m ≤ 9223372036854775807) (a0 : -9223372036854775808 ≤ a) (a1 : a ≤ 9223372036854775807) (ht : PW w) :
    Calls Tryd.prog 4 #[.int .i64 m, .int .i64 a] w fun e w' => e = .returned (.bool true) ∧ Below w.heap.size w w' := by
  by_cases h : Pit (m % 7) a (m / 7)
  · exact ofLaw_yes m a w m0 m1 h ht
  · exact ofLaw_no m a w m0 m1 h ht
end Go.Proofs.YtolfgomlokpopaaDoor
