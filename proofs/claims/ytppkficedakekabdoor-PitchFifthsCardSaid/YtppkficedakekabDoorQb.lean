/- The law PitchFifths. -/
import Derived.Test.YtppkficedakekabDoorQa
namespace Go.Proofs.YtppkficedakekabDoor
open Go.RowKit
set_option linter.unusedVariables false
set_option linter.unusedSimpArgs false

set_option maxRecDepth 100000 in
set_option maxHeartbeats 2000000 in
theorem fifths_no (s a o t b u : Int) (w : World) (h : ¬ (Pit s a o ∧ Pit t b u)) (ht : PW w) :
    Calls Tryd.prog 9 #[.agg #[.int .i64 s, .int .i64 a, .int .i64 o], .agg #[.int .i64 t, .int .i64 b, .int .i64 u]] w fun e w' => e = .returned (.bool true) ∧ Below w.heap.size w w' := by
  have B0 := Lib.hid (((Bel.refl w).alloc (.cells #[.int .i64 s, .int .i64 a, .int .i64 o] 29)).alloc (.cells #[.int .i64 t, .int .i64 b, .int .i64 u] 29))
  have T0 := Lib.hid ((ht.below ((Below.refl _ _).alloc (Nat.le_refl _) (.cells #[.int .i64 s, .int .i64 a, .int .i64 o] 29))).below ((Below.refl _ _).alloc (Nat.le_refl _) (.cells #[.int .i64 t, .int .i64 b, .int .i64 u] 29)))
  have X0 := ((Tri.new w (.int .i64 s) (.int .i64 a) (.int .i64 o) 29 w.heap.size rfl).alloc (.cells #[.int .i64 t, .int .i64 b, .int .i64 u] 29))
  have Y0 := Tri.new (w.alloc (.cells #[.int .i64 s, .int .i64 a, .int .i64 o] 29)) (.int .i64 t) (.int .i64 b) (.int .i64 u) 29 (w.heap.size + 1) (by simp)
  clear ht
  by_cases hp : Pit s a o
  · have hq : ¬ Pit t b u := fun k => h ⟨hp, k⟩
    clear h
    have HP := Lib.hid hp
    have HQ := Lib.hid hq
    clear hp hq
    go_enter Tryd.func9, Tryd.ntmps9
    go_wp2_with fail
    refine (exists_yes s a o _ HP.out).mono ?_
    rintro e w1 ⟨rfl, hb⟩
    have B1 := Lib.hid (B0.out.up hb)
    have T1 := Lib.hid (T0.out.below hb)
    have Y1 := Y0.up hb
    clear B0 T0 hb X0 Y0
    obtain ⟨y0, y1, y2, y3, y4, y5, y6⟩ := id Y1
    go_wp2_with fail
    refine (exists_no t b u _ HQ.out).mono ?_
    rintro e w2 ⟨rfl, hb⟩
    have B2 := Lib.hid (B1.out.up hb)
    have T2 := Lib.hid (T1.out.below hb)
    clear B1 T1 hb Y1
    go_wp2_with fail
    refine (known_any _ T2.out).mono ?_
    rintro e w3 ⟨rfl, hb⟩
    have B3 := Lib.hid (B2.out.up hb)
    go_wp2_with fail
    go_ret
    exact ⟨rfl, B3.out.out⟩
  · clear h
    have HP := Lib.hid hp
    clear hp
    go_enter Tryd.func9, Tryd.ntmps9
    go_wp2_with fail
    refine (exists_no s a o _ HP.out).mono ?_
    rintro e w1 ⟨rfl, hb⟩
    have B1 := Lib.hid (B0.out.up hb)
    have T1 := Lib.hid (T0.out.below hb)
    clear B0 T0 hb X0 Y0
    go_wp2_with fail
    refine (known_any _ T1.out).mono ?_
    rintro e w3 ⟨rfl, hb⟩
    have B3 := Lib.hid (B1.out.up hb)
    go_wp2_with fail
    go_ret
    exact ⟨rfl, B3.out.out⟩
theorem ret_bool {a b : Bool} (h : a = b) : Ending.returned (.bool a) = .returned (.bool b) := by rw [h]
/-- what the law says of two pitches -/
theorem fif_arith {s a o t b u : Int} (hp : Pit s a o) (hq : Pit t b u) : ∃ k : Int, 7 * (fifI s + 7 * a - (fifI t + 7 * b)) - (numP s a o - numP t b u) = 12 * k := by
  obtain ⟨s0, s1, -⟩ := hp
  obtain ⟨t0, t1, -⟩ := hq
  have hs : ∃ k : Int, 7 * fifI s - stepI s = 12 * k := by
    rcases step_cases s0 s1 with rfl | rfl | rfl | rfl | rfl | rfl | rfl
    · exact ⟨0, by decide⟩
    · exact ⟨1, by decide⟩
    · exact ⟨2, by decide⟩
    · exact ⟨-1, by decide⟩
    · exact ⟨0, by decide⟩
    · exact ⟨1, by decide⟩
    · exact ⟨2, by decide⟩
  have ht : ∃ k : Int, 7 * fifI t - stepI t = 12 * k := by
    rcases step_cases t0 t1 with rfl | rfl | rfl | rfl | rfl | rfl | rfl
    · exact ⟨0, by decide⟩
    · exact ⟨1, by decide⟩
    · exact ⟨2, by decide⟩
    · exact ⟨-1, by decide⟩
    · exact ⟨0, by decide⟩
    · exact ⟨1, by decide⟩
    · exact ⟨2, by decide⟩
  obtain ⟨k, hk⟩ := hs
  obtain ⟨l, hl⟩ := ht
  refine ⟨k - l + 4 * (a - b) - (o - u), ?_⟩
  unfold numP
  omega
theorem fif_bd {s a : Int} (s0 : 0 ≤ s) (s1 : s ≤ 6) (a0 : -2 ≤ a) (a1 : a ≤ 2) : -15 ≤ fifI s + 7 * a ∧ fifI s + 7 * a ≤ 19 := by
  rcases step_cases s0 s1 with rfl | rfl | rfl | rfl | rfl | rfl | rfl <;> simp [fifI] <;> omega
theorem fif_form {s : Int} (s0 : 0 ≤ s) (s1 : s ≤ 6) : fifI s = 2 * s ∧ s ≤ 2 ∨ fifI s = 2 * s - 7 ∧ 3 ≤ s := by
  rcases step_cases s0 s1 with rfl | rfl | rfl | rfl | rfl | rfl | rfl <;> simp [fifI]
theorem fif_inj {s a o t b u : Int} (hp : Pit s a o) (hq : Pit t b u) (h1 : numP s a o = numP t b u) (h2 : fifI s + 7 * a = fifI t + 7 * b) : s = t ∧ a = b ∧ o = u := by
  obtain ⟨s0, s1, a0, a1, -⟩ := hp
  obtain ⟨t0, t1, b0, b1, -⟩ := hq
  have hst : s = t := by
    rcases fif_form s0 s1 with ⟨e, l⟩ | ⟨e, l⟩ <;> rcases fif_form t0 t1 with ⟨f, m⟩ | ⟨f, m⟩ <;> rw [e, f] at h2 <;> omega
  subst hst
  have hab : a = b := by omega
  subst hab
  unfold numP at h1
  exact ⟨rfl, rfl, by omega⟩
set_option maxRecDepth 100000 in
set_option maxHeartbeats 2000000 in
theorem fifths_yes (s a o t b u : Int) (w : World) (hp : Pit s a o) (hq : Pit t b u) (ht : PW w) (hl : PL w) :
    Calls Tryd.prog 9 #[.agg #[.int .i64 s, .int .i64 a, .int .i64 o], .agg #[.int .i64 t, .int .i64 b, .int .i64 u]] w fun e w' => e = .returned (.bool true) ∧ Below w.heap.size w w' := by
  have B0 := Lib.hid (((Bel.refl w).alloc (.cells #[.int .i64 s, .int .i64 a, .int .i64 o] 29)).alloc (.cells #[.int .i64 t, .int .i64 b, .int .i64 u] 29))
  have T0 := Lib.hid ((ht.below ((Below.refl _ _).alloc (Nat.le_refl _) (.cells #[.int .i64 s, .int .i64 a, .int .i64 o] 29))).below ((Below.refl _ _).alloc (Nat.le_refl _) (.cells #[.int .i64 t, .int .i64 b, .int .i64 u] 29)))
  have L0 := Lib.hid ((hl.alloc (.cells #[.int .i64 s, .int .i64 a, .int .i64 o] 29)).alloc (.cells #[.int .i64 t, .int .i64 b, .int .i64 u] 29))
  have X0 := ((Tri.new w (.int .i64 s) (.int .i64 a) (.int .i64 o) 29 w.heap.size rfl).alloc (.cells #[.int .i64 t, .int .i64 b, .int .i64 u] 29))
  have Y0 := Tri.new (w.alloc (.cells #[.int .i64 s, .int .i64 a, .int .i64 o] 29)) (.int .i64 t) (.int .i64 b) (.int .i64 u) 29 (w.heap.size + 1) (by simp)
  have HP := Lib.hid hp
  have HQ := Lib.hid hq
  clear ht hl hp hq
  go_enter Tryd.func9, Tryd.ntmps9
  go_wp2_with fail
  refine (exists_yes s a o _ HP.out).mono ?_
  rintro e w1 ⟨rfl, hb⟩
  have B1 := Lib.hid (B0.out.up hb)
  have T1 := Lib.hid (T0.out.below hb)
  have L1 := Lib.hid (L0.out.below hb)
  replace X0 := X0.up hb
  replace Y0 := Y0.up hb
  clear B0 T0 L0 hb
  obtain ⟨x0, x1, x2, x3, x4, x5, x6⟩ := id X0
  obtain ⟨y0, y1, y2, y3, y4, y5, y6⟩ := id Y0
  go_wp2_with fail
  clear x0 x1 x2 x3 x4 x5 x6 y0 y1 y2 y3 y4 y5 y6
  refine (exists_yes t b u _ HQ.out).mono ?_
  rintro e w2 ⟨rfl, hb⟩
  have B2 := Lib.hid (B1.out.up hb)
  have T2 := Lib.hid (T1.out.below hb)
  have L2 := Lib.hid (L1.out.below hb)
  replace X0 := X0.up hb
  replace Y0 := Y0.up hb
  clear B1 T1 L1 hb
  obtain ⟨x0, x1, x2, x3, x4, x5, x6⟩ := id X0
  obtain ⟨y0, y1, y2, y3, y4, y5, y6⟩ := id Y0
  go_wp2_with fail
  clear x0 x1 x2 x3 x4 x5 x6 y0 y1 y2 y3 y4 y5 y6
  refine (number2_ok s a o _ HP.out T2.out.t).mono ?_
  rintro e w3 ⟨rfl, hb⟩
  have B3 := Lib.hid (B2.out.up hb)
  have T3 := Lib.hid (T2.out.below hb)
  have L3 := Lib.hid (L2.out.below hb)
  replace X0 := X0.up hb
  replace Y0 := Y0.up hb
  clear B2 T2 L2 hb
  obtain ⟨x0, x1, x2, x3, x4, x5, x6⟩ := id X0
  obtain ⟨y0, y1, y2, y3, y4, y5, y6⟩ := id Y0
  go_wp2_with fail
  clear x0 x1 x2 x3 x4 x5 x6 y0 y1 y2 y3 y4 y5 y6
  refine (number2_ok t b u _ HQ.out T3.out.t).mono ?_
  rintro e w4 ⟨rfl, hb⟩
  have B4 := Lib.hid (B3.out.up hb)
  have T4 := Lib.hid (T3.out.below hb)
  have L4 := Lib.hid (L3.out.below hb)
  replace X0 := X0.up hb
  replace Y0 := Y0.up hb
  clear B3 T3 L3 hb
  obtain ⟨x0, x1, x2, x3, x4, x5, x6⟩ := id X0
  obtain ⟨y0, y1, y2, y3, y4, y5, y6⟩ := id Y0
  go_wp2_with fail
  clear x0 x1 x2 x3 x4 x5 x6 y0 y1 y2 y3 y4 y5 y6
  refine (fifths_ok s a o _ HP.out T4.out.t L4.out).mono ?_
  rintro e w5 ⟨rfl, hb⟩
  have B5 := Lib.hid (B4.out.up hb)
  have T5 := Lib.hid (T4.out.below hb)
  have L5 := Lib.hid (L4.out.below hb)
  replace X0 := X0.up hb
  replace Y0 := Y0.up hb
  clear B4 T4 L4 hb
  obtain ⟨x0, x1, x2, x3, x4, x5, x6⟩ := id X0
  obtain ⟨y0, y1, y2, y3, y4, y5, y6⟩ := id Y0
  go_wp2_with fail
  clear x0 x1 x2 x3 x4 x5 x6 y0 y1 y2 y3 y4 y5 y6
  refine (fifths_ok t b u _ HQ.out T5.out.t L5.out).mono ?_
  rintro e w6 ⟨rfl, hb⟩
  have B6 := Lib.hid (B5.out.up hb)
  have T6 := Lib.hid (T5.out.below hb)
  have L6 := Lib.hid (L5.out.below hb)
  replace X0 := X0.up hb
  replace Y0 := Y0.up hb
  clear B5 T5 L5 hb
  obtain ⟨x0, x1, x2, x3, x4, x5, x6⟩ := id X0
  obtain ⟨y0, y1, y2, y3, y4, y5, y6⟩ := id Y0
  go_wp2_with fail
  clear x0 x1 x2 x3 x4 x5 x6 y0 y1 y2 y3 y4 y5 y6
  refine (known_any _ T6.out).mono ?_
  rintro e w7 ⟨rfl, hb⟩
  have B7 := Lib.hid (B6.out.up hb)
  replace X0 := X0.up hb
  replace Y0 := Y0.up hb
  clear B6 T6 L6 hb
  obtain ⟨x0, x1, x2, x3, x4, x5, x6⟩ := id X0
  obtain ⟨y0, y1, y2, y3, y4, y5, y6⟩ := id Y0
  obtain ⟨k, hk⟩ := fif_arith HP.out HQ.out
  have hin := fif_inj HP.out HQ.out
  have c1 := fif_bd HP.out.s0 HP.out.s1 HP.out.a0 HP.out.a1
  have c2 := fif_bd HQ.out.s0 HQ.out.s1 HQ.out.a0 HQ.out.a1
  have n1 := HP.out.n0; have n2 := HP.out.n1; have m1 := HQ.out.n0; have m2 := HQ.out.n1
  have hcd : s = t → a = b → fifI s + 7 * a = fifI t + 7 * b := fun e f => by rw [e, f]
  have hnm : s = t → a = b → o = u → numP s a o = numP t b u := fun e f g => by rw [e, f, g]
  generalize fifI s + 7 * a = C at *
  generalize fifI t + 7 * b = D at *
  generalize hN : numP s a o = N at *
  generalize hM : numP t b u = M at *
  clear hN hM
  have z1 : (7 * (C - D) - (N - M)).tmod 12 = 0 := by rw [hk]; simp
  have z2 : N = M → (C - D).tmod 12 = 0 := fun e => by
    obtain ⟨j, hj⟩ : ∃ j, C - D = 12 * j := ⟨7 * k - 4 * (C - D), by omega⟩
    rw [hj]; simp
  have z3 : N = M → (7 * (C - D)).tmod 12 = 0 := fun e => by
    have : 7 * (C - D) = 12 * k := by omega
    rw [this]; simp
  go_wp2_with fail
  all_goals
    go_ret
    refine ⟨ret_bool ?_, B7.out.out⟩
    first
      | rfl
      | (simp only [Bool.not_eq_true', beq_eq_false_iff_ne, beq_iff_eq, decide_eq_true_eq, ne_eq]; omega)
      | (simp [go_sem]; done)
      | (simp [go_sem]; omega)
theorem law_PitchFifths (s a o t b u : Int) (w : World) (ht : PW w) (hl : PL w) :
    Calls Tryd.prog 9 #[.agg #[.int .i64 s, .int .i64 a, .int .i64 o], .agg #[.int .i64 t, .int .i64 b, .int .i64 u]] w fun e w' => e = .returned (.bool true) ∧ Below w.heap.size w w' := by
  by_cases h : Pit s a o ∧ Pit t b u
  · exact fifths_yes s a o t b u w h.1 h.2 ht hl
  · exact fifths_no s a o t b u w h ht
end Go.Proofs.YtppkficedakekabDoor
