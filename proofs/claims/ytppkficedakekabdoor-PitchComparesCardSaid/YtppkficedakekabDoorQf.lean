/- The law PitchCompares. -/
import Derived.Test.YtppkficedakekabDoorQd
namespace Go.Proofs.YtppkficedakekabDoor
open Go.RowKit
set_option linter.unusedVariables false
set_option linter.unusedSimpArgs false

theorem cmpR_lex (s a o t b u : Int) : cmpR s a o t b u = (if rkN s a o < rkN t b u then -1 else if rkN t b u < rkN s a o then 1 else if rkD s a o < rkD t b u then -1 else if rkD t b u < rkD s a o then 1 else 0) := by
  unfold cmpR orF2 cmpI
  by_cases h1 : rkN s a o < rkN t b u
  · simp [h1]
  · by_cases h2 : rkN t b u < rkN s a o
    · simp [h1, h2]
    · simp [h1, h2]
theorem cmpR_bd (s a o t b u : Int) : -1 ≤ cmpR s a o t b u ∧ cmpR s a o t b u ≤ 1 := by
  rw [cmpR_lex]; (repeat' split) <;> omega
theorem cmpR_swap (s a o t b u : Int) : cmpR t b u s a o = - cmpR s a o t b u := by
  rw [cmpR_lex, cmpR_lex]; (repeat' split) <;> omega
theorem cmpR_trans (s a o t b u p c q : Int) (h1 : cmpR s a o t b u ≤ 0) (h2 : cmpR t b u p c q ≤ 0) : cmpR s a o p c q ≤ 0 := by
  rw [cmpR_lex] at *; (repeat' split at *) <;> (repeat' split) <;> omega
theorem cmpR_same {s a o t b u : Int} (hp : Pit s a o) (h : cmpR s a o t b u = 0) : s = t ∧ a = b ∧ o = u := by
  rw [cmpR_lex] at h
  have e : rkN s a o = rkN t b u ∧ rkD s a o = rkD t b u := by (repeat' split at h) <;> omega
  obtain ⟨e1, e2⟩ := e
  by_cases hq : Pit t b u
  · rw [(rk_yes hp).1, (rk_yes hq).1] at e1
    rw [(rk_yes hp).2, (rk_yes hq).2] at e2
    obtain ⟨s0, s1, a0, a1, o0, o1, n0, n1⟩ := hp
    obtain ⟨t0, t1, b0, b1, u0, u1, m0, m1⟩ := hq
    unfold diaP at e2
    have ho : o = u := by omega
    subst ho
    have hs : s = t := by omega
    subst hs
    unfold numP at e1
    exact ⟨rfl, by omega, rfl⟩
  · rw [(rk_yes hp).1, (rk_no hq).1] at e1
    have := hp.n0
    omega
/-- the reference's contract -/
def RefCmp : Prop := ∀ (s a o t b u : Int) (w : World), Calls Tryd.prog 19 #[.agg #[.int .i64 s, .int .i64 a, .int .i64 o], .agg #[.int .i64 t, .int .i64 b, .int .i64 u]] w fun e w' => e = .returned (.int .i64 (cmpR s a o t b u)) ∧ Below w.heap.size w w'
set_option maxRecDepth 100000 in
set_option maxHeartbeats 4000000 in
theorem law_cmp1 (KR : RefCmp) (s a o t b u p c q : Int) (w : World) (ht : PW w) (hm : cmpR s a o t b u ≠ 0) :
    Calls Tryd.prog 6 #[.agg #[.int .i64 s, .int .i64 a, .int .i64 o], .agg #[.int .i64 t, .int .i64 b, .int .i64 u], .agg #[.int .i64 p, .int .i64 c, .int .i64 q]] w fun e w' => e = .returned (.bool true) ∧ Below w.heap.size w w' := by
  have B0 := Lib.hid ((((Bel.refl w).alloc (.cells #[.int .i64 s, .int .i64 a, .int .i64 o] 29)).alloc (.cells #[.int .i64 t, .int .i64 b, .int .i64 u] 29)).alloc (.cells #[.int .i64 p, .int .i64 c, .int .i64 q] 29))
  have T0 := Lib.hid (((ht.below ((Below.refl _ _).alloc (Nat.le_refl _) (.cells #[.int .i64 s, .int .i64 a, .int .i64 o] 29))).below ((Below.refl _ _).alloc (Nat.le_refl _) (.cells #[.int .i64 t, .int .i64 b, .int .i64 u] 29))).below ((Below.refl _ _).alloc (Nat.le_refl _) (.cells #[.int .i64 p, .int .i64 c, .int .i64 q] 29)))
  have X0 := ((Tri.new w (.int .i64 s) (.int .i64 a) (.int .i64 o) 29 w.heap.size rfl).alloc (.cells #[.int .i64 t, .int .i64 b, .int .i64 u] 29)).alloc (.cells #[.int .i64 p, .int .i64 c, .int .i64 q] 29)
  have Y0 := (Tri.new (w.alloc (.cells #[.int .i64 s, .int .i64 a, .int .i64 o] 29)) (.int .i64 t) (.int .i64 b) (.int .i64 u) 29 (w.heap.size + 1) (by simp)).alloc (.cells #[.int .i64 p, .int .i64 c, .int .i64 q] 29)
  have Z0 := Tri.new ((w.alloc (.cells #[.int .i64 s, .int .i64 a, .int .i64 o] 29)).alloc (.cells #[.int .i64 t, .int .i64 b, .int .i64 u] 29)) (.int .i64 p) (.int .i64 c) (.int .i64 q) 29 (w.heap.size + 1 + 1) (by simp)
  have KR' := Lib.hid KR
  clear KR ht
  have b1 := cmpR_bd s a o t b u
  have b2 := cmpR_bd t b u p c q
  have b3 := cmpR_bd s a o p c q
  have htr := cmpR_trans s a o t b u p c q
  have hsw := Lib.hid (cmpR_swap s a o t b u)
  generalize hY : cmpR t b u p c q = Y at b2 htr
  generalize hZ : cmpR s a o p c q = Z at b3 htr
  generalize hX : cmpR s a o t b u = X at b1 htr hm
  replace hX := Lib.hid hX
  replace hY := Lib.hid hY
  replace hZ := Lib.hid hZ
  have H : 0 < X ∨ (X < 0 ∧ 0 < Y) ∨ (X < 0 ∧ Y ≤ 0 ∧ Z ≤ 0) := by omega
  clear htr
  go_enter Tryd.func6, Tryd.ntmps6
  go_wp2_with fail
  refine Qt.regionAll (by kernel_rfl) (by kernel_rfl) ?_
  intro T f F hne
  have HB := Lib.hid (fun g => B0.out.up (F.below g))
  have HT := Lib.hid (fun g => T0.out.below (F.below g))
  have HX := fun g => X0.up (F.below g)
  have HY := fun g => Y0.up (F.below g)
  have HZ := fun g => Z0.up (F.below g)
  have ax := fun g => (HX g).c0; have ay := fun g => (HX g).c1; have az := fun g => (HX g).c2
  have bx := fun g => (HY g).c0; have bY := fun g => (HY g).c1; have bz := fun g => (HY g).c2
  have cx := fun g => (HZ g).c0; have cy := fun g => (HZ g).c1; have cz := fun g => (HZ g).c2
  clear X0 Y0 Z0
  repeat (go_big_quiet_step (first | (go_at_call 18; exact F.call (compare_ok _ _ _ _ _ _ _ (HT.out _).t))))
  refine wpQuiet_nil ?_
  rintro _ ⟨g, rfl⟩
  have B1 := Lib.hid (HB.out g)
  have T1 := Lib.hid (HT.out g)
  have X0 := HX g
  have Y0 := HY g
  clear F HB HT hne HX HY HZ ax ay az bx bY bz cx cy cz B0 T0
  generalize f g = w1 at *
  clear f
  simp only [hX.out, hY.out, hZ.out]
  obtain ⟨x0, x1, x2, x3, x4, x5, x6⟩ := id X0
  obtain ⟨y0, y1, y2, y3, y4, y5, y6⟩ := id Y0
  go_wp2_with fail
  clear x0 x1 x2 x3 x4 x5 x6 y0 y1 y2 y3 y4 y5 y6
  refine (known_any _ T1.out).mono ?_
  rintro e w2 ⟨rfl, hb⟩
  have B2 := Lib.hid (B1.out.up hb)
  have T2 := Lib.hid (T1.out.below hb)
  replace X0 := X0.up hb
  replace Y0 := Y0.up hb
  clear B1 T1 hb
  obtain ⟨x0, x1, x2, x3, x4, x5, x6⟩ := id X0
  obtain ⟨y0, y1, y2, y3, y4, y5, y6⟩ := id Y0
  go_wp2_with fail
  clear x0 x1 x2 x3 x4 x5 x6 y0 y1 y2 y3 y4 y5 y6
  refine (KR'.out s a o t b u _).mono ?_
  rintro e w3 ⟨rfl, hb⟩
  rw [hX.out]
  have B3 := Lib.hid (B2.out.up hb)
  have T3 := Lib.hid (T2.out.below hb)
  replace X0 := X0.up hb
  replace Y0 := Y0.up hb
  clear B2 T2 hb
  obtain ⟨x0, x1, x2, x3, x4, x5, x6⟩ := id X0
  obtain ⟨y0, y1, y2, y3, y4, y5, y6⟩ := id Y0
  go_wp2_with fail
  clear x0 x1 x2 x3 x4 x5 x6 y0 y1 y2 y3 y4 y5 y6
  refine (compare_ok t b u s a o _ T3.out.t).mono ?_
  rintro e w4 ⟨rfl, hb⟩
  rw [hsw.out, hX.out]
  have B4 := Lib.hid (B3.out.up hb)
  have T4 := Lib.hid (T3.out.below hb)
  replace X0 := X0.up hb
  replace Y0 := Y0.up hb
  clear B3 T3 hb
  obtain ⟨x0, x1, x2, x3, x4, x5, x6⟩ := id X0
  obtain ⟨y0, y1, y2, y3, y4, y5, y6⟩ := id Y0
  rcases H with H | H | H
  all_goals
    go_wp2_with fail
    go_ret
    exact ⟨rfl, B4.out.out⟩
set_option maxRecDepth 100000 in
set_option maxHeartbeats 4000000 in
theorem law_cmp2 (KR : RefCmp) (s a o t b u p c q : Int) (w : World) (ht : PW w) (hm : cmpR s a o t b u = 0) (hp : ¬ Pit s a o) :
    Calls Tryd.prog 6 #[.agg #[.int .i64 s, .int .i64 a, .int .i64 o], .agg #[.int .i64 t, .int .i64 b, .int .i64 u], .agg #[.int .i64 p, .int .i64 c, .int .i64 q]] w fun e w' => e = .returned (.bool true) ∧ Below w.heap.size w w' := by
  have B0 := Lib.hid ((((Bel.refl w).alloc (.cells #[.int .i64 s, .int .i64 a, .int .i64 o] 29)).alloc (.cells #[.int .i64 t, .int .i64 b, .int .i64 u] 29)).alloc (.cells #[.int .i64 p, .int .i64 c, .int .i64 q] 29))
  have T0 := Lib.hid (((ht.below ((Below.refl _ _).alloc (Nat.le_refl _) (.cells #[.int .i64 s, .int .i64 a, .int .i64 o] 29))).below ((Below.refl _ _).alloc (Nat.le_refl _) (.cells #[.int .i64 t, .int .i64 b, .int .i64 u] 29))).below ((Below.refl _ _).alloc (Nat.le_refl _) (.cells #[.int .i64 p, .int .i64 c, .int .i64 q] 29)))
  have X0 := ((Tri.new w (.int .i64 s) (.int .i64 a) (.int .i64 o) 29 w.heap.size rfl).alloc (.cells #[.int .i64 t, .int .i64 b, .int .i64 u] 29)).alloc (.cells #[.int .i64 p, .int .i64 c, .int .i64 q] 29)
  have Y0 := (Tri.new (w.alloc (.cells #[.int .i64 s, .int .i64 a, .int .i64 o] 29)) (.int .i64 t) (.int .i64 b) (.int .i64 u) 29 (w.heap.size + 1) (by simp)).alloc (.cells #[.int .i64 p, .int .i64 c, .int .i64 q] 29)
  have Z0 := Tri.new ((w.alloc (.cells #[.int .i64 s, .int .i64 a, .int .i64 o] 29)).alloc (.cells #[.int .i64 t, .int .i64 b, .int .i64 u] 29)) (.int .i64 p) (.int .i64 c) (.int .i64 q) 29 (w.heap.size + 1 + 1) (by simp)
  have KR' := Lib.hid KR
  clear KR ht
  have b1 := cmpR_bd s a o t b u
  have b2 := cmpR_bd t b u p c q
  have b3 := cmpR_bd s a o p c q
  have htr := cmpR_trans s a o t b u p c q
  have hsw := Lib.hid (cmpR_swap s a o t b u)
  generalize hY : cmpR t b u p c q = Y at b2 htr
  generalize hZ : cmpR s a o p c q = Z at b3 htr
  generalize hX : cmpR s a o t b u = X at b1 htr hm
  replace hX := Lib.hid hX
  replace hY := Lib.hid hY
  replace hZ := Lib.hid hZ
  subst hm
  have H : 0 < Y ∨ (Y ≤ 0 ∧ Z ≤ 0) := by omega
  clear htr
  have HP := Lib.hid hp
  clear hp
  go_enter Tryd.func6, Tryd.ntmps6
  go_wp2_with fail
  refine Qt.regionAll (by kernel_rfl) (by kernel_rfl) ?_
  intro T f F hne
  have HB := Lib.hid (fun g => B0.out.up (F.below g))
  have HT := Lib.hid (fun g => T0.out.below (F.below g))
  have HX := fun g => X0.up (F.below g)
  have HY := fun g => Y0.up (F.below g)
  have HZ := fun g => Z0.up (F.below g)
  have ax := fun g => (HX g).c0; have ay := fun g => (HX g).c1; have az := fun g => (HX g).c2
  have bx := fun g => (HY g).c0; have bY := fun g => (HY g).c1; have bz := fun g => (HY g).c2
  have cx := fun g => (HZ g).c0; have cy := fun g => (HZ g).c1; have cz := fun g => (HZ g).c2
  clear X0 Y0 Z0
  repeat (go_big_quiet_step (first | (go_at_call 18; exact F.call (compare_ok _ _ _ _ _ _ _ (HT.out _).t))))
  refine wpQuiet_nil ?_
  rintro _ ⟨g, rfl⟩
  have B1 := Lib.hid (HB.out g)
  have T1 := Lib.hid (HT.out g)
  have X0 := HX g
  have Y0 := HY g
  clear F HB HT hne HX HY HZ ax ay az bx bY bz cx cy cz B0 T0
  generalize f g = w1 at *
  clear f
  simp only [hX.out, hY.out, hZ.out]
  obtain ⟨x0, x1, x2, x3, x4, x5, x6⟩ := id X0
  obtain ⟨y0, y1, y2, y3, y4, y5, y6⟩ := id Y0
  go_wp2_with fail
  clear x0 x1 x2 x3 x4 x5 x6 y0 y1 y2 y3 y4 y5 y6
  refine (known_any _ T1.out).mono ?_
  rintro e w2 ⟨rfl, hb⟩
  have B2 := Lib.hid (B1.out.up hb)
  have T2 := Lib.hid (T1.out.below hb)
  replace X0 := X0.up hb
  replace Y0 := Y0.up hb
  clear B1 T1 hb
  obtain ⟨x0, x1, x2, x3, x4, x5, x6⟩ := id X0
  obtain ⟨y0, y1, y2, y3, y4, y5, y6⟩ := id Y0
  go_wp2_with fail
  clear x0 x1 x2 x3 x4 x5 x6 y0 y1 y2 y3 y4 y5 y6
  refine (KR'.out s a o t b u _).mono ?_
  rintro e w3 ⟨rfl, hb⟩
  rw [hX.out]
  have B3 := Lib.hid (B2.out.up hb)
  have T3 := Lib.hid (T2.out.below hb)
  replace X0 := X0.up hb
  replace Y0 := Y0.up hb
  clear B2 T2 hb
  obtain ⟨x0, x1, x2, x3, x4, x5, x6⟩ := id X0
  obtain ⟨y0, y1, y2, y3, y4, y5, y6⟩ := id Y0
  go_wp2_with fail
  clear x0 x1 x2 x3 x4 x5 x6 y0 y1 y2 y3 y4 y5 y6
  refine (compare_ok t b u s a o _ T3.out.t).mono ?_
  rintro e w4 ⟨rfl, hb⟩
  rw [hsw.out, hX.out]
  have B4 := Lib.hid (B3.out.up hb)
  have T4 := Lib.hid (T3.out.below hb)
  replace X0 := X0.up hb
  replace Y0 := Y0.up hb
  clear B3 T3 hb
  obtain ⟨x0, x1, x2, x3, x4, x5, x6⟩ := id X0
  obtain ⟨y0, y1, y2, y3, y4, y5, y6⟩ := id Y0
  rcases H with H | H
  all_goals
    go_wp2_with fail
    clear x0 x1 x2 x3 x4 x5 x6 y0 y1 y2 y3 y4 y5 y6
    refine (exists_no s a o _ HP.out).mono ?_
    rintro e w5 ⟨rfl, hb⟩
    have B5 := Lib.hid (B4.out.up hb)
    go_wp2_with fail
    go_ret
    exact ⟨rfl, B5.out.out⟩
set_option maxRecDepth 100000 in
set_option maxHeartbeats 4000000 in
theorem law_cmp3 (KR : RefCmp) (s a o p c q : Int) (w : World) (ht : PW w) (hm : cmpR s a o s a o = 0) (hp : Pit s a o) :
    Calls Tryd.prog 6 #[.agg #[.int .i64 s, .int .i64 a, .int .i64 o], .agg #[.int .i64 s, .int .i64 a, .int .i64 o], .agg #[.int .i64 p, .int .i64 c, .int .i64 q]] w fun e w' => e = .returned (.bool true) ∧ Below w.heap.size w w' := by
  have B0 := Lib.hid ((((Bel.refl w).alloc (.cells #[.int .i64 s, .int .i64 a, .int .i64 o] 29)).alloc (.cells #[.int .i64 s, .int .i64 a, .int .i64 o] 29)).alloc (.cells #[.int .i64 p, .int .i64 c, .int .i64 q] 29))
  have T0 := Lib.hid (((ht.below ((Below.refl _ _).alloc (Nat.le_refl _) (.cells #[.int .i64 s, .int .i64 a, .int .i64 o] 29))).below ((Below.refl _ _).alloc (Nat.le_refl _) (.cells #[.int .i64 s, .int .i64 a, .int .i64 o] 29))).below ((Below.refl _ _).alloc (Nat.le_refl _) (.cells #[.int .i64 p, .int .i64 c, .int .i64 q] 29)))
  have X0 := ((Tri.new w (.int .i64 s) (.int .i64 a) (.int .i64 o) 29 w.heap.size rfl).alloc (.cells #[.int .i64 s, .int .i64 a, .int .i64 o] 29)).alloc (.cells #[.int .i64 p, .int .i64 c, .int .i64 q] 29)
  have Y0 := (Tri.new (w.alloc (.cells #[.int .i64 s, .int .i64 a, .int .i64 o] 29)) (.int .i64 s) (.int .i64 a) (.int .i64 o) 29 (w.heap.size + 1) (by simp)).alloc (.cells #[.int .i64 p, .int .i64 c, .int .i64 q] 29)
  have Z0 := Tri.new ((w.alloc (.cells #[.int .i64 s, .int .i64 a, .int .i64 o] 29)).alloc (.cells #[.int .i64 s, .int .i64 a, .int .i64 o] 29)) (.int .i64 p) (.int .i64 c) (.int .i64 q) 29 (w.heap.size + 1 + 1) (by simp)
  have KR' := Lib.hid KR
  clear KR ht
  have b1 := cmpR_bd s a o s a o
  have b2 := cmpR_bd s a o p c q
  have htr := cmpR_trans s a o s a o p c q
  have hsw := Lib.hid (cmpR_swap s a o s a o)
  generalize hY : cmpR s a o p c q = Y at b2 htr
  generalize hX : cmpR s a o s a o = X at b1 htr hm
  replace hX := Lib.hid hX
  replace hY := Lib.hid hY
  subst hm
  have H : 0 < Y ∨ (Y ≤ 0 ∧ Y ≤ 0) := by omega
  clear htr
  have HP := Lib.hid hp
  clear hp
  go_enter Tryd.func6, Tryd.ntmps6
  go_wp2_with fail
  refine Qt.regionAll (by kernel_rfl) (by kernel_rfl) ?_
  intro T f F hne
  have HB := Lib.hid (fun g => B0.out.up (F.below g))
  have HT := Lib.hid (fun g => T0.out.below (F.below g))
  have HX := fun g => X0.up (F.below g)
  have HY := fun g => Y0.up (F.below g)
  have HZ := fun g => Z0.up (F.below g)
  have ax := fun g => (HX g).c0; have ay := fun g => (HX g).c1; have az := fun g => (HX g).c2
  have bx := fun g => (HY g).c0; have bY := fun g => (HY g).c1; have bz := fun g => (HY g).c2
  have cx := fun g => (HZ g).c0; have cy := fun g => (HZ g).c1; have cz := fun g => (HZ g).c2
  clear X0 Y0 Z0
  repeat (go_big_quiet_step (first | (go_at_call 18; exact F.call (compare_ok _ _ _ _ _ _ _ (HT.out _).t))))
  refine wpQuiet_nil ?_
  rintro _ ⟨g, rfl⟩
  have B1 := Lib.hid (HB.out g)
  have T1 := Lib.hid (HT.out g)
  have X0 := HX g
  have Y0 := HY g
  clear F HB HT hne HX HY HZ ax ay az bx bY bz cx cy cz B0 T0
  generalize f g = w1 at *
  clear f
  simp only [hX.out, hY.out]
  obtain ⟨x0, x1, x2, x3, x4, x5, x6⟩ := id X0
  obtain ⟨y0, y1, y2, y3, y4, y5, y6⟩ := id Y0
  go_wp2_with fail
  clear x0 x1 x2 x3 x4 x5 x6 y0 y1 y2 y3 y4 y5 y6
  refine (known_any _ T1.out).mono ?_
  rintro e w2 ⟨rfl, hb⟩
  have B2 := Lib.hid (B1.out.up hb)
  have T2 := Lib.hid (T1.out.below hb)
  replace X0 := X0.up hb
  replace Y0 := Y0.up hb
  clear B1 T1 hb
  obtain ⟨x0, x1, x2, x3, x4, x5, x6⟩ := id X0
  obtain ⟨y0, y1, y2, y3, y4, y5, y6⟩ := id Y0
  go_wp2_with fail
  clear x0 x1 x2 x3 x4 x5 x6 y0 y1 y2 y3 y4 y5 y6
  refine (KR'.out s a o s a o _).mono ?_
  rintro e w3 ⟨rfl, hb⟩
  rw [hX.out]
  have B3 := Lib.hid (B2.out.up hb)
  have T3 := Lib.hid (T2.out.below hb)
  replace X0 := X0.up hb
  replace Y0 := Y0.up hb
  clear B2 T2 hb
  obtain ⟨x0, x1, x2, x3, x4, x5, x6⟩ := id X0
  obtain ⟨y0, y1, y2, y3, y4, y5, y6⟩ := id Y0
  go_wp2_with fail
  clear x0 x1 x2 x3 x4 x5 x6 y0 y1 y2 y3 y4 y5 y6
  refine (compare_ok s a o s a o _ T3.out.t).mono ?_
  rintro e w4 ⟨rfl, hb⟩
  rw [hsw.out, hX.out]
  have B4 := Lib.hid (B3.out.up hb)
  have T4 := Lib.hid (T3.out.below hb)
  replace X0 := X0.up hb
  replace Y0 := Y0.up hb
  clear B3 T3 hb
  obtain ⟨x0, x1, x2, x3, x4, x5, x6⟩ := id X0
  obtain ⟨y0, y1, y2, y3, y4, y5, y6⟩ := id Y0
  rcases H with H | H
  all_goals
    go_wp2_with fail
    clear x0 x1 x2 x3 x4 x5 x6 y0 y1 y2 y3 y4 y5 y6
    refine (exists_yes s a o _ HP.out).mono ?_
    rintro e w5 ⟨rfl, hb⟩
    have B5 := Lib.hid (B4.out.up hb)
    replace X0 := X0.up hb
    replace Y0 := Y0.up hb
    obtain ⟨x0, x1, x2, x3, x4, x5, x6⟩ := id X0
    obtain ⟨y0, y1, y2, y3, y4, y5, y6⟩ := id Y0
    go_wp2_with fail
    go_ret
    exact ⟨rfl, B5.out.out⟩
theorem law_cmp (KR : RefCmp) (s a o t b u p c q : Int) (w : World) (ht : PW w) :
    Calls Tryd.prog 6 #[.agg #[.int .i64 s, .int .i64 a, .int .i64 o], .agg #[.int .i64 t, .int .i64 b, .int .i64 u], .agg #[.int .i64 p, .int .i64 c, .int .i64 q]] w fun e w' => e = .returned (.bool true) ∧ Below w.heap.size w w' := by
  by_cases hm : cmpR s a o t b u = 0
  · by_cases hp : Pit s a o
    · obtain ⟨rfl, rfl, rfl⟩ := cmpR_same hp hm
      exact law_cmp3 KR s a o p c q w ht hm hp
    · exact law_cmp2 KR s a o t b u p c q w ht hm hp
  · exact law_cmp1 KR s a o t b u p c q w ht hm
end Go.Proofs.YtppkficedakekabDoor
