/- The law PitchNumbers. -/
import Derived.Test.YtolfgomlokpopaaDoorQa
import Derived.Test.YtolfgomlokpopaaDoorPk
namespace Go.Proofs.YtolfgomlokpopaaDoor
open Go.RowKit
set_option linter.unusedVariables false
set_option linter.unusedSimpArgs false

set_option maxRecDepth 100000 in
set_option maxHeartbeats 1000000 in
theorem number2_bad (s a o : Int) (w : World) (h : ¬ Pit s a o) (ht : PT w) :
    Calls Tryd.prog 10 #[.agg #[.int .i64 s, .int .i64 a, .int .i64 o]] w fun e w' => e = .returned (.tuple #[.int .i64 0, .int .i64 18]) ∧ Below w.heap.size w w' := by
  have HP := Lib.hid h
  have HT := Lib.hid (ht.alloc (.cells #[.int .i64 s, .int .i64 a, .int .i64 o] 23))
  have B0 := Lib.hid ((Bel.refl w).alloc (.cells #[.int .i64 s, .int .i64 a, .int .i64 o] 23))
  clear ht h
  go_enter Tryd.func10, Tryd.ntmps10
  go_wp2_with fail
  refine (check_bad s a o _ HP.out HT.out).mono ?_
  rintro e w1 ⟨rfl, hb⟩
  have B1 := Lib.hid (B0.out.up hb)
  go_wp2_with fail
  go_ret2
  exact ⟨rfl, B1.out.out⟩
set_option maxRecDepth 100000 in
set_option maxHeartbeats 1000000 in
theorem dia2_bad (s a o : Int) (w : World) (h : ¬ Pit s a o) (ht : PT w) :
    Calls Tryd.prog 11 #[.agg #[.int .i64 s, .int .i64 a, .int .i64 o]] w fun e w' => e = .returned (.tuple #[.int .i64 0, .int .i64 18]) ∧ Below w.heap.size w w' := by
  have HP := Lib.hid h
  have HT := Lib.hid (ht.alloc (.cells #[.int .i64 s, .int .i64 a, .int .i64 o] 23))
  have B0 := Lib.hid ((Bel.refl w).alloc (.cells #[.int .i64 s, .int .i64 a, .int .i64 o] 23))
  clear ht h
  go_enter Tryd.func11, Tryd.ntmps11
  go_wp2_with fail
  refine (check_bad s a o _ HP.out HT.out).mono ?_
  rintro e w1 ⟨rfl, hb⟩
  have B1 := Lib.hid (B0.out.up hb)
  go_wp2_with fail
  go_ret2
  exact ⟨rfl, B1.out.out⟩
set_option maxRecDepth 100000 in
set_option maxHeartbeats 1000000 in
theorem dia2_ok (s a o : Int) (w : World) (h : Pit s a o) (ht : PT w) :
    Calls Tryd.prog 11 #[.agg #[.int .i64 s, .int .i64 a, .int .i64 o]] w fun e w' => e = .returned (.tuple #[.int .i64 (diaP s o), .int .i64 0]) ∧ Below w.heap.size w w' := by
  have HP := Lib.hid h
  have h0 := h.s0; have h1 := h.s1; have h4 := h.o0; have h5 := h.o1
  have HT := Lib.hid (ht.alloc (.cells #[.int .i64 s, .int .i64 a, .int .i64 o] 23))
  have B0 := Lib.hid ((Bel.refl w).alloc (.cells #[.int .i64 s, .int .i64 a, .int .i64 o] 23))
  have X0 := Tri.new w (.int .i64 s) (.int .i64 a) (.int .i64 o) 23 w.heap.size rfl
  clear ht h
  go_enter Tryd.func11, Tryd.ntmps11
  go_wp2_with fail
  refine (check_ok s a o _ HP.out HT.out).mono ?_
  rintro e w1 ⟨rfl, hb⟩
  have B1 := Lib.hid (B0.out.up hb)
  have X1 := X0.up hb
  clear hb X0 B0
  obtain ⟨x0, x1, x2, x3, x4, x5, x6⟩ := id X1
  go_wp2_with fail
  refine (diatonic_any s a o _ h0 h1 h4 h5).mono ?_
  rintro e w2 ⟨rfl, hb⟩
  have B2 := Lib.hid (B1.out.up hb)
  go_wp2_with fail
  go_ret2
  exact ⟨rfl, B2.out.out⟩
set_option maxRecDepth 100000 in
set_option maxHeartbeats 1000000 in
theorem fifths_bad (s a o : Int) (w : World) (h : ¬ Pit s a o) (ht : PT w) :
    Calls Tryd.prog 12 #[.agg #[.int .i64 s, .int .i64 a, .int .i64 o]] w fun e w' => e = .returned (.tuple #[.int .i64 0, .int .i64 18]) ∧ Below w.heap.size w w' := by
  have HP := Lib.hid h
  have HT := Lib.hid (ht.alloc (.cells #[.int .i64 s, .int .i64 a, .int .i64 o] 23))
  have B0 := Lib.hid ((Bel.refl w).alloc (.cells #[.int .i64 s, .int .i64 a, .int .i64 o] 23))
  clear ht h
  go_enter Tryd.func12, Tryd.ntmps12
  go_wp2_with fail
  refine (check_bad s a o _ HP.out HT.out).mono ?_
  rintro e w1 ⟨rfl, hb⟩
  have B1 := Lib.hid (B0.out.up hb)
  go_wp2_with fail
  go_ret2
  exact ⟨rfl, B1.out.out⟩
set_option maxRecDepth 100000 in
set_option maxHeartbeats 1000000 in
theorem refDia2 (s a o : Int) (w : World) (s0 : 0 ≤ s) (s1 : s ≤ 6) (o0 : -1 ≤ o) (o1 : o ≤ 9) :
    Calls Tryd.prog 17 #[.agg #[.int .i64 s, .int .i64 a, .int .i64 o]] w fun e w' => e = .returned (.int .i64 (diaP s o)) ∧ Below w.heap.size w w' := by
  unfold diaP
  go_enter Tryd.func17, Tryd.ntmps17
  go_wp2
  try go_quiet (fail)
  go_wp2
  go_ret
  first
    | exact ⟨rfl, (Below.refl _ _).alloc (Nat.le_refl _) _⟩
    | exact ⟨rfl, below_drewN ((Below.refl _ _).alloc (Nat.le_refl _) _) _⟩
theorem fifTab (w : World) (n : Nat) (hn : n = w.heap.size) {s : Int} (s0 : 0 ≤ s) (s1 : s ≤ 6) : (w.alloc (.cells #[.int .i64 0, .int .i64 2, .int .i64 4, .int .i64 (-1), .int .i64 1, .int .i64 3, .int .i64 5] 3)).cell? ⟨n, s.toNat, none⟩ = some (.int .i64 (fifI s)) := by
  subst hn
  rcases step_cases s0 s1 with rfl | rfl | rfl | rfl | rfl | rfl | rfl <;> simp [fifI]
theorem fif_bd' {s : Int} (s0 : 0 ≤ s) (s1 : s ≤ 6) : -1 ≤ fifI s ∧ fifI s ≤ 5 := by
  rcases step_cases s0 s1 with rfl | rfl | rfl | rfl | rfl | rfl | rfl <;> decide
set_option maxRecDepth 100000 in
set_option maxHeartbeats 1000000 in
theorem refFif_any (s a o : Int) (w : World) (s0 : 0 ≤ s) (s1 : s ≤ 6) (a0 : -2 ≤ a) (a1 : a ≤ 2) :
    Calls Tryd.prog 18 #[.agg #[.int .i64 s, .int .i64 a, .int .i64 o]] w fun e w' => e = .returned (.int .i64 (fifI s + 7 * a)) ∧ Below w.heap.size w w' := by
  have X0 := Tri.new w (.int .i64 s) (.int .i64 a) (.int .i64 o) 23 w.heap.size rfl
  have X1 := X0.alloc (.cells #[.int .i64 0, .int .i64 2, .int .i64 4, .int .i64 (-1), .int .i64 1, .int .i64 3, .int .i64 5] 3)
  have B1 := Lib.hid (((Bel.refl w).alloc (.cells #[.int .i64 s, .int .i64 a, .int .i64 o] 23)).alloc (.cells #[.int .i64 0, .int .i64 2, .int .i64 4, .int .i64 (-1), .int .i64 1, .int .i64 3, .int .i64 5] 3))
  have T := fifTab (w.alloc (.cells #[.int .i64 s, .int .i64 a, .int .i64 o] 23)) (w.heap.size + 1) (by simp) s0 s1
  obtain ⟨x0, x1, x2, x3, x4, x5, x6⟩ := id X0
  obtain ⟨y0, y1, y2, y3, y4, y5, y6⟩ := id X1
  have f1 := fif_bd' s0 s1
  generalize fifI s = F at *
  have e1 : IntKind.i64.wrap (7 * a) = 7 * a := (IntWalk.i64_left _).trans (IntWalk.wrap64_in _ ⟨by omega, by omega⟩)
  have e2 : IntKind.i64.wrap (F + 7 * a) = F + 7 * a := (IntWalk.i64_left _).trans (IntWalk.wrap64_in _ ⟨by omega, by omega⟩)
  go_enter Tryd.func18, Tryd.ntmps18
  go_wp2_with fail
  go_region_with (fail)
  all_goals
    go_wp2_with fail
  all_goals
    go_ret
    exact ⟨by first | rfl | (simp [go_sem, e1, e2]; done), by first | exact B1.out.out | exact below_drewN B1.out.out _ | exact Below.drew B1.out.out⟩
/-- what a law of one pitch keeps -/
structure Sn (w W : World) (s a o : Int) : Prop where
  bel : Bel w W
  t : PW W
  l : PL W
  x : Tri W w.heap.size (.int .i64 s) (.int .i64 a) (.int .i64 o)
theorem Sn.up {w W W' : World} {s a o : Int} (h : Sn w W s a o) (hb : Below W.heap.size W W') : Sn w W' s a o := ⟨h.bel.up hb, h.t.below hb, h.l.below hb, h.x.up hb⟩
theorem Sn.new {w : World} (s a o : Int) (ht : PW w) (hl : PL w) : Sn w (w.alloc (.cells #[.int .i64 s, .int .i64 a, .int .i64 o] 23)) s a o :=
  ⟨(Bel.refl w).alloc _, ht.below ((Below.refl _ _).alloc (Nat.le_refl _) _), hl.alloc _, Tri.new w _ _ _ _ _ rfl⟩
set_option maxRecDepth 100000 in
set_option maxHeartbeats 2000000 in
theorem numbers_no (s a o : Int) (w : World) (h : ¬ Pit s a o) (ht : PW w) (hl : PL w) :
    Calls Tryd.prog 3 #[.agg #[.int .i64 s, .int .i64 a, .int .i64 o]] w fun e w' => e = .returned (.bool true) ∧ Below w.heap.size w w' := by
  have H0 := Lib.hid (Sn.new s a o ht hl)
  have HP := Lib.hid h
  clear ht hl h
  obtain ⟨x0, x1, x2, x3, x4, x5, x6⟩ := H0.out.x
  go_enter Tryd.func3, Tryd.ntmps3
  go_wp2_with fail
  clear x0 x1 x2 x3 x4 x5 x6
  refine (number2_bad s a o _ HP.out H0.out.t.t).mono ?_
  rintro e w1 ⟨rfl, hb⟩
  have H1 := Lib.hid (H0.out.up hb)
  clear H0 hb
  obtain ⟨x0, x1, x2, x3, x4, x5, x6⟩ := H1.out.x
  go_wp2_with fail
  clear x0 x1 x2 x3 x4 x5 x6
  refine (dia2_bad s a o _ HP.out H1.out.t.t).mono ?_
  rintro e w2 ⟨rfl, hb⟩
  have H2 := Lib.hid (H1.out.up hb)
  clear H1 hb
  obtain ⟨x0, x1, x2, x3, x4, x5, x6⟩ := H2.out.x
  go_wp2_with fail
  clear x0 x1 x2 x3 x4 x5 x6
  refine (fifths_bad s a o _ HP.out H2.out.t.t).mono ?_
  rintro e w3 ⟨rfl, hb⟩
  have H3 := Lib.hid (H2.out.up hb)
  clear H2 hb
  obtain ⟨x0, x1, x2, x3, x4, x5, x6⟩ := H3.out.x
  go_wp2_with fail
  clear x0 x1 x2 x3 x4 x5 x6
  refine (known_any _ H3.out.t).mono ?_
  rintro e w4 ⟨rfl, hb⟩
  have H4 := Lib.hid (H3.out.up hb)
  clear H3 hb
  obtain ⟨x0, x1, x2, x3, x4, x5, x6⟩ := H4.out.x
  go_wp2_with fail
  clear x0 x1 x2 x3 x4 x5 x6
  refine (exists_no s a o _ HP.out).mono ?_
  rintro e w5 ⟨rfl, hb⟩
  have H5 := Lib.hid (H4.out.up hb)
  clear H4 hb
  obtain ⟨x0, x1, x2, x3, x4, x5, x6⟩ := H5.out.x
  go_wp2_with fail
  clear x0 x1 x2 x3 x4 x5 x6
  refine (check_bad s a o _ HP.out H5.out.t.t).mono ?_
  rintro e w6 ⟨rfl, hb⟩
  have H6 := Lib.hid (H5.out.up hb)
  clear H5 hb
  obtain ⟨x0, x1, x2, x3, x4, x5, x6⟩ := H6.out.x
  go_wp2_with fail
  go_ret
  exact ⟨rfl, H6.out.bel.out⟩
set_option maxRecDepth 100000 in
set_option maxHeartbeats 2000000 in
theorem numbers_yes (s a o : Int) (w : World) (h : Pit s a o) (ht : PW w) (hl : PL w) :
    Calls Tryd.prog 3 #[.agg #[.int .i64 s, .int .i64 a, .int .i64 o]] w fun e w' => e = .returned (.bool true) ∧ Below w.heap.size w w' := by
  have H0 := Lib.hid (Sn.new s a o ht hl)
  have HP := Lib.hid h
  clear ht hl h
  obtain ⟨x0, x1, x2, x3, x4, x5, x6⟩ := H0.out.x
  go_enter Tryd.func3, Tryd.ntmps3
  go_wp2_with fail
  clear x0 x1 x2 x3 x4 x5 x6
  refine (number2_ok s a o _ HP.out H0.out.t.t).mono ?_
  rintro e w1 ⟨rfl, hb⟩
  have H1 := Lib.hid (H0.out.up hb)
  clear H0 hb
  obtain ⟨x0, x1, x2, x3, x4, x5, x6⟩ := H1.out.x
  go_wp2_with fail
  clear x0 x1 x2 x3 x4 x5 x6
  refine (dia2_ok s a o _ HP.out H1.out.t.t).mono ?_
  rintro e w2 ⟨rfl, hb⟩
  have H2 := Lib.hid (H1.out.up hb)
  clear H1 hb
  obtain ⟨x0, x1, x2, x3, x4, x5, x6⟩ := H2.out.x
  go_wp2_with fail
  clear x0 x1 x2 x3 x4 x5 x6
  refine (fifths_ok s a o _ HP.out H2.out.t.t H2.out.l).mono ?_
  rintro e w3 ⟨rfl, hb⟩
  have H3 := Lib.hid (H2.out.up hb)
  clear H2 hb
  obtain ⟨x0, x1, x2, x3, x4, x5, x6⟩ := H3.out.x
  go_wp2_with fail
  clear x0 x1 x2 x3 x4 x5 x6
  refine (known_any _ H3.out.t).mono ?_
  rintro e w4 ⟨rfl, hb⟩
  have H4 := Lib.hid (H3.out.up hb)
  clear H3 hb
  obtain ⟨x0, x1, x2, x3, x4, x5, x6⟩ := H4.out.x
  go_wp2_with fail
  clear x0 x1 x2 x3 x4 x5 x6
  refine (exists_yes s a o _ HP.out).mono ?_
  rintro e w5 ⟨rfl, hb⟩
  have H5 := Lib.hid (H4.out.up hb)
  clear H4 hb
  obtain ⟨x0, x1, x2, x3, x4, x5, x6⟩ := H5.out.x
  go_wp2_with fail
  clear x0 x1 x2 x3 x4 x5 x6
  refine (check_ok s a o _ HP.out H5.out.t.t).mono ?_
  rintro e w6 ⟨rfl, hb⟩
  have H6 := Lib.hid (H5.out.up hb)
  clear H5 hb
  obtain ⟨x0, x1, x2, x3, x4, x5, x6⟩ := H6.out.x
  go_wp2_with fail
  clear x0 x1 x2 x3 x4 x5 x6
  refine (refNumber_any s a o _ HP.out.s0 HP.out.s1 HP.out.a0 HP.out.a1 HP.out.o0 HP.out.o1).mono ?_
  rintro e w7 ⟨rfl, hb⟩
  have H7 := Lib.hid (H6.out.up hb)
  clear H6 hb
  obtain ⟨x0, x1, x2, x3, x4, x5, x6⟩ := H7.out.x
  go_wp2_with fail
  clear x0 x1 x2 x3 x4 x5 x6
  refine (refDia2 s a o _ HP.out.s0 HP.out.s1 HP.out.o0 HP.out.o1).mono ?_
  rintro e w8 ⟨rfl, hb⟩
  have H8 := Lib.hid (H7.out.up hb)
  clear H7 hb
  obtain ⟨x0, x1, x2, x3, x4, x5, x6⟩ := H8.out.x
  go_wp2_with fail
  clear x0 x1 x2 x3 x4 x5 x6
  refine (refFif_any s a o _ HP.out.s0 HP.out.s1 HP.out.a0 HP.out.a1).mono ?_
  rintro e w9 ⟨rfl, hb⟩
  have H9 := Lib.hid (H8.out.up hb)
  clear H8 hb
  obtain ⟨x0, x1, x2, x3, x4, x5, x6⟩ := H9.out.x
  go_wp2_with fail
  go_ret
  exact ⟨rfl, H9.out.bel.out⟩
theorem law_PitchNumbers (s a o : Int) (w : World) (ht : PW w) (hl : PL w) :
    Calls Tryd.prog 3 #[.agg #[.int .i64 s, .int .i64 a, .int .i64 o]] w fun e w' => e = .returned (.bool true) ∧ Below w.heap.size w w' := by
  by_cases h : Pit s a o
  · exact numbers_yes s a o w h ht hl
  · exact numbers_no s a o w h ht hl
end Go.Proofs.YtolfgomlokpopaaDoor
