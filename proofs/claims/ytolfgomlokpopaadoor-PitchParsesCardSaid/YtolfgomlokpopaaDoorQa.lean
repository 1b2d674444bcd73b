/- The reference's Exists, Number, Fifths, Diatonic; the program's Fifths. -/
import Derived.Test.YtolfgomlokpopaaDoorPe
namespace Go.Proofs.YtolfgomlokpopaaDoor
open Go.RowKit
set_option linter.unusedVariables false
set_option linter.unusedSimpArgs false

set_option maxRecDepth 100000 in
set_option maxHeartbeats 1000000 in
theorem semi_any (s : Int) (w : World) (s0 : 0 ≤ s) (s1 : s ≤ 6) :
    Calls Tryd.prog 32 #[.int .i64 s] w fun e w' => e = .returned (.int .i64 (stepI s)) ∧ Below w.heap.size w w' := by
  rcases step_cases s0 s1 with rfl | rfl | rfl | rfl | rfl | rfl | rfl
  all_goals
    go_enter Tryd.func32, Tryd.ntmps32
    go_wp2_with fail
    go_ret
    exact ⟨ret_int (by simp [stepI]), (Below.refl _ _).alloc (Nat.le_refl _) _⟩
set_option maxRecDepth 100000 in
set_option maxHeartbeats 1000000 in
theorem refNumber_any (s a o : Int) (w : World) (s0 : 0 ≤ s) (s1 : s ≤ 6) (a0 : -2 ≤ a) (a1 : a ≤ 2) (o0 : -1 ≤ o) (o1 : o ≤ 9) :
    Calls Tryd.prog 16 #[.agg #[.int .i64 s, .int .i64 a, .int .i64 o]] w fun e w' => e = .returned (.int .i64 (numP s a o)) ∧ Below w.heap.size w w' := by
  have k := step_bd s0 s1
  have X := Lib.hid (Tri.new w (.int .i64 s) (.int .i64 a) (.int .i64 o) 23 w.heap.size rfl)
  unfold numP
  go_enter Tryd.func16, Tryd.ntmps16
  go_wp2_with fail
  refine Qt.regionAll (by kernel_rfl) (by kernel_rfl) ?_
  intro T f F hne
  have Y := fun t => X.out.up (F.below t)
  have a1 := fun t => (Y t).c0; have a2 := fun t => (Y t).c1; have a3 := fun t => (Y t).c2
  repeat (go_big_quiet_step (first | (go_at_call 32; exact F.call (semi_any _ _ s0 s1))))
  refine wpQuiet_nil ?_
  rintro _ ⟨t, rfl⟩
  have hb := F.below t
  go_wp2_with fail
  go_ret
  exact ⟨rfl, ((Below.refl _ _).alloc (Nat.le_refl _) _).trans (hb.mono (by simp))⟩
set_option maxRecDepth 100000 in
set_option maxHeartbeats 1000000 in
theorem exists_yes (s a o : Int) (w : World) (h : Pit s a o) :
    Calls Tryd.prog 14 #[.agg #[.int .i64 s, .int .i64 a, .int .i64 o]] w fun e w' => e = .returned (.bool true) ∧ Below w.heap.size w w' := by
  obtain ⟨s0, s1, a0, a1, o0, o1, k0, k1⟩ := h
  go_enter Tryd.func14, Tryd.ntmps14
  go_wp2_with fail
  refine (refNumber_any s a o _ s0 s1 a0 a1 o0 o1).mono ?_
  rintro e w1 ⟨rfl, hb⟩
  go_wp2_with fail
  go_ret
  exact ⟨rfl, ((Below.refl _ _).alloc (Nat.le_refl _) _).trans (hb.mono (by simp))⟩
set_option maxRecDepth 100000 in
set_option maxHeartbeats 1000000 in
theorem exists_no (s a o : Int) (w : World) (h : ¬ Pit s a o) :
    Calls Tryd.prog 14 #[.agg #[.int .i64 s, .int .i64 a, .int .i64 o]] w fun e w' => e = .returned (.bool false) ∧ Below w.heap.size w w' := by
  rcases not_pit h with h1 | ⟨s0, h1 | ⟨s1, h1 | ⟨a0, h1 | ⟨a1, h1 | ⟨o0, h1 | ⟨o1, h1⟩⟩⟩⟩⟩⟩
  rotate_right
  · rcases h1 with h1 | h1
    all_goals
      clear h
      go_enter Tryd.func14, Tryd.ntmps14
      go_wp2_with fail
      refine (refNumber_any s a o _ s0 s1 a0 a1 o0 o1).mono ?_
      rintro e w1 ⟨rfl, hb⟩
      go_wp2_with fail
      go_ret
      refine ⟨?_, ((Below.refl _ _).alloc (Nat.le_refl _) _).trans (hb.mono (by simp))⟩
      first
        | rfl
        | (simp [go_sem]; done)
        | (simp [go_sem]; omega)
  all_goals
    clear h
    go_enter Tryd.func14, Tryd.ntmps14
    go_wp2_with fail
    go_ret
    exact ⟨rfl, (Below.refl _ _).alloc (Nat.le_refl _) _⟩
set_option maxRecDepth 100000 in
set_option maxHeartbeats 1000000 in
theorem fifths_ok (s a o : Int) (w : World) (h : Pit s a o) (ht : PT w) (hl : PL w) :
    Calls Tryd.prog 12 #[.agg #[.int .i64 s, .int .i64 a, .int .i64 o]] w fun e w' => e = .returned (.tuple #[.int .i64 (fifI s + 7 * a), .int .i64 0]) ∧ Below w.heap.size w w' := by
  have HP := Lib.hid h
  have HL := Lib.hid (hl.alloc (.cells #[.int .i64 s, .int .i64 a, .int .i64 o] 23))
  have HT := Lib.hid (ht.alloc (.cells #[.int .i64 s, .int .i64 a, .int .i64 o] 23))
  have X := Lib.hid (Tri.new w (.int .i64 s) (.int .i64 a) (.int .i64 o) 23 w.heap.size rfl)
  obtain ⟨s0, s1, a0, a1, o0, o1, k0, k1⟩ := h
  clear ht hl
  rcases step_cases s0 s1 with rfl | rfl | rfl | rfl | rfl | rfl | rfl
  all_goals
    go_enter Tryd.func12, Tryd.ntmps12
    go_wp2_with fail
    refine (check_ok _ a o _ HP.out HT.out).mono ?_
    rintro e w1 ⟨rfl, hb⟩
    have Y := X.out.up hb
    obtain ⟨x0, x1, x2, x3, x4, x5, x6⟩ := id Y
    obtain ⟨n0, n1, n2, n3, n4, n5, n6⟩ := (HL.out.below hb).plas
    have B1 := ((Below.refl _ w).alloc (Nat.le_refl _) _).trans (hb.mono (by simp))
    clear hb
    go_wp2_with fail
    go_quiet (fail)
    go_wp2_with fail
    go_ret2
    exact ⟨by simp [fifI], below_drewN B1 _⟩
end Go.Proofs.YtolfgomlokpopaaDoor
