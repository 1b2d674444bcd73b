/- The law PitchNumbers. -/
import Derived.Test.YtfbogakmhaiddaaDoorPe
namespace Go.Proofs.YtfbogakmhaiddaaDoor
open Go.RowKit
set_option linter.unusedVariables false
set_option linter.unusedSimpArgs false

set_option maxRecDepth 100000 in
set_option maxHeartbeats 1000000 in
theorem number2_bad (s a o : Int) (w : World) (h : ¬ Pit s a o) (ht : PT w) :
    Calls Tryd.prog 50 #[.agg #[.int .i64 s, .int .i64 a, .int .i64 o]] w fun e w' => e = .returned (.tuple #[.int .i64 0, .int .i64 18]) ∧ Below w.heap.size w w' := by
  have HP := Lib.hid h
  have HT := Lib.hid (ht.alloc (.cells #[.int .i64 s, .int .i64 a, .int .i64 o] 41))
  have B0 := Lib.hid ((Bel.refl w).alloc (.cells #[.int .i64 s, .int .i64 a, .int .i64 o] 41))
  clear ht h
  go_enter Tryd.func50, Tryd.ntmps50
  go_wp2_with fail
  refine (check_bad s a o _ HP.out HT.out).mono ?_
  rintro e w1 ⟨rfl, hb⟩
  have B1 := Lib.hid (B0.out.up hb)
  go_wp2_with fail
  go_ret2
  exact ⟨rfl, B1.out.out⟩
set_option maxRecDepth 100000 in
set_option maxHeartbeats 1000000 in
theorem dia2_bad (s a o : Int) (w : World) (h : ¬ Pit s a o) (ht : PT w) :
    Calls Tryd.prog 59 #[.agg #[.int .i64 s, .int .i64 a, .int .i64 o]] w fun e w' => e = .returned (.tuple #[.int .i64 0, .int .i64 18]) ∧ Below w.heap.size w w' := by
  have HP := Lib.hid h
  have HT := Lib.hid (ht.alloc (.cells #[.int .i64 s, .int .i64 a, .int .i64 o] 41))
  have B0 := Lib.hid ((Bel.refl w).alloc (.cells #[.int .i64 s, .int .i64 a, .int .i64 o] 41))
  clear ht h
  go_enter Tryd.func59, Tryd.ntmps59
  go_wp2_with fail
  refine (check_bad s a o _ HP.out HT.out).mono ?_
  rintro e w1 ⟨rfl, hb⟩
  have B1 := Lib.hid (B0.out.up hb)
  go_wp2_with fail
  go_ret2
  exact ⟨rfl, B1.out.out⟩
set_option maxRecDepth 100000 in
set_option maxHeartbeats 1000000 in
theorem dia2_ok (s a o : Int) (w : World) (h : Pit s a o) (ht : PT w) :
    Calls Tryd.prog 59 #[.agg #[.int .i64 s, .int .i64 a, .int .i64 o]] w fun e w' => e = .returned (.tuple #[.int .i64 (diaP s o), .int .i64 0]) ∧ Below w.heap.size w w' := by
  have HP := Lib.hid h
  have h0 := h.s0; have h1 := h.s1; have h4 := h.o0; have h5 := h.o1
  have HT := Lib.hid (ht.alloc (.cells #[.int .i64 s, .int .i64 a, .int .i64 o] 41))
  have B0 := Lib.hid ((Bel.refl w).alloc (.cells #[.int .i64 s, .int .i64 a, .int .i64 o] 41))
  have X0 := Tri.new w (.int .i64 s) (.int .i64 a) (.int .i64 o) 41 w.heap.size rfl
  clear ht h
  go_enter Tryd.func59, Tryd.ntmps59
  go_wp2_with fail
  refine (check_ok s a o _ HP.out HT.out).mono ?_
  rintro e w1 ⟨rfl, hb⟩
  have B1 := Lib.hid (B0.out.up hb)
  have X1 := X0.up hb
  clear hb X0 B0
  obtain ⟨x0, x1, x2, x3, x4, x5, x6⟩ := id X1
  go_wp2_with fail
  refine (diatonic_any s a o _ h0 h1 h4 h5).mono ?_
  rintro e w2 ⟨rfl, hb⟩
  have B2 := Lib.hid (B1.out.up hb)
  go_wp2_with fail
  go_ret2
  exact ⟨rfl, B2.out.out⟩
theorem fifTab (w : World) (n : Nat) (hn : n = w.heap.size) {s : Int} (s0 : 0 ≤ s) (s1 : s ≤ 6) : (w.alloc (.cells #[.int .i64 0, .int .i64 2, .int .i64 4, .int .i64 (-1), .int .i64 1, .int .i64 3, .int .i64 5] 3)).cell? ⟨n, s.toNat, none⟩ = some (.int .i64 (fifI s)) := by
  subst hn
  rcases step_cases s0 s1 with rfl | rfl | rfl | rfl | rfl | rfl | rfl <;> simp [fifI]
theorem fif_bd' {s : Int} (s0 : 0 ≤ s) (s1 : s ≤ 6) : -1 ≤ fifI s ∧ fifI s ≤ 5 := by
  rcases step_cases s0 s1 with rfl | rfl | rfl | rfl | rfl | rfl | rfl <;> decide
end Go.Proofs.YtfbogakmhaiddaaDoor
