/- Pitches: the tables, their numbers, Check. -/
import Derived.WalkKit
import Derived.WalkSpells
import Derived.Below
import Derived.BigQuiet
import Derived.Deep.QuietTactic
import Derived.Lib.Hide
import Derived.Test.YtfbogakmhaiddaaDoorQt
import Derived.Test.YtfbogakmhaiddaaDoorProg
namespace Go.Proofs.YtfbogakmhaiddaaDoor
open Go.RowKit
set_option linter.unusedVariables false
set_option linter.unusedSimpArgs false

/-- the semitones of a step above C, its place on the line of fifths -/
def stepI (s : Int) : Int := if s = 0 then 0 else if s = 1 then 2 else if s = 2 then 4 else if s = 3 then 5 else if s = 4 then 7 else if s = 5 then 9 else 11
def fifI (s : Int) : Int := if s = 0 then 0 else if s = 1 then 2 else if s = 2 then 4 else if s = 3 then -1 else if s = 4 then 1 else if s = 5 then 3 else 5
def numP (s a o : Int) : Int := 12 * (o + 1) + stepI s + a
/-- there is such a pitch -/
structure Pit (s a o : Int) : Prop where
  s0 : 0 ≤ s
  s1 : s ≤ 6
  a0 : -2 ≤ a
  a1 : a ≤ 2
  o0 : -1 ≤ o
  o1 : o ≤ 9
  n0 : 0 ≤ numP s a o
  n1 : numP s a o ≤ 127
instance (s a o : Int) : Decidable (Pit s a o) := decidable_of_iff (0 ≤ s ∧ s ≤ 6 ∧ -2 ≤ a ∧ a ≤ 2 ∧ -1 ≤ o ∧ o ≤ 9 ∧ 0 ≤ numP s a o ∧ numP s a o ≤ 127)
  ⟨fun ⟨a, b, c, d, e, f, g, h⟩ => ⟨a, b, c, d, e, f, g, h⟩, fun ⟨a, b, c, d, e, f, g, h⟩ => ⟨a, b, c, d, e, f, g, h⟩⟩
theorem step_cases {s : Int} (h0 : 0 ≤ s) (h1 : s ≤ 6) : s = 0 ∨ s = 1 ∨ s = 2 ∨ s = 3 ∨ s = 4 ∨ s = 5 ∨ s = 6 := by omega
theorem step_bd {s : Int} (h0 : 0 ≤ s) (h1 : s ≤ 6) : 0 ≤ stepI s ∧ stepI s ≤ 11 := by
  rcases step_cases h0 h1 with rfl | rfl | rfl | rfl | rfl | rfl | rfl <;> decide

theorem ret_int {k : IntKind} {a b : Int} (h : a = b) : Ending.returned (.int k a) = .returned (.int k b) := by rw [h]
theorem below_drewN {B : Nat} {a w : World} (h : Below B a w) (n : Nat) : Below B a (w.drewN n) := ⟨h.os, h.tape, h.output, h.size, h.block⟩
/-- the program's two tables of numbers read as they are laid -/
structure PT (w : World) : Prop where
  n0 : w.cell? ⟨1, 0, none⟩ = some (.int .i64 0)
  n1 : w.cell? ⟨1, 1, none⟩ = some (.int .i64 2)
  n2 : w.cell? ⟨1, 2, none⟩ = some (.int .i64 4)
  n3 : w.cell? ⟨1, 3, none⟩ = some (.int .i64 5)
  n4 : w.cell? ⟨1, 4, none⟩ = some (.int .i64 7)
  n5 : w.cell? ⟨1, 5, none⟩ = some (.int .i64 9)
  n6 : w.cell? ⟨1, 6, none⟩ = some (.int .i64 11)
theorem lt_of_cell {w : World} {a : Addr} {v : Value} (h : w.cell? a = some v) : a.block < w.heap.size := by
  unfold World.cell? at h
  rcases Nat.lt_or_ge a.block w.heap.size with h' | h'
  · exact h'
  · rw [Array.getElem?_eq_none h'] at h
    cases h
theorem cell_up {w w' : World} {a : Addr} {v : Value} (hb : Below w.heap.size w w') (h : w.cell? a = some v) : w'.cell? a = some v := (hb.cell (lt_of_cell h)).trans h
theorem PT.below {w w' : World} (h : PT w) (hb : Below w.heap.size w w') : PT w' :=
  ⟨cell_up hb h.n0, cell_up hb h.n1, cell_up hb h.n2, cell_up hb h.n3, cell_up hb h.n4, cell_up hb h.n5, cell_up hb h.n6⟩
theorem PT.alloc {w : World} (h : PT w) (o : Obj) : PT (w.alloc o) := h.below ((Below.refl _ _).alloc (Nat.le_refl _) o)
theorem PT.nums {w : World} (h : PT w) : w.cell? ⟨1, 0, none⟩ = some (.int .i64 0) ∧ w.cell? ⟨1, 1, none⟩ = some (.int .i64 2) ∧ w.cell? ⟨1, 2, none⟩ = some (.int .i64 4) ∧ w.cell? ⟨1, 3, none⟩ = some (.int .i64 5) ∧ w.cell? ⟨1, 4, none⟩ = some (.int .i64 7) ∧ w.cell? ⟨1, 5, none⟩ = some (.int .i64 9) ∧ w.cell? ⟨1, 6, none⟩ = some (.int .i64 11) :=
  ⟨h.n0, h.n1, h.n2, h.n3, h.n4, h.n5, h.n6⟩
set_option maxRecDepth 100000 in
set_option maxHeartbeats 1000000 in
theorem number_any (s a o : Int) (w : World) (s0 : 0 ≤ s) (s1 : s ≤ 6) (a0 : -2 ≤ a) (a1 : a ≤ 2) (o0 : -1 ≤ o) (o1 : o ≤ 9) (ht : PT w) :
    Calls Tryd.prog 62 #[.agg #[.int .i64 s, .int .i64 a, .int .i64 o]] w fun e w' => e = .returned (.int .i64 (numP s a o)) ∧ Below w.heap.size w w' := by
  have HT := Lib.hid (ht.alloc (.cells #[.int .i64 s, .int .i64 a, .int .i64 o] 41))
  clear ht
  unfold numP
  rcases step_cases s0 s1 with rfl | rfl | rfl | rfl | rfl | rfl | rfl
  all_goals
    obtain ⟨n0, n1, n2, n3, n4, n5, n6⟩ := HT.out.nums
    go_enter Tryd.func62, Tryd.ntmps62
    go_wp2
    go_quiet (fail)
    go_wp2
    go_ret
    exact ⟨ret_int (by simp [stepI]), below_drewN ((Below.refl _ _).alloc (Nat.le_refl _) _) _⟩

set_option maxRecDepth 100000 in
set_option maxHeartbeats 1000000 in
theorem check_ok (s a o : Int) (w : World) (h : Pit s a o) (ht : PT w) :
    Calls Tryd.prog 61 #[.agg #[.int .i64 s, .int .i64 a, .int .i64 o]] w fun e w' => e = .returned (.int .i64 0) ∧ Below w.heap.size w w' := by
  obtain ⟨s0, s1, a0, a1, o0, o1, k0, k1⟩ := h
  have HP := Lib.hid (ht.alloc (.cells #[.int .i64 s, .int .i64 a, .int .i64 o] 41))
  clear ht
  go_enter Tryd.func61, Tryd.ntmps61
  go_wp2_with fail
  refine (number_any s a o _ s0 s1 a0 a1 o0 o1 HP.out).mono ?_
  rintro e w1 ⟨rfl, hb⟩
  go_wp2_with fail
  go_ret
  exact ⟨rfl, ((Below.refl _ _).alloc (Nat.le_refl _) _).trans (hb.mono (by simp))⟩
theorem not_pit {s a o : Int} (h : ¬ Pit s a o) : s < 0 ∨ 0 ≤ s ∧ (6 < s ∨ s ≤ 6 ∧ (a < -2 ∨ -2 ≤ a ∧ (2 < a ∨ a ≤ 2 ∧ (o < -1 ∨ -1 ≤ o ∧ (9 < o ∨ o ≤ 9 ∧ (numP s a o < 0 ∨ 127 < numP s a o)))))) := by
  have h' : ¬ (0 ≤ s ∧ s ≤ 6 ∧ -2 ≤ a ∧ a ≤ 2 ∧ -1 ≤ o ∧ o ≤ 9 ∧ 0 ≤ numP s a o ∧ numP s a o ≤ 127) := fun ⟨a, b, c, d, e, f, g, i⟩ => h ⟨a, b, c, d, e, f, g, i⟩
  omega
set_option maxRecDepth 100000 in
set_option maxHeartbeats 1000000 in
theorem check_bad (s a o : Int) (w : World) (h : ¬ Pit s a o) (ht : PT w) :
    Calls Tryd.prog 61 #[.agg #[.int .i64 s, .int .i64 a, .int .i64 o]] w fun e w' => e = .returned (.int .i64 18) ∧ Below w.heap.size w w' := by
  have HP := Lib.hid (ht.alloc (.cells #[.int .i64 s, .int .i64 a, .int .i64 o] 41))
  clear ht
  rcases not_pit h with h1 | ⟨s0, h1 | ⟨s1, h1 | ⟨a0, h1 | ⟨a1, h1 | ⟨o0, h1 | ⟨o1, h1⟩⟩⟩⟩⟩⟩
  rotate_right
  · rcases h1 with h1 | h1
    all_goals
      clear h
      go_enter Tryd.func61, Tryd.ntmps61
      go_wp2_with fail
      refine (number_any s a o _ s0 s1 a0 a1 o0 o1 HP.out).mono ?_
      rintro e w1 ⟨rfl, hb⟩
      go_wp2_with fail
      go_ret
      exact ⟨rfl, ((Below.refl _ _).alloc (Nat.le_refl _) _).trans (hb.mono (by simp))⟩
  all_goals
    clear h
    go_enter Tryd.func61, Tryd.ntmps61
    go_wp2_with fail
    go_ret
    exact ⟨rfl, (Below.refl _ _).alloc (Nat.le_refl _) _⟩
end Go.Proofs.YtfbogakmhaiddaaDoor
