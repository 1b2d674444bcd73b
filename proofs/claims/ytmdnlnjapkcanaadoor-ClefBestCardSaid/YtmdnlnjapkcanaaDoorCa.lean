/- Clefs: blocks, pitches. -/
import Derived.WalkKit
import Derived.WalkSpells
import Derived.Below
import Derived.BigQuiet
import Derived.Deep.QuietTactic
import Derived.Deep.LoopGhost
import Derived.Lib.Hide
import Derived.Test.YtmdnlnjapkcanaaDoorQt
import Derived.Test.YtmdnlnjapkcanaaDoorProg
namespace Go.Proofs.YtmdnlnjapkcanaaDoor
open Go.RowKit
set_option linter.unusedVariables false
set_option linter.unusedSimpArgs false

theorem ret_int {k : IntKind} {a b : Int} (h : a = b) : Ending.returned (.int k a) = .returned (.int k b) := by rw [h]
theorem below_drewN {B : Nat} {a w : World} (h : Below B a w) (n : Nat) : Below B a (w.drewN n) := ⟨h.os, h.tape, h.output, h.size, h.block⟩
theorem lt_of_cell {w : World} {a : Addr} {v : Value} (h : w.cell? a = some v) : a.block < w.heap.size := by
  unfold World.cell? at h
  rcases Nat.lt_or_ge a.block w.heap.size with h' | h'
  · exact h'
  · rw [Array.getElem?_eq_none h'] at h
    cases h
theorem cell_up {w w' : World} {a : Addr} {v : Value} (hb : Below w.heap.size w w') (h : w.cell? a = some v) : w'.cell? a = some v := (hb.cell (lt_of_cell h)).trans h
structure Tri (w : World) (b : Nat) (x y z : Value) : Prop where
  lt : b < w.heap.size
  c0 : w.cell? ⟨b, 0, none⟩ = some x
  c1 : w.cell? ⟨b, 1, none⟩ = some y
  c2 : w.cell? ⟨b, 2, none⟩ = some z
  f0 : w.frozen? ⟨b, 0, none⟩ = false
  f1 : w.frozen? ⟨b, 1, none⟩ = false
  f2 : w.frozen? ⟨b, 2, none⟩ = false
theorem Tri.up {w w' : World} {b : Nat} {x y z : Value} (h : Tri w b x y z) (hb : Below w.heap.size w w') : Tri w' b x y z :=
  ⟨Nat.lt_of_lt_of_le h.lt hb.size, (hb.cell (p := ⟨b, 0, none⟩) h.lt).trans h.c0, (hb.cell (p := ⟨b, 1, none⟩) h.lt).trans h.c1, (hb.cell (p := ⟨b, 2, none⟩) h.lt).trans h.c2, (hb.frozen (p := ⟨b, 0, none⟩) h.lt).trans h.f0, (hb.frozen (p := ⟨b, 1, none⟩) h.lt).trans h.f1, (hb.frozen (p := ⟨b, 2, none⟩) h.lt).trans h.f2⟩
theorem Tri.alloc {w : World} {b : Nat} {x y z : Value} (h : Tri w b x y z) (o : Obj) : Tri (w.alloc o) b x y z := h.up ((Below.refl _ _).alloc (Nat.le_refl _) o)
theorem Tri.drewN {w : World} {b : Nat} {x y z : Value} (h : Tri w b x y z) (n : Nat) : Tri (w.drewN n) b x y z := ⟨h.lt, h.c0, h.c1, h.c2, h.f0, h.f1, h.f2⟩
theorem Tri.new (w : World) (x y z : Value) (t : TypeId) (n : Nat) (hn : n = w.heap.size) : Tri (w.alloc (.cells #[x, y, z] t)) n x y z := by
  subst hn
  exact ⟨by simp, by simp, by simp, by simp, by simp [go_sem], by simp [go_sem], by simp [go_sem]⟩
theorem Tri.store {w : World} {b : Nat} {x y z u v t : Value} (h : Tri w b x y z) : Tri (((w.setCell ⟨b, 0, none⟩ u).setCell ⟨b, 1, none⟩ v).setCell ⟨b, 2, none⟩ t) b u v t := by
  obtain ⟨h0, h1, h2, h3, h4, h5, h6⟩ := h
  exact ⟨by simpa [go_sem] using h0, by simp [go_sem, *], by simp [go_sem, *], by simp [go_sem, *], by simp [go_sem, *], by simp [go_sem, *], by simp [go_sem, *]⟩
def Bel (w W : World) : Prop := Below w.heap.size w W
theorem Bel.refl (w : World) : Bel w w := Below.refl _ _
theorem Bel.alloc {w W : World} (h : Bel w W) (o : Obj) : Bel w (W.alloc o) := Below.alloc h (Below.size h) o
theorem Bel.up {w W w' : World} (h : Bel w W) (hb : Below W.heap.size W w') : Bel w w' := Below.trans h (hb.mono (Below.size h))
theorem Bel.set {w W : World} (h : Bel w W) {b : Nat} (hn : w.heap.size ≤ b) (o : Nat) (v : Value) : Bel w (W.setCell ⟨b, o, none⟩ v) := Below.setCell h (p := ⟨b, o, none⟩) hn v
theorem Bel.drewN {w W : World} (h : Bel w W) (n : Nat) : Bel w (W.drewN n) := ⟨h.os, h.tape, h.output, h.size, h.block⟩
theorem Bel.out {w W : World} (h : Bel w W) : Below w.heap.size w W := h
theorem Bel.size {w W : World} (h : Bel w W) : w.heap.size ≤ W.heap.size := Below.size h
theorem Tri.aside {w : World} {b c : Nat} {x y z u v t : Value} (h : Tri w b x y z) (hn : c ≠ b) : Tri (((w.setCell ⟨c, 0, none⟩ u).setCell ⟨c, 1, none⟩ v).setCell ⟨c, 2, none⟩ t) b x y z := by
  obtain ⟨h0, h1, h2, h3, h4, h5, h6⟩ := h
  have hn' : b ≠ c := fun e => hn e.symm
  exact ⟨by simpa [go_sem] using h0, by simp [go_sem, *], by simp [go_sem, *], by simp [go_sem, *], by simp [go_sem, *], by simp [go_sem, *], by simp [go_sem, *]⟩
structure Duo (w : World) (b : Nat) (x y : Value) : Prop where
  lt : b < w.heap.size
  c0 : w.cell? ⟨b, 0, none⟩ = some x
  c1 : w.cell? ⟨b, 1, none⟩ = some y
  f0 : w.frozen? ⟨b, 0, none⟩ = false
  f1 : w.frozen? ⟨b, 1, none⟩ = false
theorem Duo.up {w w' : World} {b : Nat} {x y : Value} (h : Duo w b x y) (hb : Below w.heap.size w w') : Duo w' b x y :=
  ⟨Nat.lt_of_lt_of_le h.lt hb.size, (hb.cell (p := ⟨b, 0, none⟩) h.lt).trans h.c0, (hb.cell (p := ⟨b, 1, none⟩) h.lt).trans h.c1, (hb.frozen (p := ⟨b, 0, none⟩) h.lt).trans h.f0, (hb.frozen (p := ⟨b, 1, none⟩) h.lt).trans h.f1⟩
theorem Duo.alloc {w : World} {b : Nat} {x y : Value} (h : Duo w b x y) (o : Obj) : Duo (w.alloc o) b x y := h.up ((Below.refl _ _).alloc (Nat.le_refl _) o)
theorem Duo.drewN {w : World} {b : Nat} {x y : Value} (h : Duo w b x y) (n : Nat) : Duo (w.drewN n) b x y := ⟨h.lt, h.c0, h.c1, h.f0, h.f1⟩
theorem Duo.new (w : World) (x y : Value) (t : TypeId) (n : Nat) (hn : n = w.heap.size) : Duo (w.alloc (.cells #[x, y] t)) n x y := by
  subst hn
  exact ⟨by simp, by simp, by simp, by simp [go_sem], by simp [go_sem]⟩
theorem Duo.store {w : World} {b : Nat} {x y u v : Value} (h : Duo w b x y) : Duo ((w.setCell ⟨b, 0, none⟩ u).setCell ⟨b, 1, none⟩ v) b u v := by
  obtain ⟨h0, h1, h2, h3, h4⟩ := h
  exact ⟨by simpa [go_sem] using h0, by simp [go_sem, *], by simp [go_sem, *], by simp [go_sem, *], by simp [go_sem, *]⟩
structure Uno (w : World) (b : Nat) (x : Value) : Prop where
  lt : b < w.heap.size
  c0 : w.cell? ⟨b, 0, none⟩ = some x
  f0 : w.frozen? ⟨b, 0, none⟩ = false
theorem Uno.up {w w' : World} {b : Nat} {x : Value} (h : Uno w b x) (hb : Below w.heap.size w w') : Uno w' b x :=
  ⟨Nat.lt_of_lt_of_le h.lt hb.size, (hb.cell (p := ⟨b, 0, none⟩) h.lt).trans h.c0, (hb.frozen (p := ⟨b, 0, none⟩) h.lt).trans h.f0⟩
theorem Uno.alloc {w : World} {b : Nat} {x : Value} (h : Uno w b x) (o : Obj) : Uno (w.alloc o) b x := h.up ((Below.refl _ _).alloc (Nat.le_refl _) o)
theorem Uno.new (w : World) (x : Value) (t : TypeId) (n : Nat) (hn : n = w.heap.size) : Uno (w.alloc (.cells #[x] t)) n x := by
  subst hn
  exact ⟨by simp, by simp, by simp [go_sem]⟩
/-- the semitones of a step above C, its place on the line of fifths -/
def stepI (s : Int) : Int := if s = 0 then 0 else if s = 1 then 2 else if s = 2 then 4 else if s = 3 then 5 else if s = 4 then 7 else if s = 5 then 9 else 11
def numP (s a o : Int) : Int := 12 * (o + 1) + stepI s + a
/-- there is such a pitch -/
structure Pit (s a o : Int) : Prop where
  s0 : 0 ≤ s
  s1 : s ≤ 6
  a0 : -2 ≤ a
  a1 : a ≤ 2
  o0 : -1 ≤ o
  o1 : o ≤ 9
  n0 : 0 ≤ numP s a o
  n1 : numP s a o ≤ 127
theorem step_cases {s : Int} (h0 : 0 ≤ s) (h1 : s ≤ 6) : s = 0 ∨ s = 1 ∨ s = 2 ∨ s = 3 ∨ s = 4 ∨ s = 5 ∨ s = 6 := by omega
theorem step_bd {s : Int} (h0 : 0 ≤ s) (h1 : s ≤ 6) : 0 ≤ stepI s ∧ stepI s ≤ 11 := by
  rcases step_cases h0 h1 with rfl | rfl | rfl | rfl | rfl | rfl | rfl <;> decide
/-- the program's two tables of numbers read as they are laid -/
structure PT (w : World) : Prop where
  n0 : w.cell? ⟨2, 0, none⟩ = some (.int .i64 0)
  n1 : w.cell? ⟨2, 1, none⟩ = some (.int .i64 2)
  n2 : w.cell? ⟨2, 2, none⟩ = some (.int .i64 4)
  n3 : w.cell? ⟨2, 3, none⟩ = some (.int .i64 5)
  n4 : w.cell? ⟨2, 4, none⟩ = some (.int .i64 7)
  n5 : w.cell? ⟨2, 5, none⟩ = some (.int .i64 9)
  n6 : w.cell? ⟨2, 6, none⟩ = some (.int .i64 11)
theorem PT.below {w w' : World} (h : PT w) (hb : Below w.heap.size w w') : PT w' :=
  ⟨cell_up hb h.n0, cell_up hb h.n1, cell_up hb h.n2, cell_up hb h.n3, cell_up hb h.n4, cell_up hb h.n5, cell_up hb h.n6⟩
theorem PT.alloc {w : World} (h : PT w) (o : Obj) : PT (w.alloc o) := h.below ((Below.refl _ _).alloc (Nat.le_refl _) o)
theorem PT.nums {w : World} (h : PT w) : w.cell? ⟨2, 0, none⟩ = some (.int .i64 0) ∧ w.cell? ⟨2, 1, none⟩ = some (.int .i64 2) ∧ w.cell? ⟨2, 2, none⟩ = some (.int .i64 4) ∧ w.cell? ⟨2, 3, none⟩ = some (.int .i64 5) ∧ w.cell? ⟨2, 4, none⟩ = some (.int .i64 7) ∧ w.cell? ⟨2, 5, none⟩ = some (.int .i64 9) ∧ w.cell? ⟨2, 6, none⟩ = some (.int .i64 11) :=
  ⟨h.n0, h.n1, h.n2, h.n3, h.n4, h.n5, h.n6⟩
set_option maxRecDepth 100000 in
set_option maxHeartbeats 1000000 in
theorem number_any (s a o : Int) (w : World) (s0 : 0 ≤ s) (s1 : s ≤ 6) (a0 : -2 ≤ a) (a1 : a ≤ 2) (o0 : -1 ≤ o) (o1 : o ≤ 9) (ht : PT w) :
    Calls Tryd.prog 48 #[.agg #[.int .i64 s, .int .i64 a, .int .i64 o]] w fun e w' => e = .returned (.int .i64 (numP s a o)) ∧ Below w.heap.size w w' := by
  have HT := Lib.hid (ht.alloc (.cells #[.int .i64 s, .int .i64 a, .int .i64 o] 23))
  clear ht
  unfold numP
  rcases step_cases s0 s1 with rfl | rfl | rfl | rfl | rfl | rfl | rfl
  all_goals
    obtain ⟨n0, n1, n2, n3, n4, n5, n6⟩ := HT.out.nums
    go_enter Tryd.func48, Tryd.ntmps48
    go_wp2
    go_quiet (fail)
    go_wp2
    go_ret
    exact ⟨ret_int (by simp [stepI]), below_drewN ((Below.refl _ _).alloc (Nat.le_refl _) _) _⟩
set_option maxRecDepth 100000 in
set_option maxHeartbeats 1000000 in
theorem check_ok (s a o : Int) (w : World) (h : Pit s a o) (ht : PT w) :
    Calls Tryd.prog 42 #[.agg #[.int .i64 s, .int .i64 a, .int .i64 o]] w fun e w' => e = .returned (.int .i64 0) ∧ Below w.heap.size w w' := by
  obtain ⟨s0, s1, a0, a1, o0, o1, k0, k1⟩ := h
  have HP := Lib.hid (ht.alloc (.cells #[.int .i64 s, .int .i64 a, .int .i64 o] 23))
  clear ht
  go_enter Tryd.func42, Tryd.ntmps42
  go_wp2_with fail
  refine (number_any s a o _ s0 s1 a0 a1 o0 o1 HP.out).mono ?_
  rintro e w1 ⟨rfl, hb⟩
  go_wp2_with fail
  go_ret
  exact ⟨rfl, ((Below.refl _ _).alloc (Nat.le_refl _) _).trans (hb.mono (by simp))⟩
theorem not_pit {s a o : Int} (h : ¬ Pit s a o) : s < 0 ∨ 0 ≤ s ∧ (6 < s ∨ s ≤ 6 ∧ (a < -2 ∨ -2 ≤ a ∧ (2 < a ∨ a ≤ 2 ∧ (o < -1 ∨ -1 ≤ o ∧ (9 < o ∨ o ≤ 9 ∧ (numP s a o < 0 ∨ 127 < numP s a o)))))) := by
  have h' : ¬ (0 ≤ s ∧ s ≤ 6 ∧ -2 ≤ a ∧ a ≤ 2 ∧ -1 ≤ o ∧ o ≤ 9 ∧ 0 ≤ numP s a o ∧ numP s a o ≤ 127) := fun ⟨a, b, c, d, e, f, g, i⟩ => h ⟨a, b, c, d, e, f, g, i⟩
  omega
set_option maxRecDepth 100000 in
set_option maxHeartbeats 1000000 in
theorem check_bad (s a o : Int) (w : World) (h : ¬ Pit s a o) (ht : PT w) :
    Calls Tryd.prog 42 #[.agg #[.int .i64 s, .int .i64 a, .int .i64 o]] w fun e w' => e = .returned (.int .i64 18) ∧ Below w.heap.size w w' := by
  have HP := Lib.hid (ht.alloc (.cells #[.int .i64 s, .int .i64 a, .int .i64 o] 23))
  clear ht
  rcases not_pit h with h1 | ⟨s0, h1 | ⟨s1, h1 | ⟨a0, h1 | ⟨a1, h1 | ⟨o0, h1 | ⟨o1, h1⟩⟩⟩⟩⟩⟩
  rotate_right
  · rcases h1 with h1 | h1
    all_goals
      clear h
      go_enter Tryd.func42, Tryd.ntmps42
      go_wp2_with fail
      refine (number_any s a o _ s0 s1 a0 a1 o0 o1 HP.out).mono ?_
      rintro e w1 ⟨rfl, hb⟩
      go_wp2_with fail
      go_ret
      exact ⟨rfl, ((Below.refl _ _).alloc (Nat.le_refl _) _).trans (hb.mono (by simp))⟩
  all_goals
    clear h
    go_enter Tryd.func42, Tryd.ntmps42
    go_wp2_with fail
    go_ret
    exact ⟨rfl, (Below.refl _ _).alloc (Nat.le_refl _) _⟩
instance (s a o : Int) : Decidable (Pit s a o) := decidable_of_iff (0 ≤ s ∧ s ≤ 6 ∧ -2 ≤ a ∧ a ≤ 2 ∧ -1 ≤ o ∧ o ≤ 9 ∧ 0 ≤ numP s a o ∧ numP s a o ≤ 127)
  ⟨fun ⟨a, b, c, d, e, f, g, h⟩ => ⟨a, b, c, d, e, f, g, h⟩, fun ⟨a, b, c, d, e, f, g, h⟩ => ⟨a, b, c, d, e, f, g, h⟩⟩
def diaP (s o : Int) : Int := 7 * o + s
set_option maxHeartbeats 400000 in
theorem diatonic_any (s a o : Int) (w : World) (s0 : 0 ≤ s) (s1 : s ≤ 6) (o0 : -1 ≤ o) (o1 : o ≤ 9) :
    Calls Tryd.prog 43 #[.agg #[.int .i64 s, .int .i64 a, .int .i64 o]] w fun e w' => e = .returned (.int .i64 (diaP s o)) ∧ Below w.heap.size w w' := by
  unfold diaP
  go_enter Tryd.func43, Tryd.ntmps43
  go_wp2
  try go_quiet (fail)
  go_wp2
  go_ret
  first
    | exact ⟨rfl, (Below.refl _ _).alloc (Nat.le_refl _) _⟩
    | exact ⟨rfl, below_drewN ((Below.refl _ _).alloc (Nat.le_refl _) _) _⟩
theorem dia_bd {s a o : Int} (h : Pit s a o) : -7 ≤ diaP s o ∧ diaP s o ≤ 69 := by
  unfold diaP; have := h.s0; have := h.s1; have := h.o0; have := h.o1; omega
theorem floor_neg {x y : Int} (hy : 1 ≤ y) (h : x.tmod y < 0) : x.tdiv y - 1 = x / y := by
  have := Int.tdiv_eq_ediv (a := x) (b := y)
  have h2 := Int.tmod_eq_emod (a := x) (b := y)
  split at this
  · rw [if_pos (by assumption)] at h2
    have := Int.emod_nonneg x (show y ≠ 0 by omega)
    omega
  · rw [Int.sign_eq_one_of_pos (by omega)] at this
    omega
theorem floor_pos {x y : Int} (hy : 1 ≤ y) (h : ¬ x.tmod y < 0) : x.tdiv y = x / y := by
  have := Int.tdiv_eq_ediv (a := x) (b := y)
  have h2 := Int.tmod_eq_emod (a := x) (b := y)
  have h3 := Int.emod_lt_of_pos x (show 0 < y by omega)
  split at this
  · omega
  · rename_i hs
    rw [if_neg hs] at h2
    exfalso
    omega
set_option maxRecDepth 100000 in
set_option maxHeartbeats 1000000 in
theorem dia2_bad (s a o : Int) (w : World) (h : ¬ Pit s a o) (ht : PT w) :
    Calls Tryd.prog 33 #[.agg #[.int .i64 s, .int .i64 a, .int .i64 o]] w fun e w' => e = .returned (.tuple #[.int .i64 0, .int .i64 18]) ∧ Below w.heap.size w w' := by
  have HP := Lib.hid h
  have HT := Lib.hid (ht.alloc (.cells #[.int .i64 s, .int .i64 a, .int .i64 o] 23))
  have B0 := Lib.hid ((Bel.refl w).alloc (.cells #[.int .i64 s, .int .i64 a, .int .i64 o] 23))
  clear ht h
  go_enter Tryd.func33, Tryd.ntmps33
  go_wp2_with fail
  refine (check_bad s a o _ HP.out HT.out).mono ?_
  rintro e w1 ⟨rfl, hb⟩
  have B1 := Lib.hid (B0.out.up hb)
  go_wp2_with fail
  go_ret2
  exact ⟨rfl, B1.out.out⟩
set_option maxRecDepth 100000 in
set_option maxHeartbeats 1000000 in
theorem dia2_ok (s a o : Int) (w : World) (h : Pit s a o) (ht : PT w) :
    Calls Tryd.prog 33 #[.agg #[.int .i64 s, .int .i64 a, .int .i64 o]] w fun e w' => e = .returned (.tuple #[.int .i64 (diaP s o), .int .i64 0]) ∧ Below w.heap.size w w' := by
  have HP := Lib.hid h
  have h0 := h.s0; have h1 := h.s1; have h4 := h.o0; have h5 := h.o1
  have HT := Lib.hid (ht.alloc (.cells #[.int .i64 s, .int .i64 a, .int .i64 o] 23))
  have B0 := Lib.hid ((Bel.refl w).alloc (.cells #[.int .i64 s, .int .i64 a, .int .i64 o] 23))
  have X0 := Tri.new w (.int .i64 s) (.int .i64 a) (.int .i64 o) 23 w.heap.size rfl
  clear ht h
  go_enter Tryd.func33, Tryd.ntmps33
  go_wp2_with fail
  refine (check_ok s a o _ HP.out HT.out).mono ?_
  rintro e w1 ⟨rfl, hb⟩
  have B1 := Lib.hid (B0.out.up hb)
  have X1 := X0.up hb
  clear hb X0 B0
  obtain ⟨x0, x1, x2, x3, x4, x5, x6⟩ := id X1
  go_wp2_with fail
  refine (diatonic_any s a o _ h0 h1 h4 h5).mono ?_
  rintro e w2 ⟨rfl, hb⟩
  have B2 := Lib.hid (B1.out.up hb)
  go_wp2_with fail
  go_ret2
  exact ⟨rfl, B2.out.out⟩
end Go.Proofs.YtmdnlnjapkcanaaDoor
