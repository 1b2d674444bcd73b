/- Tuplets: blocks. -/
import Derived.WalkKit
import Derived.WalkSpells
import Derived.Below
import Derived.BigQuiet
import Derived.Deep.QuietTactic
import Derived.Deep.LoopGhost
import Derived.Lib.Hide
import Derived.Deep.RegionWith
import Derived.Laws.MakeOwn
import Derived.Deep.OwnRows
import Derived.OwnWalk
import Derived.Test.YtabafabebodojaaDoorQt
import Derived.Test.YtabafabebodojaaDoorProg
namespace Go.Proofs.YtabafabebodojaaDoor
open Go.RowKit
set_option linter.unusedVariables false
set_option linter.unusedSimpArgs false

theorem ret_int {k : IntKind} {a b : Int} (h : a = b) : Ending.returned (.int k a) = .returned (.int k b) := by rw [h]
theorem below_drewN {B : Nat} {a w : World} (h : Below B a w) (n : Nat) : Below B a (w.drewN n) := ⟨h.os, h.tape, h.output, h.size, h.block⟩
theorem lt_of_cell {w : World} {a : Addr} {v : Value} (h : w.cell? a = some v) : a.block < w.heap.size := by
  unfold World.cell? at h
  rcases Nat.lt_or_ge a.block w.heap.size with h' | h'
  · exact h'
  · rw [Array.getElem?_eq_none h'] at h
    cases h
theorem cell_up {w w' : World} {a : Addr} {v : Value} (hb : Below w.heap.size w w') (h : w.cell? a = some v) : w'.cell? a = some v := (hb.cell (lt_of_cell h)).trans h
structure Tri (w : World) (b : Nat) (x y z : Value) : Prop where
  lt : b < w.heap.size
  c0 : w.cell? ⟨b, 0, none⟩ = some x
  c1 : w.cell? ⟨b, 1, none⟩ = some y
  c2 : w.cell? ⟨b, 2, none⟩ = some z
  f0 : w.frozen? ⟨b, 0, none⟩ = false
  f1 : w.frozen? ⟨b, 1, none⟩ = false
  f2 : w.frozen? ⟨b, 2, none⟩ = false
theorem Tri.up {w w' : World} {b : Nat} {x y z : Value} (h : Tri w b x y z) (hb : Below w.heap.size w w') : Tri w' b x y z :=
  ⟨Nat.lt_of_lt_of_le h.lt hb.size, (hb.cell (p := ⟨b, 0, none⟩) h.lt).trans h.c0, (hb.cell (p := ⟨b, 1, none⟩) h.lt).trans h.c1, (hb.cell (p := ⟨b, 2, none⟩) h.lt).trans h.c2, (hb.frozen (p := ⟨b, 0, none⟩) h.lt).trans h.f0, (hb.frozen (p := ⟨b, 1, none⟩) h.lt).trans h.f1, (hb.frozen (p := ⟨b, 2, none⟩) h.lt).trans h.f2⟩
theorem Tri.alloc {w : World} {b : Nat} {x y z : Value} (h : Tri w b x y z) (o : Obj) : Tri (w.alloc o) b x y z := h.up ((Below.refl _ _).alloc (Nat.le_refl _) o)
theorem Tri.drewN {w : World} {b : Nat} {x y z : Value} (h : Tri w b x y z) (n : Nat) : Tri (w.drewN n) b x y z := ⟨h.lt, h.c0, h.c1, h.c2, h.f0, h.f1, h.f2⟩
theorem Tri.new (w : World) (x y z : Value) (t : TypeId) (n : Nat) (hn : n = w.heap.size) : Tri (w.alloc (.cells #[x, y, z] t)) n x y z := by
  subst hn
  exact ⟨by simp, by simp, by simp, by simp, by simp [go_sem], by simp [go_sem], by simp [go_sem]⟩
theorem Tri.store {w : World} {b : Nat} {x y z u v t : Value} (h : Tri w b x y z) : Tri (((w.setCell ⟨b, 0, none⟩ u).setCell ⟨b, 1, none⟩ v).setCell ⟨b, 2, none⟩ t) b u v t := by
  obtain ⟨h0, h1, h2, h3, h4, h5, h6⟩ := h
  exact ⟨by simpa [go_sem] using h0, by simp [go_sem, *], by simp [go_sem, *], by simp [go_sem, *], by simp [go_sem, *], by simp [go_sem, *], by simp [go_sem, *]⟩
def Bel (w W : World) : Prop := Below w.heap.size w W
theorem Bel.refl (w : World) : Bel w w := Below.refl _ _
theorem Bel.alloc {w W : World} (h : Bel w W) (o : Obj) : Bel w (W.alloc o) := Below.alloc h (Below.size h) o
theorem Bel.up {w W w' : World} (h : Bel w W) (hb : Below W.heap.size W w') : Bel w w' := Below.trans h (hb.mono (Below.size h))
theorem Bel.set {w W : World} (h : Bel w W) {b : Nat} (hn : w.heap.size ≤ b) (o : Nat) (v : Value) : Bel w (W.setCell ⟨b, o, none⟩ v) := Below.setCell h (p := ⟨b, o, none⟩) hn v
theorem Bel.drewN {w W : World} (h : Bel w W) (n : Nat) : Bel w (W.drewN n) := ⟨h.os, h.tape, h.output, h.size, h.block⟩
theorem Bel.out {w W : World} (h : Bel w W) : Below w.heap.size w W := h
theorem Bel.size {w W : World} (h : Bel w W) : w.heap.size ≤ W.heap.size := Below.size h
theorem Tri.aside {w : World} {b c : Nat} {x y z u v t : Value} (h : Tri w b x y z) (hn : c ≠ b) : Tri (((w.setCell ⟨c, 0, none⟩ u).setCell ⟨c, 1, none⟩ v).setCell ⟨c, 2, none⟩ t) b x y z := by
  obtain ⟨h0, h1, h2, h3, h4, h5, h6⟩ := h
  have hn' : b ≠ c := fun e => hn e.symm
  exact ⟨by simpa [go_sem] using h0, by simp [go_sem, *], by simp [go_sem, *], by simp [go_sem, *], by simp [go_sem, *], by simp [go_sem, *], by simp [go_sem, *]⟩
structure Duo (w : World) (b : Nat) (x y : Value) : Prop where
  lt : b < w.heap.size
  c0 : w.cell? ⟨b, 0, none⟩ = some x
  c1 : w.cell? ⟨b, 1, none⟩ = some y
  f0 : w.frozen? ⟨b, 0, none⟩ = false
  f1 : w.frozen? ⟨b, 1, none⟩ = false
theorem Duo.up {w w' : World} {b : Nat} {x y : Value} (h : Duo w b x y) (hb : Below w.heap.size w w') : Duo w' b x y :=
  ⟨Nat.lt_of_lt_of_le h.lt hb.size, (hb.cell (p := ⟨b, 0, none⟩) h.lt).trans h.c0, (hb.cell (p := ⟨b, 1, none⟩) h.lt).trans h.c1, (hb.frozen (p := ⟨b, 0, none⟩) h.lt).trans h.f0, (hb.frozen (p := ⟨b, 1, none⟩) h.lt).trans h.f1⟩
theorem Duo.alloc {w : World} {b : Nat} {x y : Value} (h : Duo w b x y) (o : Obj) : Duo (w.alloc o) b x y := h.up ((Below.refl _ _).alloc (Nat.le_refl _) o)
theorem Duo.drewN {w : World} {b : Nat} {x y : Value} (h : Duo w b x y) (n : Nat) : Duo (w.drewN n) b x y := ⟨h.lt, h.c0, h.c1, h.f0, h.f1⟩
theorem Duo.new (w : World) (x y : Value) (t : TypeId) (n : Nat) (hn : n = w.heap.size) : Duo (w.alloc (.cells #[x, y] t)) n x y := by
  subst hn
  exact ⟨by simp, by simp, by simp, by simp [go_sem], by simp [go_sem]⟩
theorem Duo.store {w : World} {b : Nat} {x y u v : Value} (h : Duo w b x y) : Duo ((w.setCell ⟨b, 0, none⟩ u).setCell ⟨b, 1, none⟩ v) b u v := by
  obtain ⟨h0, h1, h2, h3, h4⟩ := h
  exact ⟨by simpa [go_sem] using h0, by simp [go_sem, *], by simp [go_sem, *], by simp [go_sem, *], by simp [go_sem, *]⟩
structure Uno (w : World) (b : Nat) (x : Value) : Prop where
  lt : b < w.heap.size
  c0 : w.cell? ⟨b, 0, none⟩ = some x
  f0 : w.frozen? ⟨b, 0, none⟩ = false
theorem Uno.up {w w' : World} {b : Nat} {x : Value} (h : Uno w b x) (hb : Below w.heap.size w w') : Uno w' b x :=
  ⟨Nat.lt_of_lt_of_le h.lt hb.size, (hb.cell (p := ⟨b, 0, none⟩) h.lt).trans h.c0, (hb.frozen (p := ⟨b, 0, none⟩) h.lt).trans h.f0⟩
theorem Uno.alloc {w : World} {b : Nat} {x : Value} (h : Uno w b x) (o : Obj) : Uno (w.alloc o) b x := h.up ((Below.refl _ _).alloc (Nat.le_refl _) o)
theorem Uno.new (w : World) (x : Value) (t : TypeId) (n : Nat) (hn : n = w.heap.size) : Uno (w.alloc (.cells #[x] t)) n x := by
  subst hn
  exact ⟨by simp, by simp, by simp [go_sem]⟩
structure Quad (w : World) (b : Nat) (x y z u : Value) : Prop where
  lt : b < w.heap.size
  c0 : w.cell? ⟨b, 0, none⟩ = some x
  c1 : w.cell? ⟨b, 1, none⟩ = some y
  c2 : w.cell? ⟨b, 2, none⟩ = some z
  c3 : w.cell? ⟨b, 3, none⟩ = some u
  f0 : w.frozen? ⟨b, 0, none⟩ = false
  f1 : w.frozen? ⟨b, 1, none⟩ = false
  f2 : w.frozen? ⟨b, 2, none⟩ = false
  f3 : w.frozen? ⟨b, 3, none⟩ = false
theorem Quad.up {w w' : World} {b : Nat} {x y z u : Value} (h : Quad w b x y z u) (hb : Below w.heap.size w w') : Quad w' b x y z u :=
  ⟨Nat.lt_of_lt_of_le h.lt hb.size, (hb.cell (p := ⟨b, 0, none⟩) h.lt).trans h.c0, (hb.cell (p := ⟨b, 1, none⟩) h.lt).trans h.c1, (hb.cell (p := ⟨b, 2, none⟩) h.lt).trans h.c2, (hb.cell (p := ⟨b, 3, none⟩) h.lt).trans h.c3, (hb.frozen (p := ⟨b, 0, none⟩) h.lt).trans h.f0, (hb.frozen (p := ⟨b, 1, none⟩) h.lt).trans h.f1, (hb.frozen (p := ⟨b, 2, none⟩) h.lt).trans h.f2, (hb.frozen (p := ⟨b, 3, none⟩) h.lt).trans h.f3⟩
theorem Quad.alloc {w : World} {b : Nat} {x y z u : Value} (h : Quad w b x y z u) (o : Obj) : Quad (w.alloc o) b x y z u := h.up ((Below.refl _ _).alloc (Nat.le_refl _) o)
theorem Quad.new (w : World) (x y z u : Value) (t : TypeId) (n : Nat) (hn : n = w.heap.size) : Quad (w.alloc (.cells #[x, y, z, u] t)) n x y z u := by
  subst hn
  exact ⟨by simp, by simp, by simp, by simp, by simp, by simp [go_sem], by simp [go_sem], by simp [go_sem], by simp [go_sem]⟩
theorem Quad.aside1 {w : World} {b c i : Nat} {x y z u v : Value} (h : Quad w b x y z u) (hn : c ≠ b) : Quad (w.setCell ⟨c, i, none⟩ v) b x y z u := by
  obtain ⟨h0, h1, h2, h3, h4, h5, h6, h7, h8⟩ := h
  have hn' : b ≠ c := fun e => hn e.symm
  exact ⟨by simpa [go_sem] using h0, by simp [go_sem, *], by simp [go_sem, *], by simp [go_sem, *], by simp [go_sem, *], by simp [go_sem, *], by simp [go_sem, *], by simp [go_sem, *], by simp [go_sem, *]⟩
/-- n cells of a block that the call made -/
def Fil (w : World) (b n : Nat) (vs : Nat → Int) : Prop := ∀ j : Nat, j < n → w.cell? ⟨b, j, none⟩ = some (.int .i64 (vs j)) ∧ w.frozen? ⟨b, j, none⟩ = false
theorem Fil.lt {w : World} {b n : Nat} {vs : Nat → Int} (h : Fil w b n vs) (hn : 0 < n) : b < w.heap.size := lt_of_cell (h 0 hn).1
theorem Fil.up {w w' : World} {b n : Nat} {vs : Nat → Int} (h : Fil w b n vs) (hb : Below w.heap.size w w') : Fil w' b n vs := fun j hj => ⟨cell_up hb (h j hj).1, (hb.frozen (p := ⟨b, j, none⟩) (lt_of_cell (h j hj).1)).trans (h j hj).2⟩
theorem Fil.eq {w : World} {b n : Nat} {vs us : Nat → Int} (h : Fil w b n vs) (e : ∀ j, j < n → vs j = us j) : Fil w b n us := fun j hj => by rw [← e j hj]; exact h j hj
theorem Fil.set {w : World} {b n : Nat} {vs : Nat → Int} (h : Fil w b n vs) (i : Nat) (hi : i < n) (u : Int) : Fil (w.setCell ⟨b, i, none⟩ (.int .i64 u)) b n (fun j => if j = i then u else vs j) := by
  intro j hj
  have hi' := h i hi
  have hj' := h j hj
  by_cases e : j = i
  · subst e
    simp [go_sem, hi'.1, hi'.2]
  · have e' : i ≠ j := fun h => e h.symm
    simp [go_sem, hj'.1, hj'.2, e, e']
theorem Fil.other {w : World} {b c i n : Nat} {vs : Nat → Int} {u : Value} (h : Fil w b n vs) (hn : c ≠ b) : Fil (w.setCell ⟨c, i, none⟩ u) b n vs := fun j hj => by
  obtain ⟨h1, h2⟩ := h j hj
  have hn' : b ≠ c := fun e => hn e.symm
  exact ⟨by simp [go_sem, *], by simp [go_sem, *]⟩
theorem Fil.grown {w w' : World} {b n : Nat} {vs : Nat → Int} {row : Option Nat} (h : Fil w b n vs) (hg : w.grownBy w' row) (hne : some b ≠ row) : Fil w' b n vs := fun j hj => by
  obtain ⟨h0, h1⟩ := h j hj
  have hb := hg.block b (lt_of_cell h0) hne
  exact ⟨(World.cell?_of_block (a := ⟨b, j, none⟩) hb).trans h0, (World.frozen?_of_block (a := ⟨b, j, none⟩) hb).trans h1⟩
theorem tab_new (w : World) (xs : Array Value) (t : TypeId) (n : Nat) (hn : n = w.heap.size) : ∀ (i : Nat) (v : Value), xs[i]? = some v → (w.alloc (.cells xs t)).cell? ⟨n, i, none⟩ = some v := by
  intro i v h
  subst hn
  simp [h]
theorem below_drew {B : Nat} {a w : World} (h : Below B a w) : Below B a w.drew := ⟨h.os, h.tape, h.output, h.size, h.block⟩
end Go.Proofs.YtabafabebodojaaDoor
