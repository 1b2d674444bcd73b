/- Two cells of a block that stay as they are while calls go on. -/
import Derived.WalkKit
import Derived.WalkSpells
import Derived.Below
import Derived.Lib.Hide
import Derived.Deep.Draws
namespace Go.Proofs.YtknojlccfjdpeaaDoor
open Go.RowKit

/-- Block b holds x and y, and may be written. -/
structure Two (w : World) (b : Nat) (x y : Value) : Prop where
  lt : b < w.heap.size
  c0 : w.cell? ⟨b, 0, none⟩ = some x
  c1 : w.cell? ⟨b, 1, none⟩ = some y
  f0 : w.frozen? ⟨b, 0, none⟩ = false
  f1 : w.frozen? ⟨b, 1, none⟩ = false

theorem Two.up {w w' : World} {b : Nat} {x y : Value} (h : Two w b x y) (hb : Below w.heap.size w w') : Two w' b x y :=
  ⟨Nat.lt_of_lt_of_le h.lt hb.size, (hb.cell (p := ⟨b, 0, none⟩) h.lt).trans h.c0, (hb.cell (p := ⟨b, 1, none⟩) h.lt).trans h.c1, (hb.frozen (p := ⟨b, 0, none⟩) h.lt).trans h.f0, (hb.frozen (p := ⟨b, 1, none⟩) h.lt).trans h.f1⟩
theorem Two.alloc {w : World} {b : Nat} {x y : Value} (h : Two w b x y) (o : Obj) : Two (w.alloc o) b x y :=
  h.up ((Below.refl _ _).alloc (Nat.le_refl _) o)
theorem Two.drewN {w : World} {b : Nat} {x y : Value} (h : Two w b x y) (n : Nat) : Two (w.drewN n) b x y := ⟨h.lt, h.c0, h.c1, h.f0, h.f1⟩
theorem Two.new (w : World) (x y : Value) (t : TypeId) (n : Nat) (hn : n = w.heap.size) : Two (w.alloc (.cells #[x, y] t)) n x y := by
  subst hn
  exact ⟨by simp, by simp, by simp, by simp [go_sem], by simp [go_sem]⟩

/-- Nothing that was there in w has turned in W. -/
def Bel (w W : World) : Prop := Below w.heap.size w W
theorem Bel.refl (w : World) : Bel w w := Below.refl _ _
theorem Bel.alloc {w W : World} (h : Bel w W) (o : Obj) : Bel w (W.alloc o) := Below.alloc h (Below.size h) o
theorem Bel.up {w W w' : World} (h : Bel w W) (hb : Below W.heap.size W w') : Bel w w' := Below.trans h (hb.mono (Below.size h))
theorem Bel.set {w W : World} (h : Bel w W) {b : Nat} (hn : w.heap.size ≤ b) (o : Nat) (v : Value) : Bel w (W.setCell ⟨b, o, none⟩ v) := Below.setCell h (p := ⟨b, o, none⟩) hn v
theorem Bel.drewN {w W : World} (h : Bel w W) (n : Nat) : Bel w (W.drewN n) := ⟨h.os, h.tape, h.output, h.size, h.block⟩
theorem Bel.out {w W : World} (h : Bel w W) : Below w.heap.size w W := h
theorem Bel.size {w W : World} (h : Bel w W) : w.heap.size ≤ W.heap.size := Below.size h
end Go.Proofs.YtknojlccfjdpeaaDoor
