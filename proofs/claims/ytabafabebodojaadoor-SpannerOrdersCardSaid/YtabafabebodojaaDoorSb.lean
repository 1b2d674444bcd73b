/- Blocks of nine cells. -/
import Derived.Test.YtabafabebodojaaDoorTa
import Derived.Test.YtabafabebodojaaDoorSa
import Derived.Test.YtabafabebodojaaDoorSm
namespace Go.Proofs.YtabafabebodojaaDoor
open Go.RowKit
set_option linter.unusedVariables false
set_option linter.unusedSimpArgs false

structure Non (w : World) (b : Nat) (x0 x1 x2 x3 x4 x5 x6 x7 x8 : Value) : Prop where
  lt : b < w.heap.size
  c0 : w.cell? ⟨b, 0, none⟩ = some x0
  c1 : w.cell? ⟨b, 1, none⟩ = some x1
  c2 : w.cell? ⟨b, 2, none⟩ = some x2
  c3 : w.cell? ⟨b, 3, none⟩ = some x3
  c4 : w.cell? ⟨b, 4, none⟩ = some x4
  c5 : w.cell? ⟨b, 5, none⟩ = some x5
  c6 : w.cell? ⟨b, 6, none⟩ = some x6
  c7 : w.cell? ⟨b, 7, none⟩ = some x7
  c8 : w.cell? ⟨b, 8, none⟩ = some x8
  f0 : w.frozen? ⟨b, 0, none⟩ = false
  f1 : w.frozen? ⟨b, 1, none⟩ = false
  f2 : w.frozen? ⟨b, 2, none⟩ = false
  f3 : w.frozen? ⟨b, 3, none⟩ = false
  f4 : w.frozen? ⟨b, 4, none⟩ = false
  f5 : w.frozen? ⟨b, 5, none⟩ = false
  f6 : w.frozen? ⟨b, 6, none⟩ = false
  f7 : w.frozen? ⟨b, 7, none⟩ = false
  f8 : w.frozen? ⟨b, 8, none⟩ = false
theorem Non.up {w w' : World} {b : Nat} {x0 x1 x2 x3 x4 x5 x6 x7 x8 : Value} (h : Non w b x0 x1 x2 x3 x4 x5 x6 x7 x8) (hb : Below w.heap.size w w') : Non w' b x0 x1 x2 x3 x4 x5 x6 x7 x8 :=
  ⟨Nat.lt_of_lt_of_le h.lt hb.size, (hb.cell (p := ⟨b, 0, none⟩) h.lt).trans h.c0, (hb.cell (p := ⟨b, 1, none⟩) h.lt).trans h.c1, (hb.cell (p := ⟨b, 2, none⟩) h.lt).trans h.c2, (hb.cell (p := ⟨b, 3, none⟩) h.lt).trans h.c3, (hb.cell (p := ⟨b, 4, none⟩) h.lt).trans h.c4, (hb.cell (p := ⟨b, 5, none⟩) h.lt).trans h.c5, (hb.cell (p := ⟨b, 6, none⟩) h.lt).trans h.c6, (hb.cell (p := ⟨b, 7, none⟩) h.lt).trans h.c7, (hb.cell (p := ⟨b, 8, none⟩) h.lt).trans h.c8, (hb.frozen (p := ⟨b, 0, none⟩) h.lt).trans h.f0, (hb.frozen (p := ⟨b, 1, none⟩) h.lt).trans h.f1, (hb.frozen (p := ⟨b, 2, none⟩) h.lt).trans h.f2, (hb.frozen (p := ⟨b, 3, none⟩) h.lt).trans h.f3, (hb.frozen (p := ⟨b, 4, none⟩) h.lt).trans h.f4, (hb.frozen (p := ⟨b, 5, none⟩) h.lt).trans h.f5, (hb.frozen (p := ⟨b, 6, none⟩) h.lt).trans h.f6, (hb.frozen (p := ⟨b, 7, none⟩) h.lt).trans h.f7, (hb.frozen (p := ⟨b, 8, none⟩) h.lt).trans h.f8⟩
theorem Non.alloc {w : World} {b : Nat} {x0 x1 x2 x3 x4 x5 x6 x7 x8 : Value} (h : Non w b x0 x1 x2 x3 x4 x5 x6 x7 x8) (o : Obj) : Non (w.alloc o) b x0 x1 x2 x3 x4 x5 x6 x7 x8 := h.up ((Below.refl _ _).alloc (Nat.le_refl _) o)
theorem Non.new (w : World) (x0 x1 x2 x3 x4 x5 x6 x7 x8 : Value) (t : TypeId) (n : Nat) (hn : n = w.heap.size) : Non (w.alloc (.cells #[x0, x1, x2, x3, x4, x5, x6, x7, x8] t)) n x0 x1 x2 x3 x4 x5 x6 x7 x8 := by
  subst hn
  exact ⟨by simp, by simp, by simp, by simp, by simp, by simp, by simp, by simp, by simp, by simp, by simp [go_sem], by simp [go_sem], by simp [go_sem], by simp [go_sem], by simp [go_sem], by simp [go_sem], by simp [go_sem], by simp [go_sem], by simp [go_sem]⟩
theorem Non.store {w : World} {b : Nat} {x0 x1 x2 x3 x4 x5 x6 x7 x8 y0 y1 y2 y3 y4 y5 y6 y7 y8 : Value} (h : Non w b x0 x1 x2 x3 x4 x5 x6 x7 x8) : Non (((((((((w.setCell ⟨b, 0, none⟩ y0).setCell ⟨b, 1, none⟩ y1).setCell ⟨b, 2, none⟩ y2).setCell ⟨b, 3, none⟩ y3).setCell ⟨b, 4, none⟩ y4).setCell ⟨b, 5, none⟩ y5).setCell ⟨b, 6, none⟩ y6).setCell ⟨b, 7, none⟩ y7).setCell ⟨b, 8, none⟩ y8) b y0 y1 y2 y3 y4 y5 y6 y7 y8 := by
  obtain ⟨h0, a0, a1, a2, a3, a4, a5, a6, a7, a8, b0, b1, b2, b3, b4, b5, b6, b7, b8⟩ := h
  exact ⟨by simpa [go_sem] using h0, by simp [go_sem, *], by simp [go_sem, *], by simp [go_sem, *], by simp [go_sem, *], by simp [go_sem, *], by simp [go_sem, *], by simp [go_sem, *], by simp [go_sem, *], by simp [go_sem, *], by simp [go_sem, *], by simp [go_sem, *], by simp [go_sem, *], by simp [go_sem, *], by simp [go_sem, *], by simp [go_sem, *], by simp [go_sem, *], by simp [go_sem, *], by simp [go_sem, *]⟩
theorem Quad.store {w : World} {b : Nat} {x0 x1 x2 x3 y0 y1 y2 y3 : Value} (h : Quad w b x0 x1 x2 x3) : Quad ((((w.setCell ⟨b, 0, none⟩ y0).setCell ⟨b, 1, none⟩ y1).setCell ⟨b, 2, none⟩ y2).setCell ⟨b, 3, none⟩ y3) b y0 y1 y2 y3 := by
  obtain ⟨h0, a0, a1, a2, a3, b0, b1, b2, b3⟩ := h
  exact ⟨by simpa [go_sem] using h0, by simp [go_sem, *], by simp [go_sem, *], by simp [go_sem, *], by simp [go_sem, *], by simp [go_sem, *], by simp [go_sem, *], by simp [go_sem, *], by simp [go_sem, *]⟩
theorem Tri.other {w : World} {b c i : Nat} {u x0 x1 x2 : Value} (h : Tri w b x0 x1 x2) (hn : c ≠ b) : Tri (w.setCell ⟨c, i, none⟩ u) b x0 x1 x2 := by
  obtain ⟨h0, a0, a1, a2, b0, b1, b2⟩ := h
  have hn1 : b ≠ c := fun e => hn e.symm
  exact ⟨by simpa [go_sem] using h0, by simp [go_sem, *], by simp [go_sem, *], by simp [go_sem, *], by simp [go_sem, *], by simp [go_sem, *], by simp [go_sem, *]⟩
theorem Tri.put0 {w : World} {b : Nat} {u x0 x1 x2 : Value} (h : Tri w b x0 x1 x2) : Tri (w.setCell ⟨b, 0, none⟩ u) b u x1 x2 := by
  obtain ⟨h0, a0, a1, a2, b0, b1, b2⟩ := h
  exact ⟨by simpa [go_sem] using h0, by simp [go_sem, *], by simp [go_sem, *], by simp [go_sem, *], by simp [go_sem, *], by simp [go_sem, *], by simp [go_sem, *]⟩
theorem Tri.put1 {w : World} {b : Nat} {u x0 x1 x2 : Value} (h : Tri w b x0 x1 x2) : Tri (w.setCell ⟨b, 1, none⟩ u) b x0 u x2 := by
  obtain ⟨h0, a0, a1, a2, b0, b1, b2⟩ := h
  exact ⟨by simpa [go_sem] using h0, by simp [go_sem, *], by simp [go_sem, *], by simp [go_sem, *], by simp [go_sem, *], by simp [go_sem, *], by simp [go_sem, *]⟩
theorem Tri.put2 {w : World} {b : Nat} {u x0 x1 x2 : Value} (h : Tri w b x0 x1 x2) : Tri (w.setCell ⟨b, 2, none⟩ u) b x0 x1 u := by
  obtain ⟨h0, a0, a1, a2, b0, b1, b2⟩ := h
  exact ⟨by simpa [go_sem] using h0, by simp [go_sem, *], by simp [go_sem, *], by simp [go_sem, *], by simp [go_sem, *], by simp [go_sem, *], by simp [go_sem, *]⟩
theorem Quad.other {w : World} {b c i : Nat} {u x0 x1 x2 x3 : Value} (h : Quad w b x0 x1 x2 x3) (hn : c ≠ b) : Quad (w.setCell ⟨c, i, none⟩ u) b x0 x1 x2 x3 := by
  obtain ⟨h0, a0, a1, a2, a3, b0, b1, b2, b3⟩ := h
  have hn1 : b ≠ c := fun e => hn e.symm
  exact ⟨by simpa [go_sem] using h0, by simp [go_sem, *], by simp [go_sem, *], by simp [go_sem, *], by simp [go_sem, *], by simp [go_sem, *], by simp [go_sem, *], by simp [go_sem, *], by simp [go_sem, *]⟩
theorem Quad.put0 {w : World} {b : Nat} {u x0 x1 x2 x3 : Value} (h : Quad w b x0 x1 x2 x3) : Quad (w.setCell ⟨b, 0, none⟩ u) b u x1 x2 x3 := by
  obtain ⟨h0, a0, a1, a2, a3, b0, b1, b2, b3⟩ := h
  exact ⟨by simpa [go_sem] using h0, by simp [go_sem, *], by simp [go_sem, *], by simp [go_sem, *], by simp [go_sem, *], by simp [go_sem, *], by simp [go_sem, *], by simp [go_sem, *], by simp [go_sem, *]⟩
theorem Quad.put1 {w : World} {b : Nat} {u x0 x1 x2 x3 : Value} (h : Quad w b x0 x1 x2 x3) : Quad (w.setCell ⟨b, 1, none⟩ u) b x0 u x2 x3 := by
  obtain ⟨h0, a0, a1, a2, a3, b0, b1, b2, b3⟩ := h
  exact ⟨by simpa [go_sem] using h0, by simp [go_sem, *], by simp [go_sem, *], by simp [go_sem, *], by simp [go_sem, *], by simp [go_sem, *], by simp [go_sem, *], by simp [go_sem, *], by simp [go_sem, *]⟩
theorem Quad.put2 {w : World} {b : Nat} {u x0 x1 x2 x3 : Value} (h : Quad w b x0 x1 x2 x3) : Quad (w.setCell ⟨b, 2, none⟩ u) b x0 x1 u x3 := by
  obtain ⟨h0, a0, a1, a2, a3, b0, b1, b2, b3⟩ := h
  exact ⟨by simpa [go_sem] using h0, by simp [go_sem, *], by simp [go_sem, *], by simp [go_sem, *], by simp [go_sem, *], by simp [go_sem, *], by simp [go_sem, *], by simp [go_sem, *], by simp [go_sem, *]⟩
theorem Quad.put3 {w : World} {b : Nat} {u x0 x1 x2 x3 : Value} (h : Quad w b x0 x1 x2 x3) : Quad (w.setCell ⟨b, 3, none⟩ u) b x0 x1 x2 u := by
  obtain ⟨h0, a0, a1, a2, a3, b0, b1, b2, b3⟩ := h
  exact ⟨by simpa [go_sem] using h0, by simp [go_sem, *], by simp [go_sem, *], by simp [go_sem, *], by simp [go_sem, *], by simp [go_sem, *], by simp [go_sem, *], by simp [go_sem, *], by simp [go_sem, *]⟩
theorem Non.other {w : World} {b c i : Nat} {u x0 x1 x2 x3 x4 x5 x6 x7 x8 : Value} (h : Non w b x0 x1 x2 x3 x4 x5 x6 x7 x8) (hn : c ≠ b) : Non (w.setCell ⟨c, i, none⟩ u) b x0 x1 x2 x3 x4 x5 x6 x7 x8 := by
  obtain ⟨h0, a0, a1, a2, a3, a4, a5, a6, a7, a8, b0, b1, b2, b3, b4, b5, b6, b7, b8⟩ := h
  have hn1 : b ≠ c := fun e => hn e.symm
  exact ⟨by simpa [go_sem] using h0, by simp [go_sem, *], by simp [go_sem, *], by simp [go_sem, *], by simp [go_sem, *], by simp [go_sem, *], by simp [go_sem, *], by simp [go_sem, *], by simp [go_sem, *], by simp [go_sem, *], by simp [go_sem, *], by simp [go_sem, *], by simp [go_sem, *], by simp [go_sem, *], by simp [go_sem, *], by simp [go_sem, *], by simp [go_sem, *], by simp [go_sem, *], by simp [go_sem, *]⟩
theorem Duo.other {w : World} {b c i : Nat} {u x0 x1 : Value} (h : Duo w b x0 x1) (hn : c ≠ b) : Duo (w.setCell ⟨c, i, none⟩ u) b x0 x1 := by
  obtain ⟨h0, a0, a1, b0, b1⟩ := h
  have hn1 : b ≠ c := fun e => hn e.symm
  exact ⟨by simpa [go_sem] using h0, by simp [go_sem, *], by simp [go_sem, *], by simp [go_sem, *], by simp [go_sem, *]⟩
theorem Duo.put0 {w : World} {b : Nat} {u x0 x1 : Value} (h : Duo w b x0 x1) : Duo (w.setCell ⟨b, 0, none⟩ u) b u x1 := by
  obtain ⟨h0, a0, a1, b0, b1⟩ := h
  exact ⟨by simpa [go_sem] using h0, by simp [go_sem, *], by simp [go_sem, *], by simp [go_sem, *], by simp [go_sem, *]⟩
theorem Duo.put1 {w : World} {b : Nat} {u x0 x1 : Value} (h : Duo w b x0 x1) : Duo (w.setCell ⟨b, 1, none⟩ u) b x0 u := by
  obtain ⟨h0, a0, a1, b0, b1⟩ := h
  exact ⟨by simpa [go_sem] using h0, by simp [go_sem, *], by simp [go_sem, *], by simp [go_sem, *], by simp [go_sem, *]⟩
theorem Uno.other {w : World} {b c i : Nat} {u x0 : Value} (h : Uno w b x0) (hn : c ≠ b) : Uno (w.setCell ⟨c, i, none⟩ u) b x0 := by
  obtain ⟨h0, a0, b0⟩ := h
  have hn1 : b ≠ c := fun e => hn e.symm
  exact ⟨by simpa [go_sem] using h0, by simp [go_sem, *], by simp [go_sem, *]⟩
theorem Uno.put0 {w : World} {b : Nat} {u x0 : Value} (h : Uno w b x0) : Uno (w.setCell ⟨b, 0, none⟩ u) b u := by
  obtain ⟨h0, a0, b0⟩ := h
  exact ⟨by simpa [go_sem] using h0, by simp [go_sem, *], by simp [go_sem, *]⟩
end Go.Proofs.YtabafabebodojaaDoor
