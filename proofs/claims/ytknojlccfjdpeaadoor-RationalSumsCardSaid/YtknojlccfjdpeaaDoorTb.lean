/- Two cells of a block that is stored to; what Of returns. -/
import Derived.Test.YtknojlccfjdpeaaDoorRp
namespace Go.Proofs.YtknojlccfjdpeaaDoor
open Go.RowKit
set_option linter.unusedVariables false
set_option linter.unusedSimpArgs false
theorem Two.drew {w : World} {b : Nat} {x y : Value} (h : Two w b x y) : Two w.drew b x y := ⟨h.lt, h.c0, h.c1, h.f0, h.f1⟩
theorem Bel.drew {w W : World} (h : Bel w W) : Bel w W.drew := ⟨h.os, h.tape, h.output, h.size, h.block⟩
theorem Two.up1 {w w' : World} {b : Nat} {x y : Value} (h : Two w b x y) (hb : Below (b + 1) w w') : Two w' b x y :=
  ⟨Nat.lt_of_lt_of_le h.lt hb.size, (hb.cell (p := ⟨b, 0, none⟩) (Nat.lt_succ_self b)).trans h.c0, (hb.cell (p := ⟨b, 1, none⟩) (Nat.lt_succ_self b)).trans h.c1, (hb.frozen (p := ⟨b, 0, none⟩) (Nat.lt_succ_self b)).trans h.f0, (hb.frozen (p := ⟨b, 1, none⟩) (Nat.lt_succ_self b)).trans h.f1⟩
theorem Two.set {w : World} {b c o : Nat} {x y v : Value} (h : Two w b x y) (hc : b < c) : Two (w.setCell ⟨c, o, none⟩ v) b x y :=
  h.up1 ((Below.refl _ _).setCell (p := ⟨c, o, none⟩) hc v)
theorem Two.store {w : World} {b : Nat} {x y u v : Value} (h : Two w b x y) : Two ((w.setCell ⟨b, 0, none⟩ u).setCell ⟨b, 1, none⟩ v) b u v := by
  obtain ⟨h0, h1, h2, h3, h4⟩ := h
  exact ⟨by simpa [go_sem] using h0, by simp [go_sem, *], by simp [go_sem, *], by simp [go_sem, *], by simp [go_sem, *]⟩
theorem Two.both {w : World} {b c : Nat} {x y u v : Value} (h : Two w b x y) (k : Two w c u v) : w.cell? ⟨b, 0, none⟩ = some x ∧ w.cell? ⟨b, 1, none⟩ = some y ∧ w.cell? ⟨c, 0, none⟩ = some u ∧ w.cell? ⟨c, 1, none⟩ = some v := ⟨h.c0, h.c1, k.c0, k.c1⟩

theorem low_of (n d : Int) : Rat1.Low (Rat1.ofN n d) (Rat1.ofD n d) := by
  rcases Rat1.of_cases n d with ⟨_, h⟩ | ⟨_, h1, h2⟩
  · exact h
  · rw [h1, h2]
    exact ⟨by omega, by simp [Rat1.mx], by simp, by simp⟩
theorem ofQ_of {n d : Int} (h : Rat1.ofE n d = 0) : Rat1.ofQ n d = (Rat1.ofN n d, Rat1.ofD n d, 0) := by
  unfold Rat1.ofE at h
  unfold Rat1.ofN Rat1.ofD
  rw [← h]
theorem of_eq {n d a b : Int} (hl : Rat1.Low a b) (hd : d ≠ 0) (h : a * d = n * b) : Rat1.ofN n d = a ∧ Rat1.ofD n d = b ∧ Rat1.ofE n d = 0 := by
  have e := Rat1.ofQ_eq hl hd h
  unfold Rat1.ofN Rat1.ofD Rat1.ofE
  rw [e]
  exact ⟨rfl, rfl, rfl⟩
end Go.Proofs.YtknojlccfjdpeaaDoor
