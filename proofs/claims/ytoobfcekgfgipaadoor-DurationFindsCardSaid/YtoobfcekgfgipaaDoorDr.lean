/- Durations: the reference's list of all values. -/
import Derived.Test.YtoobfcekgfgipaaDoorDq
import Derived.Test.YtoobfcekgfgipaaDoorQu
import Derived.OwnWalk
import Derived.Laws.AppendOwn
import Derived.OneCell
namespace Go.Proofs.YtoobfcekgfgipaaDoor
open Go.RowKit
set_option linter.unusedVariables false
set_option linter.unusedSimpArgs false

/-- the cells of the first k values -/
def vC (x : Fin 40) : List Value := [.int .i64 (lgV x), .int .i64 (dtV x)]
def cellsV (k : Nat) : List Value := (upV k).flatMap vC
theorem cellsV_succ {k : Nat} (h : k < 40) : cellsV (k + 1) = cellsV k ++ vC ⟨k, h⟩ := by simp [cellsV, upV_succ h]
theorem cellsV_at (k : Nat) (hk : k ≤ 40) : ∀ x : Fin 40, x.val < k → (cellsV k)[x.val * 2]? = some (.int .i64 (lgV x)) ∧ (cellsV k)[x.val * 2 + 1]? = some (.int .i64 (dtV x)) := by
  have len : ∀ m : Nat, m ≤ 40 → (cellsV m).length = m * 2 := by
    intro m
    induction m with
    | zero => intro _; rfl
    | succ m ih => intro hm; rw [cellsV_succ (by omega), List.length_append, ih (by omega)]; simp [vC]; omega
  induction k with
  | zero => intro x hx; omega
  | succ k ih =>
    intro x hx
    rw [cellsV_succ (by omega)]
    by_cases e : x.val < k
    · have := ih (by omega) x e
      rw [List.getElem?_append_left (by rw [len k (by omega)]; omega), List.getElem?_append_left (by rw [len k (by omega)]; omega)]
      exact this
    · obtain ⟨xv, hxv⟩ := x
      simp only at hx e ⊢
      obtain rfl : k = xv := by omega
      rw [List.getElem?_append_right (by rw [len k (by omega)]; simp), List.getElem?_append_right (by rw [len k (by omega)]; omega), len k (by omega)]
      simp [vC]
theorem cellsV_len (m : Nat) (hm : m ≤ 40) : (cellsV m).length = m * 2 := by
  induction m with
  | zero => rfl
  | succ m ih => rw [cellsV_succ (by omega), List.length_append, ih (by omega)]; simp [vC]; omega
/-- the list's first k values, as ref.All makes it -/
structure OV (w wr : World) (v : Value) (k : Nat) : Prop where
  bel : Bel w wr
  own : wr.ownsRow w.heap.size 23 2 v k (cellsV k)
theorem OV.up {w wr w' : World} {v : Value} {k : Nat} (h : OV w wr v k) (hb : Below wr.heap.size wr w') : OV w w' v k := ⟨h.bel.up hb, ownUp h.own hb⟩
/-- values at an address -/
def VlAt (w : World) (g : Nat) (k : Nat) : Prop := ∀ x : Fin 40, x.val < k → w.cell? ⟨g, x.val * 2, none⟩ = some (.int .i64 (lgV x)) ∧ w.cell? ⟨g, x.val * 2 + 1, none⟩ = some (.int .i64 (dtV x))
theorem VlAt.up {w w' : World} {g k : Nat} (h : VlAt w g k) (hb : Below w.heap.size w w') : VlAt w' g k := fun x hx => ⟨cell_up hb (h x hx).1, cell_up hb (h x hx).2⟩
theorem OV.at {w wr : World} {v : Value} {k : Nat} (h : OV w wr v k) (hk : k ≤ 40) : (k = 0 ∧ v = .slice none 0 0) ∨ ∃ g cap, v = .slice (some ⟨g, 0, none⟩) k cap ∧ VlAt wr g k := by
  obtain ⟨hl, hr⟩ := h.own
  rcases hr with ⟨rfl, h0⟩ | ⟨g, cap, cur, rfl, hg, hc, hn, _, hs, ht⟩
  · exact .inl ⟨h0, rfl⟩
  · refine .inr ⟨g, cap, rfl, fun x hx => ?_⟩
    have hx2 := cellsV_at k hk x hx
    rw [← ht] at hx2
    have rd : ∀ (j : Nat) (u : Value), (cur.toList.take (k * 2))[j]? = some u → wr.cell? ⟨g, j, none⟩ = some u := fun j u hj => by
      rw [List.getElem?_take] at hj
      split at hj
      · simp at hj
        simp [World.cell?, hc, hj]
      · cases hj
    exact ⟨rd _ _ hx2.1, rd _ _ hx2.2⟩
/-- pair p of the two inner loops -/
def plV (p : Nat) : Int := ((p / 4 : Nat) : Int) - 1
def pdV (p : Nat) : Int := ((p % 4 : Nat) : Int)
/-- the last value before k -/
def preL (k : Nat) : Int := lenV (((k - 1) / 4 : Nat) - 1) (3 - (((k - 1) % 4 : Nat) : Int))
/-- the best of the first p pairs -/
def bF (k : Nat) : Nat → Int × Int
  | 0 => (99, 0)
  | p + 1 => if k ≠ 0 ∧ preL k ≤ lenV (plV p) (pdV p) then bF k p else if (bF k p).1 = 99 ∨ lenV (bF k p).1 (bF k p).2 < lenV (plV p) (pdV p) then (plV p, pdV p) else bF k p
set_option maxRecDepth 100000 in
theorem bF_end : ∀ k : Fin 40, bF k.val 40 = (lgV k, dtV k) := by decide +kernel
theorem bF_va (k : Nat) : ∀ p : Nat, p ≤ 40 → (bF k p).1 = 99 ∨ ((bF k p).1 ≠ 99 ∧ Va (bF k p).1 (bF k p).2) := by
  intro p
  induction p with
  | zero => intro _; exact .inl rfl
  | succ p ih =>
    intro hp
    have := ih (by omega)
    unfold bF
    split
    · exact this
    · split
      · refine .inr ⟨?_, ⟨?_, ?_, ?_, ?_⟩⟩ <;> (simp only [plV, pdV]; omega)
      · exact this
theorem bF_skip {k p : Nat} (h0 : k ≠ 0) (h : preL k ≤ lenV (plV p) (pdV p)) : bF k (p + 1) = bF k p := by rw [bF, if_pos ⟨h0, h⟩]
theorem bF_take {k p : Nat} (h0 : k = 0 ∨ ¬ preL k ≤ lenV (plV p) (pdV p)) (h : (bF k p).1 = 99 ∨ lenV (bF k p).1 (bF k p).2 < lenV (plV p) (pdV p)) : bF k (p + 1) = (plV p, pdV p) := by rw [bF, if_neg (by omega), if_pos h]
theorem bF_keep {k p : Nat} (h0 : k = 0 ∨ ¬ preL k ≤ lenV (plV p) (pdV p)) (h : ¬ ((bF k p).1 = 99 ∨ lenV (bF k p).1 (bF k p).2 < lenV (plV p) (pdV p))) : bF k (p + 1) = bF k p := by rw [bF, if_neg (by omega), if_neg h]
/-- what the inner loops keep -/
structure AI (w wr : World) (v : Value) (k bb : Nat) (b : Int × Int) : Prop where
  ov : OV w wr v k
  duo : Duo wr bb (.int .i64 b.1) (.int .i64 b.2)
  ne : v.ownBlock ≠ some bb
  le : w.heap.size ≤ bb
theorem AI.up {w wr w' : World} {v : Value} {k bb : Nat} {b : Int × Int} (h : AI w wr v k bb b) (hb : Below wr.heap.size wr w') : AI w w' v k bb b := ⟨h.ov.up hb, h.duo.up hb, h.ne, h.le⟩
theorem AI.put {w wr : World} {v : Value} {k bb : Nat} {b : Int × Int} (h : AI w wr v k bb b) (x y : Int) : AI w ((wr.setCell ⟨bb, 0, none⟩ (.int .i64 x)).setCell ⟨bb, 1, none⟩ (.int .i64 y)) v k bb (x, y) :=
  ⟨⟨(h.ov.bel.set h.le _ _).set h.le _ _, Go.ownsRow_setCell_other (Go.ownsRow_setCell_other h.ov.own h.ne _) h.ne _⟩, h.duo.store, h.ne, h.le⟩
theorem AI.start {w wr : World} {v : Value} {k : Nat} (h : OV w wr v k) (x y : Int) : AI w (wr.alloc (.cells #[.int .i64 x, .int .i64 y] 23)) v k wr.heap.size (x, y) :=
  ⟨h.up ((Below.refl _ _).alloc (Nat.le_refl _) _), Duo.new _ _ _ _ _ rfl, fun e => absurd (h.own.lt _ e).2 (by omega), h.bel.size⟩
end Go.Proofs.YtoobfcekgfgipaaDoor
