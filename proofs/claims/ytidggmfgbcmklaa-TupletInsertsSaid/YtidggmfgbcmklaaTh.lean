/- Tuplets: the stack of open tuplets. -/
import Derived.Test.YtidggmfgbcmklaaTg
import Derived.Laws.AppendOwn
import Derived.OneCell
namespace Go.Proofs.Ytidggmfgbcmklaa
open Go.RowKit
set_option linter.unusedVariables false
set_option linter.unusedSimpArgs false

/-- below block B nothing but block c has turned -/
structure Exc (c B : Nat) (w w' : World) : Prop where
  lt : c < B
  low : Below c w w'
  mid : ∀ b, c < b → b < B → w'.heap[b]? = w.heap[b]?
  big : B ≤ w'.heap.size
theorem Exc.refl {c B : Nat} {w : World} (hc : c < B) (h : B ≤ w.heap.size) : Exc c B w w := ⟨hc, Below.refl _ _, fun _ _ _ => rfl, h⟩
theorem Exc.up {c B : Nat} {w W w' : World} (h : Exc c B w W) (hb : Below W.heap.size W w') : Exc c B w w' :=
  ⟨h.lt, h.low.trans (hb.mono (by have := h.big; have := h.lt; omega)), fun b h1 h2 => (hb.block b (by have := h.big; omega)).trans (h.mid b h1 h2), Nat.le_trans h.big hb.size⟩
theorem Exc.set {c B : Nat} {w W : World} (h : Exc c B w W) (v : Value) : Exc c B w (W.setCell ⟨c, 0, none⟩ v) :=
  ⟨h.lt, h.low.setCell (p := ⟨c, 0, none⟩) (Nat.le_refl _) v, fun b h1 h2 => (Below.heap_setCell _ _ _ _ (by show b ≠ c; omega)).trans (h.mid b h1 h2), by have := h.big; simpa [World.setCell] using this⟩
theorem Exc.grown {c B : Nat} {w W w' : World} {row : Option Nat} (h : Exc c B w W) (hg : W.grownBy w' row) (hr : ∀ k, row = some k → B ≤ k) : Exc c B w w' :=
  ⟨h.lt, h.low.grown hg (by have := h.big; have := h.lt; omega) (fun k hk => by have := hr k hk; have := h.lt; omega), fun b h1 h2 => (hg.block b (by have := h.big; omega) (fun e => by have := hr b e.symm; omega)).trans (h.mid b h1 h2), Nat.le_trans h.big hg.size⟩
theorem Exc.bel {c B : Nat} {w0 w W : World} (h : Exc c B w W) (h0 : Bel w0 w) (hc : w0.heap.size ≤ c) : Bel w0 W := Below.trans h0 (h.low.mono hc)
theorem Uno.set {w : World} {b : Nat} {x u : Value} (h : Uno w b x) : Uno (w.setCell ⟨b, 0, none⟩ u) b u := by
  obtain ⟨h0, h1, h2⟩ := h
  exact ⟨by simpa [go_sem] using h0, by simp [go_sem, *], by simp [go_sem, *]⟩
theorem Uno.other {w : World} {b c i : Nat} {x u : Value} (h : Uno w b x) (hn : c ≠ b) : Uno (w.setCell ⟨c, i, none⟩ u) b x := by
  obtain ⟨h0, h1, h2⟩ := h
  have hn' : b ≠ c := fun e => hn e.symm
  exact ⟨by simpa [go_sem] using h0, by simp [go_sem, *], by simp [go_sem, *]⟩
theorem Uno.block {w w' : World} {b : Nat} {x : Value} (h : Uno w b x) (hs : w.heap.size ≤ w'.heap.size) (hb : w'.heap[b]? = w.heap[b]?) : Uno w' b x :=
  ⟨Nat.lt_of_lt_of_le h.lt hs, (World.cell?_of_block (w := w) (a := ⟨b, 0, none⟩) hb).trans h.c0, (World.frozen?_of_block (w := w) (a := ⟨b, 0, none⟩) hb).trans h.f0⟩
theorem Fil.block {w w' : World} {b n : Nat} {vs : Nat → Int} (h : Fil w b n vs) (hb : w'.heap[b]? = w.heap[b]?) : Fil w' b n vs := fun j hj =>
  ⟨(World.cell?_of_block (w := w) (a := ⟨b, j, none⟩) hb).trans (h j hj).1, (World.frozen?_of_block (w := w) (a := ⟨b, j, none⟩) hb).trans (h j hj).2⟩
/-- what the list of open tuplets is, as values -/
def nats (S : List Nat) : List Value := S.map fun (j : Nat) => Value.int .i64 (j : Int)
def OwnN (w : World) (base : Nat) (v : Value) (m : Nat) (S : List Nat) : Prop := w.ownsRow base 3 1 v m (nats S)
theorem grown_of_below {w w' : World} (h : Below w.heap.size w w') : w.grownBy w' none := ⟨h.os, h.tape, h.output, h.size, fun k hk _ => h.block k hk⟩
theorem OwnN.up {w w' : World} {base m : Nat} {v : Value} {S : List Nat} (h : OwnN w base v m S) (hb : Below w.heap.size w w') : OwnN w' base v m S := World.ownsRow.kept h (grown_of_below hb) (by cases v.ownBlock <;> simp)
/-- the captured variable holds the stack; its row lies from block base on -/
structure St (w : World) (b1 base : Nat) (S : List Nat) : Prop where
  lt : b1 < base
  bs : base ≤ w.heap.size
  st : ∃ v, Uno w b1 v ∧ w.ownsRow base 3 1 v S.length (nats S)
theorem St.up {w w' : World} {b1 base : Nat} {S : List Nat} (h : St w b1 base S) (hb : Below w.heap.size w w') : St w' b1 base S := by
  obtain ⟨v, hv, ho⟩ := h.st
  exact ⟨h.lt, Nat.le_trans h.bs hb.size, v, hv.up hb, ho.kept (grown_of_below hb) (by cases v.ownBlock <;> simp)⟩
/-- the cells of the stack's row -/
def RowC (w : World) (g : Nat) (S : List Nat) : Prop := ∀ j x, S[j]? = some x → w.cell? ⟨g, j, none⟩ = some (.int .i64 ((x : Nat) : Int))
theorem RowC.up {w w' : World} {g : Nat} {S : List Nat} (h : RowC w g S) (hb : Below w.heap.size w w') : RowC w' g S := fun j x hx => cell_up hb (h j x hx)
theorem St.cons {w : World} {b1 base m : Nat} {S : List Nat} (h : St w b1 base S) (hm : S.length = m + 1) :
    ∃ g cap, Uno w b1 (.slice (some ⟨g, 0, none⟩) (m + 1) cap) ∧ m + 1 ≤ cap ∧ base ≤ g ∧ RowC w g S ∧ OwnN w base (.slice (some ⟨g, 0, none⟩) (m + 1) cap) (m + 1) S := by
  obtain ⟨v, hv, ho⟩ := h.st
  have ho2 := ho
  obtain ⟨h1, h2⟩ := ho
  rcases h2 with ⟨_, h0⟩ | ⟨g, cap, cur, rfl, hg, hc, hn, hx, hs, ht⟩
  · omega
  · rw [hm] at hv hn ht
    refine ⟨g, cap, hv, hn, hg, fun j x hj => ?_, by rw [hm] at ho2; exact ho2⟩
    have hjl : j < S.length := (List.getElem?_eq_some_iff.1 hj).1
    have : (nats S)[j]? = some (.int .i64 (x : Int)) := by simp [nats, hj]
    rw [← ht, List.getElem?_take] at this
    split at this
    · simp at this
      simp [World.cell?, hc, this]
    · cases this
theorem St.nil {w : World} {b1 base : Nat} {S : List Nat} (h : St w b1 base S) (hm : S.length = 0) :
    ∃ ao cap, Uno w b1 (.slice ao 0 cap) ∧ OwnN w base (.slice ao 0 cap) 0 S := by
  obtain ⟨v, hv, ho⟩ := h.st
  rw [hm] at ho
  have ho2 := ho
  obtain ⟨h1, h2⟩ := ho
  rcases h2 with ⟨rfl, h0⟩ | ⟨g, cap, cur, rfl, r⟩
  · exact ⟨none, 0, hv, ho2⟩
  · exact ⟨some ⟨g, 0, none⟩, cap, hv, ho2⟩
theorem own_pop {w : World} {base g cap m : Nat} {S : List Nat} (h : w.ownsRow base 3 1 (.slice (some ⟨g, 0, none⟩) (m + 1) cap) (m + 1) (nats S)) (hm : S.length = m + 1) :
    w.ownsRow base 3 1 (.slice (some ⟨g, 0, none⟩) m cap) (S.take m).length (nats (S.take m)) := by
  obtain ⟨h1, h2⟩ := h
  have hl : (S.take m).length = m := by rw [List.length_take]; omega
  refine ⟨by simp [nats], .inr ?_⟩
  rcases h2 with ⟨h0, _⟩ | ⟨g', cap', cur, e, hg, hc, hn, hx, hs, ht⟩
  · cases h0
  · cases e
    refine ⟨g, cap, cur, by rw [hl], hg, hc, by omega, hx, hs, ?_⟩
    rw [hl]
    rw [show nats (S.take m) = (nats S).take m from List.map_take]
    rw [← ht, List.take_take, Nat.mul_one, Nat.mul_one, Nat.min_eq_left (by omega)]
theorem St.pop {w : World} {b1 base g cap m : Nat} {S : List Nat} (hlt : b1 < base) (hbs : base ≤ w.heap.size) (hm : S.length = m + 1) (hv : Uno w b1 (.slice (some ⟨g, 0, none⟩) (m + 1) cap)) (ho : OwnN w base (.slice (some ⟨g, 0, none⟩) (m + 1) cap) (m + 1) S) :
    St (w.setCell ⟨b1, 0, none⟩ (.slice (some ⟨g, 0, none⟩) m cap)) b1 base (S.take m) :=
  ⟨hlt, by simpa [World.setCell] using hbs, _, hv.set, ownsRow_setCell_below (own_pop ho hm) hlt _⟩
theorem infoI : (Try.prog.info? 3).map (fun i => (i.zero, i.size, i.bytes)) = some (some (.int .i64 0), 1, 8) := by kernel_rfl
theorem cell1_new (w : World) (x : Value) (t : TypeId) (b : Nat) (hb : b = w.heap.size) : ∀ (j : Nat) (u : Value), [x][j]? = some u → (w.alloc (.cells #[x] t)).cell? ((⟨b, 0, none⟩ : Addr).add j) = some u := by
  subst hb
  intro j u hj
  match j, hj with
  | 0, hj => simp at hj; subst hj; simp [Addr.add]
theorem push_var {w w' : World} {w0o : Obj} {b1 base m : Nat} {S : List Nat} {v : Value} (hlt : b1 < base) (hv : Uno w b1 v) (ho : OwnN w base v m S) (hg : (w.alloc w0o).grownBy w' v.ownBlock) : Uno w' b1 v := by
  have hs : w.heap.size ≤ w'.heap.size := Nat.le_trans (by simp) hg.size
  have hr : ∀ k, v.ownBlock = some k → base ≤ k := fun k hk => (World.ownsRow.lt ho k hk).1
  exact hv.block hs ((hg.block b1 (by have := hv.lt; simp; omega) (fun e => by have := hr b1 e.symm; omega)).trans (Below.heap_alloc _ _ _ hv.lt))
theorem St.push {w w' : World} {w0o : Obj} {b1 base : Nat} {S : List Nat} {v v' : Value} {i m : Nat} (hlt : b1 < base) (hbs : base ≤ w.heap.size) (hv : Uno w b1 v) (hm : S.length = m) (ho : OwnN w base v m S) (hg : (w.alloc w0o).grownBy w' v.ownBlock)
    (ho2 : w'.ownsRow base 3 1 v' (m + 1) (nats S ++ [.int .i64 (i : Int)])) : St (w'.setCell ⟨b1, 0, none⟩ v') b1 base (S ++ [i]) := by
  have hs : w.heap.size ≤ w'.heap.size := Nat.le_trans (by simp) hg.size
  refine ⟨hlt, by simpa [World.setCell] using (by omega : base ≤ w'.heap.size), v', (push_var hlt hv ho hg).set, ownsRow_setCell_below ?_ hlt _⟩
  rw [List.length_append, hm, show nats (S ++ [i]) = nats S ++ [.int .i64 (i : Int)] by simp [nats]]
  exact ho2
set_option maxRecDepth 100000 in
theorem nesting_any (ad : Option Addr) (n cap : Nat) (w : World) :
    Calls Try.prog 46 #[.slice ad n cap] w fun e w' => e = .returned (.func (.func 57) #[] #[.pointer (some ⟨w.heap.size + 1, 0, none⟩), .pointer (some ⟨w.heap.size, 0, none⟩)]) ∧ w' = (w.alloc (.cells #[.slice ad n cap] 22)).alloc (.cells #[.slice none 0 0] 40) := by
  have hmf : ∀ (fn : Fn) (first cap : Array Value) (w : World), (Instr.makeFunc fn first cap).run Try.prog w = .ok (.func fn first cap) w := fun _ _ _ _ => rfl
  go_enter Try.func46, Try.ntmps46
  go_wp2_with fail
  go_ret
  exact ⟨rfl, rfl⟩
end Go.Proofs.Ytidggmfgbcmklaa
