/- Accidentals: what is displayed, as a function. -/
import Derived.Test.YthmdjpfjaojihaaDoorAe
import Derived.Laws.MakeOwn
namespace Go.Proofs.YthmdjpfjaojihaaDoor
open Go.RowKit
set_option linter.unusedVariables false
set_option linter.unusedSimpArgs false

/-- whether another note at the same tick and staff position has another alteration -/
def conB (L : List Nt) (k : Nat) : Bool := match L[k]? with
  | none => false
  | some m => L.any fun n => decide (clN m n)
theorem conB_iff {L : List Nt} {k : Nat} : conB L k = true ↔ ∃ q, clP L k q := by
  unfold conB
  constructor
  · intro h
    split at h
    · cases h
    · rename_i m hm
      rw [List.any_eq_true] at h
      obtain ⟨n, hn, hc⟩ := h
      obtain ⟨q, hq⟩ := List.mem_iff_getElem?.1 hn
      exact ⟨q, m, n, hm, hq, of_decide_eq_true hc⟩
  · rintro ⟨q, m, n, hm, hq, hc⟩
    rw [hm]
    exact List.any_eq_true.2 ⟨n, List.mem_of_getElem? hq, decide_eq_true hc⟩
def pxN (n : Nt) : Nat := (pxI n.s n.o).toNat
def updF (fr : Nat → Int) (i : Nat) (v : Int) : Nat → Int := fun j => if j = i then v else fr j
def needB (c : Bool) (fr : Nat → Int) (n : Nt) : Bool := c || (!n.h && decide (n.a ≠ fr (pxN n)))
def markM (c : Bool) (fr : Nat → Int) (n : Nt) : Int × Bool := if (needB c fr n || decide (n.v ≠ 0)) = true then (n.a + 3, !needB c fr n && decide (n.v = 2)) else (0, false)
def markF (c : Bool) (fr : Nat → Int) (n : Nt) : Nat → Int := if (needB c fr n || decide (n.v ≠ 0)) = true then updF fr (pxN n) n.a else fr
/-- the alterations in force behind the first k notes -/
def disF (L : List Nt) (f : Int) : Nat → Nat → Int
  | 0 => frI f
  | k + 1 => match L[k]? with
    | none => disF L f k
    | some n => markF (conB L k) (disF L f k) n
def disM (L : List Nt) (f : Int) (k : Nat) : Int × Bool := match L[k]? with
  | none => (0, false)
  | some n => markM (conB L k) (disF L f k) n
theorem disF_at {L : List Nt} {f : Int} {k : Nat} {n : Nt} (h : L[k]? = some n) : disF L f (k + 1) = markF (conB L k) (disF L f k) n := by
  show (match L[k]? with | none => disF L f k | some n => markF (conB L k) (disF L f k) n) = _
  rw [h]
theorem disM_at {L : List Nt} {f : Int} {k : Nat} {n : Nt} (h : L[k]? = some n) : disM L f k = markM (conB L k) (disF L f k) n := by
  unfold disM
  rw [h]
/-- n marks of a block -/
def FilM (w : World) (b n : Nat) (ms : Nat → Int × Bool) : Prop := ∀ j : Nat, j < n → (w.cell? ⟨b, j * 2, none⟩ = some (.int .i64 (ms j).1) ∧ w.cell? ⟨b, j * 2 + 1, none⟩ = some (.bool (ms j).2)) ∧ w.frozen? ⟨b, j * 2, none⟩ = false ∧ w.frozen? ⟨b, j * 2 + 1, none⟩ = false
theorem FilM.up {w w' : World} {b n : Nat} {ms : Nat → Int × Bool} (h : FilM w b n ms) (hb : Below w.heap.size w w') : FilM w' b n ms := fun j hj => by
  obtain ⟨⟨h0, h1⟩, h2, h3⟩ := h j hj
  exact ⟨⟨cell_up hb h0, cell_up hb h1⟩, (hb.frozen (p := ⟨b, j * 2, none⟩) (lt_of_cell h0)).trans h2, (hb.frozen (p := ⟨b, j * 2 + 1, none⟩) (lt_of_cell h1)).trans h3⟩
theorem FilM.eq {w : World} {b n : Nat} {ms us : Nat → Int × Bool} (h : FilM w b n ms) (e : ∀ j, j < n → ms j = us j) : FilM w b n us := fun j hj => by rw [← e j hj]; exact h j hj
theorem FilM.set {w : World} {b n : Nat} {ms : Nat → Int × Bool} (h : FilM w b n ms) (i : Nat) (hi : i < n) (x : Int) (y : Bool) : FilM ((w.setCell ⟨b, i * 2, none⟩ (.int .i64 x)).setCell ⟨b, i * 2 + 1, none⟩ (.bool y)) b n (fun j => if j = i then (x, y) else ms j) := by
  intro j hj
  obtain ⟨⟨h0, h1⟩, h2, h3⟩ := h i hi
  obtain ⟨⟨g0, g1⟩, g2, g3⟩ := h j hj
  by_cases e : j = i
  · subst e
    refine ⟨⟨?_, ?_⟩, ?_, ?_⟩ <;> simp [go_sem, *]
  · have e1 : i * 2 ≠ j * 2 := by omega
    have e2 : i * 2 ≠ j * 2 + 1 := by omega
    have e3 : i * 2 + 1 ≠ j * 2 := by omega
    have e4 : i ≠ j := by omega
    have e5 : ¬ j = i := e
    refine ⟨⟨?_, ?_⟩, ?_, ?_⟩ <;> simp [go_sem, *]
theorem FilM.other {w : World} {b c i n : Nat} {ms : Nat → Int × Bool} {u : Value} (h : FilM w b n ms) (hn : c ≠ b) : FilM (w.setCell ⟨c, i, none⟩ u) b n ms := fun j hj => by
  obtain ⟨⟨h0, h1⟩, h2, h3⟩ := h j hj
  have hn' : b ≠ c := fun e => hn e.symm
  refine ⟨⟨?_, ?_⟩, ?_, ?_⟩ <;> simp [go_sem, *]
theorem FilB.other {w : World} {b c i n : Nat} {vs : Nat → Bool} {u : Value} (h : FilB w b n vs) (hn : c ≠ b) : FilB (w.setCell ⟨c, i, none⟩ u) b n vs := fun j hj => by
  obtain ⟨h1, h2⟩ := h j hj
  have hn' : b ≠ c := fun e => hn e.symm
  exact ⟨by simp [go_sem, *], by simp [go_sem, *]⟩
theorem Fil.asideN {w : World} {b c n : Nat} {vs : Nat → Int} {L : List Value} (h : Fil w b n vs) (hn : b < c) : Fil (w.setCells c 0 L) b n vs := fun j hj => by
  obtain ⟨h1, h2⟩ := h j hj
  refine ⟨?_, by rw [World.frozen?_setCells]; exact h2⟩
  have hb := below_setCells (B := b + 1) hn w L 0 w (Below.refl _ _)
  exact (hb.cell (p := ⟨b, j, none⟩) (Nat.lt_succ_self _)).trans h1
theorem FilM.next {w : World} {mk n k : Nat} {L : List Nt} {f : Int} {x : Int} {y : Bool} (h : FilM w mk n (fun j => if j < k then disM L f j else (0, false))) (hk : k < n) (hm : disM L f k = (x, y)) :
    FilM ((w.setCell ⟨mk, k * 2, none⟩ (.int .i64 x)).setCell ⟨mk, k * 2 + 1, none⟩ (.bool y)) mk n (fun j => if j < k + 1 then disM L f j else (0, false)) :=
  (h.set k hk x y).eq (fun j _ => by
    by_cases e : j = k
    · subst e
      simp [hm]
    · by_cases h1 : j < k
      · simp [e, h1, show j < k + 1 by omega]
      · simp [e, h1, show ¬ j < k + 1 by omega])
theorem FilM.stay {w : World} {mk n k : Nat} {L : List Nt} {f : Int} (h : FilM w mk n (fun j => if j < k then disM L f j else (0, false))) (hm : disM L f k = (0, false)) :
    FilM w mk n (fun j => if j < k + 1 then disM L f j else (0, false)) :=
  h.eq (fun j _ => by
    by_cases e : j = k
    · subst e
      simp [hm]
    · by_cases h1 : j < k
      · simp [h1, show j < k + 1 by omega]
      · simp [h1, show ¬ j < k + 1 by omega])
theorem infoM : (Tryd.prog.info? 43).map (fun i => (i.zero, i.size, i.bytes)) = some (some (.agg #[.int .i64 0, .bool false]), 2, 16) := by kernel_rfl
theorem make_mark (n : Nat) (hn : n ≤ 100000) (w : World) : (Instr.makeSlice 24 (.int .i64 (n : Int)) (.int .i64 (n : Int))).run Tryd.prog w = .ok (.slice (some ⟨w.heap.size, 0, none⟩) n n) (w.alloc (.cells (madeCells #[.int .i64 0, .bool false] (n * 2)) 43)) := by
  obtain ⟨i, hi, hzz⟩ := Option.map_eq_some_iff.1 infoM
  simp only [Prod.mk.injEq] at hzz
  obtain ⟨hz, hs, hb⟩ := hzz
  have hr := run_make (P := Tryd.prog) w 24 43 i _ Tryd.underlying24 hi hz .i64 .i64 n n (by omega) (Int.le_refl _) (by rw [hb]; omega) (by omega)
  simp only [Int.toNat_natCast, hs] at hr
  exact hr
theorem filM_made (w : World) (n : Nat) (t : TypeId) (g : Nat) (hg : g = w.heap.size) : FilM (w.alloc (.cells (madeCells #[.int .i64 0, .bool false] (n * 2)) t)) g n (fun _ => (0, false)) := by
  intro j hj
  subst hg
  have j0 : j * 2 < n * 2 := by omega
  have j1 : j * 2 + 1 < n * 2 := by omega
  refine ⟨⟨tab_new w _ t _ rfl (j * 2) _ ?_, tab_new w _ t _ rfl (j * 2 + 1) _ ?_⟩, by simp [go_sem], by simp [go_sem]⟩
  · simp [madeCells, j0]
  · have : (j * 2 + 1) % 2 = 1 := by omega
    simp [madeCells, j1, this]
end Go.Proofs.YthmdjpfjaojihaaDoor
