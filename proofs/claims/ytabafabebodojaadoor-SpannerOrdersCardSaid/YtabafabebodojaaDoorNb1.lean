/- Spans: lists in another order; rows that are written. -/
import Derived.Test.YtabafabebodojaaDoorSt
import Derived.Test.YtabafabebodojaaDoorSu
import Derived.Test.YtabafabebodojaaDoorNa1
import Derived.Test.YtabafabebodojaaDoorQv
import Derived.Test.YtabafabebodojaaDoorNb0
namespace Go.Proofs.YtabafabebodojaaDoor
open Go Go.RowKit
set_option linter.unusedVariables false
set_option linter.unusedSimpArgs false

/-- a list of spans that Check accepts, whatever its order -/
def OKs (f : Nat → Sp) (n : Nat) : Prop := (∀ i, i < n → proper (f i) = 0) ∧ ∀ i, i < n → ∀ j, j < n → i ≠ j → cf (f i) (f j) = false
theorem okz {f : Nat → Sp} {n : Nat} : (fst f n 0).2 = 0 ↔ OKs f n := by
  constructor
  · intro h
    have h' : fst f n 0 = ((fst f n 0).1, 0) := by rw [← h]
    have hz := er_all h'
    have hc := cf_none hz
    refine ⟨fun i hi => (er_ok (hz i hi)).1, fun i hi j hj hne => ?_⟩
    rcases Nat.lt_trichotomy i j with h1 | h1 | h1
    · rw [cf_comm]; exact hc j hj i h1
    · exact absurd h1 hne
    · exact hc i hi j h1
  · rintro ⟨h1, h2⟩
    rw [fst_ok n 0 (fun k _ hk => er_zero (h1 k (by omega)) (proper_isK (h1 k (by omega))) (fun j hj => h2 k (by omega) j (by omega) (by omega)))]
def swp (f : Nat → Sp) (i k : Nat) : Nat → Sp := fun t => if t = i then f k else if t = k then f i else f t
/-- the place that a place takes its span from -/
def src (i k t : Nat) : Nat := if t = i then k else if t = k then i else t
theorem swp_src (f : Nat → Sp) (i k t : Nat) : swp f i k t = f (src i k t) := by
  unfold swp src
  split
  · rfl
  · split <;> rfl
theorem src_lt {n i k t : Nat} (hi : i < n) (hk : k < n) (ht : t < n) : src i k t < n := by unfold src; split <;> (try split) <;> omega
theorem src_inj {i k t u : Nat} (h : src i k t = src i k u) : t = u := by
  unfold src at h
  repeat' split at h
  all_goals omega
theorem OKs.swap {f : Nat → Sp} {n i k : Nat} (h : OKs f n) (hi : i < n) (hk : k < n) : OKs (swp f i k) n := by
  obtain ⟨h1, h2⟩ := h
  refine ⟨fun t ht => ?_, fun t ht u hu hne => ?_⟩
  · rw [swp_src]; exact h1 _ (src_lt hi hk ht)
  · rw [swp_src, swp_src]; exact h2 _ (src_lt hi hk ht) _ (src_lt hi hk hu) (fun e => hne (src_inj e))
theorem swp_swp (f : Nat → Sp) (i k : Nat) : swp (swp f i k) i k = f := funext fun t => by
  rw [swp_src, swp_src]
  congr 1
  unfold src
  repeat' split
  all_goals omega
theorem OKs.swap_iff {f : Nat → Sp} {n i k : Nat} (hi : i < n) (hk : k < n) : OKs (swp f i k) n ↔ OKs f n :=
  ⟨fun h => by have := h.swap hi hk; rwa [swp_swp] at this, fun h => h.swap hi hk⟩
/-- a row of spans that the call may write -/
structure SpW (w : World) (g n : Nat) (f : Nat → Sp) : Prop where
  at_ : ∀ k, k < n → w.rangeAt g (k * 9) (spc (f k))
  wr : ∀ k, k < n → w.there g (k * 9) 9
theorem SpW.up {w w' : World} {g n : Nat} {f : Nat → Sp} (h : SpW w g n f) (hb : Below w.heap.size w w') (hg : g < w.heap.size) : SpW w' g n f :=
  ⟨fun k hk j v hj => (hb.cell (p := ⟨g, k * 9 + j, none⟩) hg).trans (h.at_ k hk j v hj), fun k hk j hj => by
    obtain ⟨h1, h2⟩ := h.wr k hk j hj
    exact ⟨by rw [hb.cell (p := ⟨g, k * 9 + j, none⟩) hg]; exact h1, by rw [hb.frozen (p := ⟨g, k * 9 + j, none⟩) hg]; exact h2⟩⟩
theorem SpW.swap {w : World} {g n : Nat} {f : Nat → Sp} (h : SpW w g n f) {i k : Nat} (hi : i < n) (hk : k < n) :
    SpW ((w.setCells g (i * 9) (spc (f k))).setCells g (k * 9) (spc (f i))) g n (swp f i k) := by
  have len : ∀ s : Sp, (spc s).length = 9 := fun s => rfl
  refine ⟨fun t ht => ?_, fun t ht => World.there_setCells (World.there_setCells (h.wr t ht) _ _ _) _ _ _⟩
  have w1 : (w.setCells g (i * 9) (spc (f k))).there g (k * 9) (spc (f i)).length := World.there_setCells (h.wr k hk) _ _ _
  rw [swp_src]
  unfold src
  by_cases e : t = i
  · rw [if_pos e]
    by_cases e2 : k = i
    · subst e e2
      exact World.rangeAt_setCells_same _ _ _ _ w1
    · subst e
      exact World.rangeAt_setCells_apart (World.rangeAt_setCells_same _ _ _ _ (h.wr t hi)) _ _ _ (by rw [len, len]; omega)
  · rw [if_neg e]
    by_cases e2 : t = k
    · rw [if_pos e2]
      subst e2
      exact World.rangeAt_setCells_same _ _ _ _ w1
    · rw [if_neg e2]
      exact World.rangeAt_setCells_apart (World.rangeAt_setCells_apart (h.at_ t ht) _ _ _ (by rw [len, len]; omega)) _ _ _ (by rw [len, len]; omega)
theorem SpW.sp {w : World} {g n : Nat} {f : Nat → Sp} (h : SpW w g n f) : SpAt w (some ⟨g, 0, none⟩) n f := fun k hk => by
  have a : ∀ j v, (spc (f k))[j]? = some v → w.cell? ⟨g, 0 + k * 9 + j, none⟩ = some v := fun j v hj => by
    rw [show 0 + k * 9 + j = k * 9 + j by omega]; exact h.at_ k hk j v hj
  exact ⟨g, 0, rfl, a 0 _ rfl, a 1 _ rfl, a 2 _ rfl, a 3 _ rfl, a 4 _ rfl, a 5 _ rfl, a 6 _ rfl, a 7 _ rfl, a 8 _ rfl⟩
theorem SpW.of_row {w : World} {base : Nat} {e : TypeId} {v : Value} {n : Nat} {f : Nat → Sp} (h : w.ownsRow base e 9 v n (spsL f n)) (hn : 0 < n) : ∃ g cap, v = .slice (some ⟨g, 0, none⟩) n cap ∧ base ≤ g ∧ g < w.heap.size ∧ SpW w g n f := by
  have h2 := h.2
  rcases h2 with ⟨_, h0⟩ | ⟨g, cap, cur, rfl, hb, hh, hc, _, hsz, ht⟩
  · omega
  · have hg : g < w.heap.size := (Array.getElem?_eq_some_iff.1 hh).1
    refine ⟨g, cap, rfl, hb, hg, fun k hk j v hj => ?_, fun k hk j hj => ?_⟩
    · have hL : ((List.range n).map f)[k]? = some (f k) := by simp [hk]
      have := h.cells (g := g) rfl (k * 9 + j) v (spc_at _ k j _ v hL hj)
      rw [Addr.add_mid] at this
      rw [show k * 9 + j = 0 + (k * 9 + j) by omega]
      exact this
    · have hlt : k * 9 + j < cur.size := by
        rw [hsz]
        have : (k + 1) * 9 ≤ cap * 9 := Nat.mul_le_mul_right _ (by omega)
        omega
      exact ⟨by simp [World.cell?, hh, hlt], by simp [World.frozen?, hh]⟩
/-- a slice of bytes -/
def U8At (w : World) (ad : Option Addr) (n : Nat) (z : Nat → Int) : Prop := ∀ k, k < n → ∃ b off, ad = some ⟨b, off, none⟩ ∧ w.cell? ⟨b, off + k, none⟩ = some (.int .u8 (z k)) ∧ 0 ≤ z k ∧ z k ≤ 255
theorem U8At.up {w w' : World} {ad : Option Addr} {n : Nat} {z : Nat → Int} (h : U8At w ad n z) (hb : Below w.heap.size w w') : U8At w' ad n z := fun k hk => by
  obtain ⟨b, off, h0, h1, h2, h3⟩ := h k hk
  exact ⟨b, off, h0, cell_up hb h1, h2, h3⟩
namespace Qt
/-- two operations in either order, then the others one behind the other -/
theorem twoTail {P : Program} {ops : Array Oper} {Q : Exit → Act → World → Prop} {i j : Nat} {oi oj : Oper} {rest : List (Nat × Oper)} {listed : Array Bool} {a : Act} {w : World} (hi : ops[i]? = some oi) (hj : ops[j]? = some oj)
    (hr : ∀ p, p ∈ rest → ops[p.1]? = some p.2) (hB : decide (Region.ready .any ops listed = [i, j]) = true) (h1 : seqL ops (j :: rest.map (·.1)) (listed.setIfInBounds i true) = true) (h2 : seqL ops (i :: rest.map (·.1)) (listed.setIfInBounds j true) = true)
    (k1 : wpList P ops Q (oi :: oj :: rest.map (·.2)) a w) (k2 : wpList P ops Q (oj :: oi :: rest.map (·.2)) a w) : wpAny P .any ops Q (rest.length + 2) listed a w := by
  refine wpAny_all (of_decide_eq_true hB) (by simp) fun t ht => ?_
  simp only [List.mem_cons, List.not_mem_nil, or_false] at ht
  rcases ht with rfl | rfl
  · have hw : wpOp P ops Q t (wpList P ops Q (oj :: rest.map (·.2))) a w := by unfold wpOp; simp only [hi]; exact k1
    exact wpOp_mono (fun a' w' h' => listTail ((j, oj) :: rest) _ a' w' (fun p hp => by
      rcases List.mem_cons.1 hp with rfl | hp
      · exact hj
      · exact hr p hp) h1 h') hw
  · have hw : wpOp P ops Q t (wpList P ops Q (oi :: rest.map (·.2))) a w := by unfold wpOp; simp only [hj]; exact k2
    exact wpOp_mono (fun a' w' h' => listTail ((i, oi) :: rest) _ a' w' (fun p hp => by
      rcases List.mem_cons.1 hp with rfl | hp
      · exact hi
      · exact hr p hp) h2 h') hw
theorem six {P : Program} {l : List Oper} {Q : Exit → Act → World → Prop} (i j k m k2 m2 : Nat) {listed : Array Bool} {a : Act} {w : World} (hi : i < l.length) (hj : j < l.length) (hk : k < l.length) (hm : m < l.length) (hk2 : k2 < l.length) (hm2 : m2 < l.length)
    (hB : decide (Region.ready .any l.toArray listed = [i, j]) = true) (h1 : seqL l.toArray [j, k, m, k2, m2] (listed.setIfInBounds i true) = true) (h2 : seqL l.toArray [i, k, m, k2, m2] (listed.setIfInBounds j true) = true)
    (kk : ∀ oi oj ok om ok2 om2, l[i]? = some oi → l[j]? = some oj → l[k]? = some ok → l[m]? = some om → l[k2]? = some ok2 → l[m2]? = some om2 → wpList P l.toArray Q [oi, oj, ok, om, ok2, om2] a w ∧ wpList P l.toArray Q [oj, oi, ok, om, ok2, om2] a w) : wpAny P .any l.toArray Q 6 listed a w := by
  have := kk _ _ _ _ _ _ (List.getElem?_eq_getElem hi) (List.getElem?_eq_getElem hj) (List.getElem?_eq_getElem hk) (List.getElem?_eq_getElem hm) (List.getElem?_eq_getElem hk2) (List.getElem?_eq_getElem hm2)
  exact twoTail (rest := [(k, l[k]), (m, l[m]), (k2, l[k2]), (m2, l[m2])]) (by simp [hi]) (by simp [hj]) (fun p hp => by
    simp only [List.mem_cons, List.not_mem_nil, or_false] at hp
    rcases hp with rfl | rfl | rfl | rfl
    · simp [hk]
    · simp [hm]
    · simp [hk2]
    · simp [hm2]) hB h1 h2 this.1 this.2
theorem wpList_val {P : Program} {ops : Array Oper} {Q : Exit → Act → World → Prop} {o : Oper} {rest : List Oper} {a : Act} {w : World} {v : Value} (hg : o.guard = none) (hr : (execOp a.eval o).run P w = .ok (.value v) w) (h : wpList P ops Q rest (a.put o.dst v) w) : wpList P ops Q (o :: rest) a w := by
  refine wpList_plain hg fun K hK => ?_
  unfold Oper.wp
  rw [hr]
  exact hK _ _ h
end Qt
end Go.Proofs.YtabafabebodojaaDoor
