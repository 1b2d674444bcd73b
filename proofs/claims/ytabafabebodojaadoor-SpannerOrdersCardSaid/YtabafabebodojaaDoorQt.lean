/- A region whose order is left open, whose first n operations only read or call what leaves the world in a class C, and whose other operations come last, one behind the other: one walk in the order of the text. -/
import Derived.StillTail
import Derived.Deep.Quiet
import Derived.Below
namespace Go.Proofs.YtabafabebodojaaDoor.Qt
open Go Go.RowKit
section
variable {P : Program} {ops : Array Oper} {C : World → Prop} {n : Nat} {L : Array Bool → Act → Prop}

/-- Whatever order the first operations come in, f of them lead to L. -/
def Heads (P : Program) (ops : Array Oper) (C : World → Prop) (n : Nat) (L : Array Bool → Act → Prop) : Nat → Array Bool → Act → Prop
  | 0, s, a => L s a
  | f + 1, s, a => Region.ready .any ops s ≠ [] ∧ ∀ i, i ∈ Region.ready .any ops s → i < n ∧ qOp P ops C i (Heads P ops C n L f (s.setIfInBounds i true)) a

theorem Heads.run {g : Nat} {Q : Exit → Act → World → Prop} (hL : ∀ s a w, C w → L s a → wpAny P .any ops Q g s a w) (f : Nat) :
    ∀ (s : Array Bool) (a : Act) (w : World), C w → Heads P ops C n L f s a → wpAny P .any ops Q (g + f) s a w := by
  induction f with
  | zero => intro s a w hw h; exact hL s a w hw h
  | succ f ih =>
    intro s a w hw h
    exact ⟨fun e => absurd e h.1, fun i hi => wpOp_of_qOp hw (fun b w' hw' hb => ih _ b w' hw' hb) (h.2 i hi).2⟩

/-- Operation i may be taken now, yields v, and disturbs none of those that need not wait for it. -/
structure Next (P : Program) (ops : Array Oper) (C : World → Prop) (i : Nat) (o : Oper) (v : Value) (s : Array Bool) (a : Act) : Prop where
  at_i : ops[i]? = some o
  ready : i ∈ Region.ready .any ops s
  yields : YieldsIn P ops C o v a
  apart : ∀ j p, ops[j]? = some p → j ≠ i → s.getD j true = false → (∀ e ∈ p.after, Region.binds .any e = true → e.on ≠ i) → o.apart ops p = true

/-- Whoever is ready beside i does not wait for i. -/
theorem Next.free {i : Nat} {o p : Oper} {v : Value} {s : Array Bool} {a : Act} (h : Next P ops C i o v s a) 
    (hall : ∀ e ∈ p.after, Region.binds .any e = true → s.getD e.on false = true) : ∀ e ∈ p.after, Region.binds .any e = true → e.on ≠ i := by
  intro e he hb hi
  have h1 := hall e he hb
  rw [hi, getD_both (mem_ready.1 h.ready).1] at h1
  cases h1

theorem Next.take {i : Nat} {o : Oper} {v : Value} (hsel : Region.noSelect ops = true) (hsink : Region.sinkB .any ops n = true) (hchain : Region.chainB .any ops n = true) (hn : n < ops.size) (hin : i < n)
    (hL : ∀ s a, L s a → ∀ j ∈ Region.ready .any ops s, n ≤ j) (f : Nat) :
    ∀ (s : Array Bool) (a : Act), HeadInv .any ops n s → Next P ops C i o v s a → Heads P ops C n L f (s.setIfInBounds i true) (a.put o.dst v) → Heads P ops C n L (f + 1) s a := by
  have notSel := Region.noSelect_spec hsel
  induction f with
  | zero =>
    intro s a inv nx H
    refine ⟨List.ne_nil_of_mem nx.ready, fun j hj => ?_⟩
    rcases Nat.lt_or_ge j n with hjn | hjn
    · by_cases hji : j = i
      · subst hji
        exact ⟨hin, nx.yields.qOp nx.at_i H⟩
      · exact absurd (hL _ _ H j (ready_mono hj hji)) (by omega)
    · exact absurd hj (tail_waits hsink hchain hn inv _ i rfl hin (mem_ready.1 nx.ready).1 j hjn)
  | succ f ih =>
    intro s a inv nx H
    refine ⟨List.ne_nil_of_mem nx.ready, fun j hj => ?_⟩
    rcases Nat.lt_or_ge j n with hjn | hjn
    · by_cases hji : j = i
      · subst hji
        exact ⟨hin, nx.yields.qOp nx.at_i H⟩
      · refine ⟨hjn, ?_⟩
        obtain ⟨jun, p, hp, hall⟩ := mem_ready.1 hj
        have swapped := qOp_put hp (nx.apart j p hp hji jun (nx.free hall)) (fun cs b => notSel i o cs b nx.at_i) (fun cs b => notSel j p cs b hp) nx.yields (H.2 j (ready_mono hj hji)).2
        refine qOp_mono (fun b hb => ih _ b (inv.set hj hjn) ⟨nx.at_i, ready_mono nx.ready (Ne.symm hji), hb.1, fun k q hq hki kun hno => nx.apart k q hq hki ?_ hno⟩ ?_) swapped
        · by_cases hjk : j = k
          · subst hjk; exact jun
          · rwa [getD_set_ne true hjk] at kun
        · rw [Array.setIfInBounds_comm _ _ hji]
          exact hb.2
    · exact absurd hj (tail_waits hsink hchain hn inv _ i rfl hin (mem_ready.1 nx.ready).1 j hjn)

theorem Heads.text {g : Nat} {K : Act → Prop} (hsel : Region.noSelect ops = true) (hsink : Region.sinkB .any ops n = true) (hchain : Region.chainB .any ops n = true) (hn : n < ops.size) (l : List Oper) :
    ∀ (k : Nat) (s : Array Bool) (a : Act), (∀ j, j < l.length → l[j]? = ops[k + j]?) → k + l.length = n → HeadInv .any ops n s → Region.lexHead .any ops g l.length k s = true → wpQuiet P ops C K l a →
    Heads P ops C n (fun s' a' => Region.seqB .any ops g n s' = true ∧ K a') l.length s a := by
  induction l with
  | nil =>
    intro k s a _ hk _ hB h
    obtain rfl : k = n := by simpa using hk
    exact ⟨by simpa [Region.lexHead] using hB, h⟩
  | cons o l ih =>
    intro k s a hl hk inv hB h
    simp only [List.length_cons, Region.lexHead, Bool.and_eq_true, List.contains_iff_mem] at hB
    simp only [List.length_cons] at hk
    have at_k : ops[k]? = some o := by simpa using (hl 0 (by simp)).symm
    have hq : qOp P ops C k (wpQuiet P ops C K l) a := by
      unfold qOp
      simp only [at_k]
      exact h
    obtain ⟨v, hy, hK⟩ := yieldsIn_of_qOp at_k hq
    refine Next.take hsel hsink hchain hn (by omega) (fun s' a' hs => seqB_ready hs.1) l.length s a inv ⟨at_k, hB.1.1, hy, Region.free_spec at_k hB.1.2⟩ ?_
    refine ih (k + 1) _ _ (fun j hj => ?_) (by omega) (inv.set hB.1.1 (by omega)) hB.2 hK
    have := hl (j + 1) (by simp; omega)
    simpa [Nat.add_assoc, Nat.add_comm 1 j] using this

/-- The worlds that calls beginning in w can leave, as the range of f: below w's own blocks nothing has turned. -/
structure Fam (w : World) (T : Type) (f : T → World) : Prop where
  start : ∃ t, w.drew = f t
  close : ∀ t w', Below (f t).heap.size (f t) w' → ∃ t', w' = f t'
  below : ∀ t, Below w.heap.size w (f t)

theorem Fam.cell {w : World} {T : Type} {f : T → World} (F : Fam w T f) (t : T) (b : Nat) (o : Nat) (h : b < w.heap.size) : (f t).cell? ⟨b, o, none⟩ = w.cell? ⟨b, o, none⟩ := (F.below t).cell (p := ⟨b, o, none⟩) h
theorem Fam.frozen {w : World} {T : Type} {f : T → World} (F : Fam w T f) (t : T) (b : Nat) (o : Nat) (h : b < w.heap.size) : (f t).frozen? ⟨b, o, none⟩ = w.frozen? ⟨b, o, none⟩ := (F.below t).frozen (p := ⟨b, o, none⟩) h
theorem Fam.size {w : World} {T : Type} {f : T → World} (F : Fam w T f) (t : T) : w.heap.size ≤ (f t).heap.size := (F.below t).size
/-- a callee's contract, met in a world of the family -/
theorem Fam.call {w : World} {T : Type} {f : T → World} (F : Fam w T f) {P : Program} {g : FuncId} {args : Array Value} {t : T} {v : Value} (h : Calls P g args (f t) fun e w' => e = .returned v ∧ Below (f t).heap.size (f t) w') :
    Calls P g args (f t) fun e w'' => e = .returned v ∧ ∃ t', w'' = f t' := h.mono fun _ _ ⟨he, hb⟩ => ⟨he, F.close _ _ hb⟩
theorem Fam.callSame {w : World} {T : Type} {f : T → World} (_F : Fam w T f) {P : Program} {g : FuncId} {args : Array Value} {t : T} {v : Value} (h : Calls P g args (f t) fun e w' => e = .returned v ∧ f t = w') :
    Calls P g args (f t) fun e w'' => e = .returned v ∧ ∃ t', w'' = f t' := h.mono fun _ _ ⟨he, hb⟩ => ⟨he, t, hb.symm⟩

theorem family (w : World) : Fam w { v : World // Below w.heap.size w v } Subtype.val :=
  ⟨⟨⟨w.drew, (Below.refl _ _).drew⟩, rfl⟩, fun t w' h => ⟨⟨w', t.2.trans (h.mono t.2.size)⟩, rfl⟩, fun t => t.2⟩

/-- THE RULE: behind the first n operations the others are walked one by one. -/
theorem region {id : Nat} {Q : Exit → Act → World → Prop} {a : Act} {w : World} {l : List Oper} (n : Nat) (hm : P.follows .mixedOrders = true) (hB : Region.lexTailB .any l.toArray n = true)
    (h : ∀ (T : Type) (f : T → World), Fam w T f → Nonempty T → wpQuiet P l.toArray (fun w' => ∃ t, w' = f t) (fun b => ∀ w', (∃ t, w' = f t) → wpList P l.toArray Q (l.drop n) b w') (l.take n) a) : (Code.region id l.toArray true).wp P Q a w := by
  have F := family w
  have h := h _ _ F ⟨⟨w, Below.refl _ _⟩⟩
  simp only [Region.lexTailB, Bool.and_eq_true, decide_eq_true_eq] at hB
  obtain ⟨⟨⟨⟨hsel, hn⟩, hsink⟩, hchain⟩, hlex⟩ := hB
  have hnl : n < l.length := by simpa using hn
  have len : (l.take n).length = n := by simp; omega
  have start : HeadInv .any l.toArray n (Array.replicate l.toArray.size false) :=
    ⟨by simp, fun j oj _ hj => (by rw [getD_replicate_false] at hj; cases hj), fun t _ ht => getD_in (by simpa using ht) (getD_replicate_false _ _)⟩
  have heads := Heads.text (g := l.toArray.size - n) hsel hsink hchain hn (l.take n) 0 _ a (fun j hj => by rw [len] at hj; simp [hj]) (by omega) start (by rw [len]; exact hlex) h
  rw [len] at heads
  have all := heads.run (Q := Q) (g := l.toArray.size - n) (fun s b w' hw' hs => by
    have := wpAny_of_seq (md := .any) (Q' := Q) (l.drop n) n s b w' (fun j => by simp [List.getElem?_drop]) (by simpa using hs.1) (hs.2 w' hw')
    simpa using this) n _ _ _ F.start
  refine wp_region_any hm ?_
  rw [show l.toArray.size - n + n = l.toArray.size by simp; omega] at all
  exact all

/-- .. where no operation comes last. -/
theorem regionAll {id : Nat} {Q : Exit → Act → World → Prop} {a : Act} {w : World} {l : List Oper} (hm : P.follows .mixedOrders = true) (hB : Region.lexB .any l.toArray = true)
    (h : ∀ (T : Type) (f : T → World), Fam w T f → Nonempty T → wpQuiet P l.toArray (fun w' => ∃ t, w' = f t) (fun b => ∀ w', (∃ t, w' = f t) → Q .normal b w') l a) : (Code.region id l.toArray true).wp P Q a w :=
  wp_region_quiet (C := fun w' => ∃ t : { v : World // Below w.heap.size w v }, w' = t.val) hm hB (family w).start (by simpa using h _ _ (family w) ⟨⟨w, Below.refl _ _⟩⟩)
end
end Go.Proofs.YtabafabebodojaaDoor.Qt
