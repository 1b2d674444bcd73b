/- As XQt, where operation 0 is a move that the tail's first operation need not wait for: it is taken first. -/
import Derived.Test.YtoobfcekgfgipaaDoorQt
namespace Go.Proofs.YtoobfcekgfgipaaDoor.Qt
open Go Go.RowKit
section
variable {P : Program} {ops : Array Oper} {C : World → Prop} {n : Nat} {L : Array Bool → Act → Prop}
def sinkFrom (ops : Array Oper) (n : Nat) : Bool :=
  (List.range n).all fun i => decide (i = 0) || (List.range (n + 1)).any fun j => decide (i < j) && Region.waitsFor .any ops j i
theorem tail_waits1 {n : Nat} {listed : Array Bool} (hs : sinkFrom ops n = true) (hc : Region.chainB .any ops n = true) (hn : n < ops.size) (inv : HeadInv .any ops n listed) :
    ∀ (d i : Nat), n - i = d → 0 < i → i < n → listed.getD i true = false → ∀ t, n ≤ t → t ∉ Region.ready .any ops listed := by
  intro d
  induction d using Nat.strongRecOn with
  | _ d ih =>
    intro i hd hi0 hi hun t ht hr
    obtain ⟨_, ot, hot, hall⟩ := mem_ready.1 hr
    have htlt : t < ops.size := (Array.getElem?_eq_some_iff.1 hot).1
    by_cases htn : t = n
    · subst htn
      have h1 := List.all_eq_true.1 hs i (List.mem_range.2 hi)
      simp only [Bool.or_eq_true, decide_eq_true_eq] at h1
      rcases h1 with h1 | h1
      · omega
      obtain ⟨j, hj, hj2⟩ := List.any_eq_true.1 h1
      simp only [Bool.and_eq_true, decide_eq_true_eq] at hj2
      obtain ⟨oj, hoj, e, he, hb, hon⟩ := Region.waitsFor_spec hj2.2
      have hjle : j ≤ t := by have := List.mem_range.1 hj; omega
      by_cases hjt : j = t
      · subst hjt
        have : oj = ot := Option.some.inj (hoj.symm.trans hot)
        subst this
        have h2 := hall e he hb
        rw [hon, getD_both hun] at h2
        cases h2
      · cases hl : listed.getD j false with
        | true =>
          have h2 := inv.closed j oj hoj hl e he hb
          rw [hon, getD_both hun] at h2
          cases h2
        | false =>
          have hjs : j < listed.size := by rw [inv.size]; omega
          exact ih (t - j) (by omega) j rfl (by omega) (by omega) (getD_in hjs hl) t (Nat.le_refl _) hr
    · have h1 := List.all_eq_true.1 hc t (List.mem_range.2 htlt)
      simp only [Bool.or_eq_true, decide_eq_true_eq] at h1
      rcases h1 with h1 | h1
      · omega
      · obtain ⟨o', ho', e, he, hb, hon⟩ := Region.waitsFor_spec h1
        have : o' = ot := Option.some.inj (ho'.symm.trans hot)
        subst this
        have h2 := hall e he hb
        rw [hon, getD_both (inv.tail (t - 1) (by omega) (by omega))] at h2
        cases h2
theorem Next.take1 {i : Nat} {o : Oper} {v : Value} (hsel : Region.noSelect ops = true) (hsink : sinkFrom ops n = true) (hchain : Region.chainB .any ops n = true) (hn : n < ops.size) (hi0 : 0 < i) (hin : i < n)
    (hL : ∀ s a, L s a → ∀ j ∈ Region.ready .any ops s, n ≤ j) (f : Nat) :
    ∀ (s : Array Bool) (a : Act), HeadInv .any ops n s → Next P ops C i o v s a → Heads P ops C n L f (s.setIfInBounds i true) (a.put o.dst v) → Heads P ops C n L (f + 1) s a := by
  have notSel := Region.noSelect_spec hsel
  induction f with
  | zero =>
    intro s a inv nx H
    refine ⟨List.ne_nil_of_mem nx.ready, fun j hj => ?_⟩
    rcases Nat.lt_or_ge j n with hjn | hjn
    · by_cases hji : j = i
      · subst hji
        exact ⟨hin, nx.yields.qOp nx.at_i H⟩
      · exact absurd (hL _ _ H j (ready_mono hj hji)) (by omega)
    · exact absurd hj (tail_waits1 hsink hchain hn inv _ i rfl hi0 hin (mem_ready.1 nx.ready).1 j hjn)
  | succ f ih =>
    intro s a inv nx H
    refine ⟨List.ne_nil_of_mem nx.ready, fun j hj => ?_⟩
    rcases Nat.lt_or_ge j n with hjn | hjn
    · by_cases hji : j = i
      · subst hji
        exact ⟨hin, nx.yields.qOp nx.at_i H⟩
      · refine ⟨hjn, ?_⟩
        obtain ⟨jun, p, hp, hall⟩ := mem_ready.1 hj
        have swapped := qOp_put hp (nx.apart j p hp hji jun (nx.free hall)) (fun cs b => notSel i o cs b nx.at_i) (fun cs b => notSel j p cs b hp) nx.yields (H.2 j (ready_mono hj hji)).2
        refine qOp_mono (fun b hb => ih _ b (inv.set hj hjn) ⟨nx.at_i, ready_mono nx.ready (Ne.symm hji), hb.1, fun k q hq hki kun hno => nx.apart k q hq hki ?_ hno⟩ ?_) swapped
        · by_cases hjk : j = k
          · subst hjk; exact jun
          · rwa [getD_set_ne true hjk] at kun
        · rw [Array.setIfInBounds_comm _ _ hji]
          exact hb.2
    · exact absurd hj (tail_waits1 hsink hchain hn inv _ i rfl hi0 hin (mem_ready.1 nx.ready).1 j hjn)

theorem Heads.text1 {g : Nat} {K : Act → Prop} (hsel : Region.noSelect ops = true) (hsink : sinkFrom ops n = true) (hchain : Region.chainB .any ops n = true) (hn : n < ops.size) (l : List Oper) :
    ∀ (k : Nat) (s : Array Bool) (a : Act), 0 < k → (∀ j, j < l.length → l[j]? = ops[k + j]?) → k + l.length = n → HeadInv .any ops n s → Region.lexHead .any ops g l.length k s = true → wpQuiet P ops C K l a →
    Heads P ops C n (fun s' a' => Region.seqB .any ops g n s' = true ∧ K a') l.length s a := by
  induction l with
  | nil =>
    intro k s a _ _ hk _ hB h
    obtain rfl : k = n := by simpa using hk
    exact ⟨by simpa [Region.lexHead] using hB, h⟩
  | cons o l ih =>
    intro k s a hk0 hl hk inv hB h
    simp only [List.length_cons, Region.lexHead, Bool.and_eq_true, List.contains_iff_mem] at hB
    simp only [List.length_cons] at hk
    have at_k : ops[k]? = some o := by simpa using (hl 0 (by simp)).symm
    have hq : qOp P ops C k (wpQuiet P ops C K l) a := by
      unfold qOp
      simp only [at_k]
      exact h
    obtain ⟨v, hy, hK⟩ := yieldsIn_of_qOp at_k hq
    refine Next.take1 hsel hsink hchain hn hk0 (by omega) (fun s' a' hs => seqB_ready hs.1) l.length s a inv ⟨at_k, hB.1.1, hy, Region.free_spec at_k hB.1.2⟩ ?_
    refine ih (k + 1) _ _ (by omega) (fun j hj => ?_) (by omega) (inv.set hB.1.1 (by omega)) hB.2 hK
    have := hl (j + 1) (by simp; omega)
    simpa [Nat.add_assoc, Nat.add_comm 1 j] using this

def lexTailFrom (ops : Array Oper) (n : Nat) : Bool :=
  Region.noSelect ops && decide (0 < n ∧ n < ops.size) && sinkFrom ops n && Region.chainB .any ops n && Region.free .any ops (Array.replicate ops.size false) 0 && (Region.ready .any ops (Array.replicate ops.size false)).contains 0 && Region.lexHead .any ops (ops.size - n) (n - 1) 1 ((Array.replicate ops.size false).setIfInBounds 0 true)
/-- THE RULE, operation 0 taken first. -/
theorem region1 {id : Nat} {Q : Exit → Act → World → Prop} {a : Act} {w : World} {l : List Oper} (n : Nat) (o0 : Oper) (v : Value) (hm : P.follows .mixedOrders = true) (hB : lexTailFrom l.toArray n = true)
    (h0 : l.toArray[0]? = some o0) (hQ : ∀ c a w, Q (.panic c) (a.put o0.dst v) w → Q (.panic c) a w) (hy : Yields P l.toArray o0 v a)
    (h : ∀ (T : Type) (f : T → World), Fam w T f → Nonempty T → wpQuiet P l.toArray (fun w' => ∃ t, w' = f t) (fun b => ∀ w', (∃ t, w' = f t) → wpList P l.toArray Q (l.drop n) b w') ((l.take n).drop 1) (a.put o0.dst v)) : (Code.region id l.toArray true).wp P Q a w := by
  have F := family w
  have h := h _ _ F ⟨⟨w, Below.refl _ _⟩⟩
  simp only [lexTailFrom, Bool.and_eq_true, decide_eq_true_eq] at hB
  obtain ⟨⟨⟨⟨⟨⟨hsel, hn0, hn⟩, hsink⟩, hchain⟩, hfree⟩, hready⟩, hlex⟩ := hB
  have hnl : n < l.length := by simpa using hn
  have len : ((l.take n).drop 1).length = n - 1 := by simp; omega
  have inv0 : HeadInv .any l.toArray n (Array.replicate l.toArray.size false) :=
    ⟨by simp, fun j oj _ hj => (by rw [getD_replicate_false] at hj; cases hj), fun t _ ht => getD_in (by simpa using ht) (getD_replicate_false _ _)⟩
  have start := inv0.set (i := 0) (by simpa using hready) hn0
  have heads := Heads.text1 (g := l.toArray.size - n) hsel hsink hchain hn ((l.take n).drop 1) 1 _ (a.put o0.dst v) (by omega) (fun j hj => by rw [len] at hj; have h1 : j + 1 < n := (by omega); simp [h1, Nat.add_comm]) (by omega) start (by rw [len]; exact hlex) h
  rw [len] at heads
  have all := heads.run (Q := Q) (g := l.toArray.size - n) (fun s b w' hw' hs => by
    have := wpAny_of_seq (md := .any) (Q' := Q) (l.drop n) n s b w' (fun j => by simp [List.getElem?_drop]) (by simpa using hs.1) (hs.2 w' hw')
    simpa using this) (n - 1) _ _ _ F.start
  refine wp_region_any hm ?_
  have e : l.toArray.size = (l.toArray.size - n + (n - 1)) + 1 := by simp; omega
  rw [e]
  exact wpAny_take h0 hsel (by rw [← e]; exact hfree) (by rw [← e]; exact hready) hQ hy (by rw [← e]; exact all)
end
end Go.Proofs.YtoobfcekgfgipaaDoor.Qt
