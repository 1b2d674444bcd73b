/- Tuplets: nesting, counted and reckoned. -/
import Derived.Test.YtidggmfgbcmklaaTa
namespace Go.Proofs.Ytidggmfgbcmklaa
open Go.RowKit
set_option linter.unusedVariables false
set_option linter.unusedSimpArgs false

structure Tp where
  F : Int
  C : Int
  A : Int
  N : Int
namespace Tp
def e (t : Tp) : Int := t.F + t.C
def inR (t : Tp) (ev : Int) : Prop := 1 ≤ t.C ∧ 0 ≤ t.F ∧ t.C ≤ ev ∧ t.F ≤ ev - t.C ∧ 1 ≤ t.A ∧ t.A ≤ 32 ∧ 1 ≤ t.N ∧ t.N ≤ 32 ∧ t.A ≠ t.N
def after (a b : Tp) : Prop := a.F < b.F ∨ a.F = b.F ∧ b.C < a.C
def has (t : Tp) (x : Int) : Prop := t.F ≤ x ∧ x < t.F + t.C
instance (t : Tp) (ev : Int) : Decidable (t.inR ev) := by unfold inR; infer_instance
instance (a b : Tp) : Decidable (a.after b) := by unfold after; infer_instance
instance (t : Tp) (x : Int) : Decidable (t.has x) := by unfold has; infer_instance
end Tp
/-- the earlier tuplets that are open at the first event of the i-th -/
def opn (f : Nat → Tp) (i : Nat) : List Nat := (List.range i).filter fun j => decide ((f i).F < (f j).e)
/-- the i-th tuplet is proper -/
def okP (f : Nat → Tp) (i : Nat) : Prop := (opn f i).length < 3 ∧ ∀ k ∈ opn f i, (f i).e ≤ (f k).e
instance (f : Nat → Tp) (i : Nat) : Decidable (okP f i) := by unfold okP; infer_instance
def err1 (f : Nat → Tp) (ev : Int) (i : Nat) : Int :=
  if ¬ (f i).inR ev then 2 else if 0 < i ∧ (f i).after (f (i - 1)) then 25 else if ¬ okP f i then 21 else 0
/-- the first error of the tuplets from k on -/
def errs (f : Nat → Tp) (ev : Int) : Nat → Nat → Int
  | 0, _ => 0
  | m + 1, k => if err1 f ev k = 0 then errs f ev m (k + 1) else err1 f ev k
def chk (f : Nat → Tp) (n : Nat) (ev : Int) : Int := if ev < 0 ∨ 128 < ev then 2 else if 16 < n then 9 else errs f ev n 0
/-- the first k tuplets are without error -/
def good (f : Nat → Tp) (ev : Int) (k : Nat) : Prop := ∀ j, j < k → err1 f ev j = 0
theorem good_succ {f ev k} (h : good f ev k) (h1 : err1 f ev k = 0) : good f ev (k + 1) := fun j hj => by
  by_cases e : j = k
  · subst e; exact h1
  · exact h j (by omega)
theorem err1_zero {f ev i} (h : err1 f ev i = 0) : (f i).inR ev ∧ ¬ (0 < i ∧ (f i).after (f (i - 1))) ∧ okP f i := by
  unfold err1 at h
  split at h
  · cases h
  · split at h
    · cases h
    · split at h
      · cases h
      · rename_i a b c
        exact ⟨Decidable.not_not.1 a, b, Decidable.not_not.1 c⟩
theorem errs_at {f ev} : ∀ (m k j : Nat), j < m → (∀ i, i < j → err1 f ev (k + i) = 0) → err1 f ev (k + j) ≠ 0 → errs f ev m k = err1 f ev (k + j) := by
  intro m
  induction m with
  | zero => intro k j h; omega
  | succ m ih =>
    intro k j hj h0 h1
    unfold errs
    cases j with
    | zero => simp only [Nat.add_zero] at h1 ⊢; rw [if_neg h1]
    | succ j =>
      have := h0 0 (by omega)
      rw [Nat.add_zero] at this
      rw [if_pos this, ih (k + 1) j (by omega) (fun i hi => by rw [show k + 1 + i = k + (i + 1) by omega]; exact h0 _ (by omega)) (by rw [show k + 1 + j = k + (j + 1) by omega]; exact h1), show k + 1 + j = k + (j + 1) by omega]
theorem errs_none {f ev} : ∀ (m k : Nat), (∀ i, i < m → err1 f ev (k + i) = 0) → errs f ev m k = 0 := by
  intro m
  induction m with
  | zero => intro k _; rfl
  | succ m ih =>
    intro k h
    unfold errs
    rw [if_pos (by simpa using h 0 (by omega)), ih (k + 1) (fun i hi => by rw [show k + 1 + i = k + (i + 1) by omega]; exact h _ (by omega))]
theorem chk_bad {f n ev i} (h0 : ¬ (ev < 0 ∨ 128 < ev)) (h1 : ¬ 16 < n) (hi : i < n) (hg : good f ev i) (hb : err1 f ev i ≠ 0) : chk f n ev = err1 f ev i := by
  unfold chk
  rw [if_neg h0, if_neg h1]
  simpa using errs_at n 0 i hi (fun j hj => by simpa using hg j hj) (by simpa using hb)
theorem chk_ok {f n ev} (h0 : ¬ (ev < 0 ∨ 128 < ev)) (h1 : ¬ 16 < n) (hg : good f ev n) : chk f n ev = 0 := by
  unfold chk
  rw [if_neg h0, if_neg h1]
  exact errs_none n 0 (fun j hj => by simpa using hg j hj)
theorem first_bad {f ev} (n : Nat) : good f ev n ∨ ∃ i, i < n ∧ good f ev i ∧ err1 f ev i ≠ 0 := by
  induction n with
  | zero => exact .inl (fun j hj => by omega)
  | succ n ih =>
    rcases ih with h | ⟨i, hi, hg, hb⟩
    · by_cases e : err1 f ev n = 0
      · exact .inl (good_succ h e)
      · exact .inr ⟨n, by omega, h, e⟩
    · exact .inr ⟨i, by omega, hg, hb⟩
theorem chk_zero {f n ev} (h : chk f n ev = 0) : 0 ≤ ev ∧ ev ≤ 128 ∧ n ≤ 16 ∧ good f ev n := by
  unfold chk at h
  split at h
  · cases h
  · split at h
    · cases h
    · rename_i a b
      rcases first_bad (f := f) (ev := ev) n with g | ⟨i, hi, hg, hb⟩
      · exact ⟨by omega, by omega, by omega, g⟩
      · have := errs_at (f := f) (ev := ev) n 0 i hi (fun j hj => by simpa using hg j hj) (by simpa using hb)
        rw [h] at this
        exact absurd this.symm (by simpa using hb)
theorem good.parts {f ev k j} (h : good f ev k) (hj : j < k) : (f j).inR ev ∧ ¬ (0 < j ∧ (f j).after (f (j - 1))) ∧ okP f j := err1_zero (h j hj)
theorem good.le {f ev k m} (h : good f ev k) (hm : m ≤ k) : good f ev m := fun j hj => h j (by omega)
/-- the first events do not descend -/
theorem good.mono {f ev k} (h : good f ev k) : ∀ {j i : Nat}, j ≤ i → i < k → (f j).F ≤ (f i).F := by
  intro j i hji
  induction i with
  | zero => intro _; obtain rfl : j = 0 := by omega
            exact Int.le_refl _
  | succ i ih =>
    intro hi
    by_cases e : j = i + 1
    · subst e; exact Int.le_refl _
    · have h1 := ih (by omega) (by omega)
      have h2 := (h.parts hi).2.1
      unfold Tp.after at h2
      simp only [Nat.add_sub_cancel] at h2
      omega
/-- what is on the stack before the i-th tuplet -/
def stk (f : Nat → Tp) : Nat → List Nat
  | 0 => []
  | i + 1 => opn f i ++ [i]
theorem mem_opn {f i j} : j ∈ opn f i ↔ j < i ∧ (f i).F < (f j).e := by
  unfold opn
  simp
theorem opn_of_stk {f ev i} (h : good f ev i) (hF : 0 < i → (f (i - 1)).F ≤ (f i).F) : (stk f i).filter (fun j => decide ((f i).F < (f j).e)) = opn f i := by
  cases i with
  | zero => rfl
  | succ i =>
    have hF := hF (by omega)
    simp only [Nat.add_sub_cancel] at hF
    unfold stk opn
    rw [List.range_succ, List.filter_append, List.filter_append, List.filter_filter]
    congr 1
    refine List.filter_congr (fun x _ => ?_)
    simp only [Bool.and_eq_true, decide_eq_true_eq, ← Bool.decide_and]
    exact decide_eq_decide.2 ⟨fun g => g.1, fun g => ⟨g, by omega⟩⟩
/-- the ends do not ascend along the stack -/
theorem stk_nested {f ev i} (h : good f ev i) : (stk f i).Pairwise (fun a b => (f b).e ≤ (f a).e) := by
  induction i with
  | zero => exact .nil
  | succ i ih =>
    have h0 := ih (h.le (by omega))
    have hp := (h.parts (Nat.lt_succ_self i)).2.2
    have hm : 0 < i → (f (i - 1)).F ≤ (f i).F := fun hi => h.mono (by omega) (Nat.lt_succ_self i)
    unfold stk
    rw [List.pairwise_append]
    refine ⟨?_, by simp, fun a ha b hb => ?_⟩
    · rw [← opn_of_stk (h.le (by omega)) hm]
      exact h0.filter _
    · simp at hb
      subst hb
      exact hp.2 a ha
theorem opn_nested {f ev i} (h : good f ev i) (hF : 0 < i → (f (i - 1)).F ≤ (f i).F) : (opn f i).Pairwise (fun a b => (f b).e ≤ (f a).e) := by
  rw [← opn_of_stk h hF]
  exact (stk_nested h).filter _
theorem filter_all {α} {p : α → Bool} {l : List α} (h : ∀ a ∈ l, p a = true) : l.filter p = l := List.filter_eq_self.2 h
/-- popping: m elements are left, those above are closed; the topmost left is open -/
theorem pop_done {f ev i} (h : good f ev i) (hF : 0 < i → (f (i - 1)).F ≤ (f i).F) {m : Nat} (hm : m ≤ (stk f i).length) (hc : ∀ j x, m ≤ j → (stk f i)[j]? = some x → (f x).e ≤ (f i).F)
    (ht : ∀ x, 0 < m → (stk f i)[m - 1]? = some x → (f i).F < (f x).e) : (stk f i).take m = opn f i := by
  rw [← opn_of_stk h hF]
  have hn := stk_nested h
  generalize stk f i = s at *
  conv => rhs; rw [← List.take_append_drop m s]
  rw [List.filter_append]
  have h2 : (s.drop m).filter (fun j => decide ((f i).F < (f j).e)) = [] := by
    rw [List.filter_eq_nil_iff]
    intro a ha
    obtain ⟨j, hj⟩ := List.mem_iff_getElem?.1 ha
    rw [List.getElem?_drop] at hj
    have := hc (m + j) a (by omega) hj
    simp; omega
  rw [h2, List.append_nil, filter_all]
  intro a ha
  obtain ⟨j, hj⟩ := List.mem_iff_getElem?.1 ha
  rw [List.getElem?_take] at hj
  split at hj
  · rename_i hjm
    obtain ⟨hl, rfl⟩ := List.getElem?_eq_some_iff.1 hj
    obtain ⟨x, hx⟩ : ∃ x, s[m - 1]? = some x := ⟨_, List.getElem?_eq_getElem (by omega)⟩
    have h3 := ht x (by omega) hx
    obtain ⟨hl2, rfl⟩ := List.getElem?_eq_some_iff.1 hx
    simp only [decide_eq_true_eq]
    by_cases e : j = m - 1
    · subst e; exact h3
    · have := List.pairwise_iff_getElem.1 hn j (m - 1) hl hl2 (by omega)
      omega
  · cases hj
theorem stk_len {f ev i} (h : good f ev i) : (stk f i).length ≤ 3 ∧ (stk f i).length ≤ i := by
  cases i with
  | zero => simp [stk]
  | succ i =>
    have h1 := (h.parts (Nat.lt_succ_self i)).2.2.1
    have h2 : (opn f i).length ≤ i := by
      unfold opn
      exact Nat.le_trans (List.length_filter_le _ _) (by simp)
    simp [stk]
    omega
theorem stk_lt {f i x} (h : x ∈ stk f i) : x < i := by
  cases i with
  | zero => simp [stk] at h
  | succ i =>
    simp [stk] at h
    rcases h with h | h
    · have := (mem_opn.1 h).1; omega
    · omega
/-- whether a tuplet is proper can be seen at the topmost one -/
def outer (f : Nat → Tp) (i : Nat) : Int := match (opn f i).getLast? with | none => -1 | some j => j
theorem okP_iff {f ev i} (h : good f ev i) (hF : 0 < i → (f (i - 1)).F ≤ (f i).F) : okP f i ↔ (opn f i).length < 3 ∧ ∀ x, (opn f i).getLast? = some x → (f i).e ≤ (f x).e := by
  have hn := opn_nested h hF
  unfold okP
  refine and_congr_right (fun _ => ⟨fun hx x hl => hx x (List.mem_of_getLast? hl), fun hx k hk => ?_⟩)
  generalize opn f i = s at *
  obtain ⟨j, hj⟩ := List.mem_iff_getElem?.1 hk
  obtain ⟨hl, rfl⟩ := List.getElem?_eq_some_iff.1 hj
  have hne : s ≠ [] := by intro e; subst e; simp at hl
  have h1 := hx _ (List.getLast?_eq_some_getLast hne)
  rw [List.getLast_eq_getElem] at h1
  by_cases e : j = s.length - 1
  · subst e; exact h1
  · have := List.pairwise_iff_getElem.1 hn j (s.length - 1) hl (by omega) (by omega)
    omega
/-- what the reference asks at one event: the k earlier tuplets -/
def dep (f : Nat → Tp) (i : Nat) (x : Int) : Nat → Nat
  | 0 => 0
  | k + 1 => if (f i).has x ∧ (f k).has x then dep f i x k + 1 else dep f i x k
/-- a tuplet lies within another one -/
def wi (a b : Tp) : Prop := b.F ≤ a.F ∧ a.F + a.C ≤ b.F + b.C
instance (a b : Tp) : Decidable (wi a b) := by unfold wi; infer_instance
/-- nothing is wrong at an event, with the first k of the earlier ones -/
def inn (f : Nat → Tp) (i : Nat) (x : Int) (k : Nat) : Prop := ∀ j, j < k → (f i).has x → (f j).has x → wi (f i) (f j)
def evOk (f : Nat → Tp) (i : Nat) (x : Int) : Prop := inn f i x i ∧ dep f i x i < 3
theorem dep_count {f : Nat → Tp} {i : Nat} {x : Int} (hx : (f i).has x) : ∀ k, dep f i x k = ((List.range k).filter fun j => decide ((f j).has x)).length := by
  intro k
  induction k with
  | zero => rfl
  | succ k ih =>
    rw [dep, List.range_succ, List.filter_append, List.length_append, ← ih]
    by_cases h : (f k).has x <;> simp [h, hx]
theorem dep_le {f : Nat → Tp} {i : Nat} {x : Int} : ∀ k, dep f i x k ≤ k := by
  intro k
  induction k with
  | zero => exact Nat.le_refl _
  | succ k ih => unfold dep; split <;> omega
theorem dep_none {f : Nat → Tp} {i : Nat} {x : Int} (hx : ¬ (f i).has x) : ∀ k, dep f i x k = 0 := by
  intro k
  induction k with
  | zero => rfl
  | succ k ih => rw [dep, if_neg (fun h => hx h.1), ih]
theorem okP_of_events {f : Nat → Tp} {i : Nat} {ev : Int} (hr : (f i).inR ev) (hF : ∀ j, j < i → (f j).F ≤ (f i).F) : okP f i ↔ ∀ x, 0 ≤ x → x < ev → evOk f i x := by
  unfold Tp.inR at hr
  constructor
  · intro h x _ _
    by_cases hx : (f i).has x
    · have hw : ∀ j, j < i → (f j).has x → wi (f i) (f j) := fun j hj hjx => by
        have h2 := h.2 j (mem_opn.2 ⟨hj, by unfold Tp.e; unfold Tp.has at hx hjx; omega⟩)
        unfold Tp.e at h2
        exact ⟨hF j hj, h2⟩
      refine ⟨fun j hj _ hjx => hw j hj hjx, ?_⟩
      rw [dep_count hx]
      refine Nat.lt_of_le_of_lt ?_ h.1
      unfold opn
      have : ((List.range i).filter fun j => decide ((f j).has x)) = ((List.range i).filter fun j => decide ((f j).has x)).filter fun j => decide ((f i).F < (f j).e) := by
        rw [List.filter_filter]
        refine List.filter_congr (fun y _ => ?_)
        rw [← Bool.decide_and]
        refine decide_eq_decide.2 ⟨fun g => ⟨?_, g⟩, fun g => g.2⟩
        unfold Tp.has at g hx; unfold Tp.e; omega
      rw [this, List.filter_filter]
      rw [show (fun a => (decide ((f i).F < (f a).e) && decide ((f a).has x))) = (fun a => (decide ((f a).has x) && decide ((f i).F < (f a).e))) from funext fun _ => Bool.and_comm _ _, ← List.filter_filter]
      exact List.length_filter_le _ _
    · exact ⟨fun j _ h _ => absurd h hx, by rw [dep_none hx]; omega⟩
  · intro h
    have h0 := h (f i).F (by omega) (by omega)
    have hx : (f i).has (f i).F := by unfold Tp.has; omega
    refine ⟨?_, fun k hk => ?_⟩
    · have := h0.2
      rw [dep_count hx] at this
      unfold opn
      refine Nat.lt_of_le_of_lt (Nat.le_of_eq ?_) this
      congr 1
      refine List.filter_congr (fun y hy => ?_)
      refine decide_eq_decide.2 ?_
      have := hF y (by simpa using hy)
      unfold Tp.has Tp.e
      omega
    · obtain ⟨hki, hke⟩ := mem_opn.1 hk
      have := hF k hki
      have h2 := h0.1 k hki hx (by unfold Tp.has; unfold Tp.e at hke; omega)
      exact h2.2
/-- how many of the first k tuplets contain an event -/
def cnt (f : Nat → Tp) (x : Int) : Nat → Nat
  | 0 => 0
  | k + 1 => if (f k).has x then cnt f x k + 1 else cnt f x k
/-- the products over them -/
def pN (f : Nat → Tp) (x : Int) : Nat → Nat
  | 0 => 1
  | k + 1 => if (f k).has x then pN f x k * (f k).N.toNat else pN f x k
def pA (f : Nat → Tp) (x : Int) : Nat → Nat
  | 0 => 1
  | k + 1 => if (f k).has x then pA f x k * (f k).A.toNat else pA f x k
/-- tuplets from the a-th on -/
def sh (f : Nat → Tp) (a : Nat) : Nat → Tp := fun k => f (a + k)
theorem cnt_add {f : Nat → Tp} {x : Int} {a : Nat} : ∀ k, cnt f x (a + k) = cnt f x a + cnt (sh f a) x k := by
  intro k
  induction k with
  | zero => rfl
  | succ k ih =>
    rw [show a + (k + 1) = (a + k) + 1 from rfl, cnt, cnt, ih]
    show (if (f (a + k)).has x then _ else _) = cnt f x a + if (f (a + k)).has x then _ else _
    split <;> omega
theorem cnt_filter {f : Nat → Tp} {x : Int} : ∀ k, cnt f x k = ((List.range k).filter fun j => decide ((f j).has x)).length := by
  intro k
  induction k with
  | zero => rfl
  | succ k ih =>
    rw [cnt, List.range_succ, List.filter_append, List.length_append, ← ih]
    by_cases h : (f k).has x <;> simp [h]
theorem cnt_bd {f : Nat → Tp} {ev : Int} {x : Int} : ∀ {k : Nat}, good f ev k → cnt f x k ≤ 3 := by
  intro k
  induction k with
  | zero => intro _; simp [cnt]
  | succ k ih =>
    intro h
    have hk := h.parts (Nat.lt_succ_self k)
    unfold cnt
    split
    · rename_i hx
      rw [cnt_filter]
      have h2 := hk.2.2.1
      unfold opn at h2
      refine Nat.succ_le_of_lt (Nat.lt_of_le_of_lt ?_ (Nat.lt_succ_of_lt h2 |> fun _ => h2) )
      have : ((List.range k).filter fun j => decide ((f j).has x)) = ((List.range k).filter fun j => decide ((f j).has x)).filter fun j => decide ((f k).F < (f j).e) := by
        rw [List.filter_filter]
        refine List.filter_congr (fun y hy => ?_)
        rw [← Bool.decide_and]
        refine decide_eq_decide.2 ⟨fun g => ⟨?_, g⟩, fun g => g.2⟩
        have := h.mono (j := y) (i := k) (by have := List.mem_range.1 hy; omega) (Nat.lt_succ_self k)
        unfold Tp.has at g hx; unfold Tp.e; omega
      rw [this, List.filter_filter]
      rw [show (fun a => (decide ((f k).F < (f a).e) && decide ((f a).has x))) = (fun a => (decide ((f a).has x) && decide ((f k).F < (f a).e))) from funext fun _ => Bool.and_comm _ _, ← List.filter_filter]
      exact List.length_filter_le _ _
    · exact ih (h.le (by omega))
def rng (f : Nat → Tp) (k : Nat) : Prop := ∀ j, j < k → 1 ≤ (f j).A ∧ (f j).A ≤ 32 ∧ 1 ≤ (f j).N ∧ (f j).N ≤ 32
theorem good.rng {f : Nat → Tp} {ev : Int} {k : Nat} (h : good f ev k) : rng f k := fun j hj => by
  have := (h.parts hj).1
  unfold Tp.inR at this
  omega
theorem rng.sh {f : Nat → Tp} {a k : Nat} (h : rng f (a + k)) : rng (sh f a) k := fun j hj => h (a + j) (by omega)
theorem rng.le {f : Nat → Tp} {k m : Nat} (h : rng f k) (hm : m ≤ k) : rng f m := fun j hj => h j (by omega)
theorem pN_bd {f : Nat → Tp} {x : Int} : ∀ {k : Nat}, rng f k → 1 ≤ pN f x k ∧ pN f x k ≤ 32 ^ cnt f x k := by
  intro k
  induction k with
  | zero => intro _; simp [pN, cnt]
  | succ k ih =>
    intro h
    obtain ⟨h1, h2⟩ := ih (h.le (by omega))
    obtain ⟨_, _, h3, h4⟩ := h k (by omega)
    unfold pN cnt
    split
    · refine ⟨Nat.mul_pos h1 (by omega), ?_⟩
      rw [Nat.pow_succ]
      exact Nat.mul_le_mul h2 (by omega)
    · exact ⟨h1, h2⟩
theorem pA_bd {f : Nat → Tp} {x : Int} : ∀ {k : Nat}, rng f k → 1 ≤ pA f x k ∧ pA f x k ≤ 32 ^ cnt f x k := by
  intro k
  induction k with
  | zero => intro _; simp [pA, cnt]
  | succ k ih =>
    intro h
    obtain ⟨h1, h2⟩ := ih (h.le (by omega))
    obtain ⟨h3, h4, _, _⟩ := h k (by omega)
    unfold pA cnt
    split
    · refine ⟨Nat.mul_pos h1 (by omega), ?_⟩
      rw [Nat.pow_succ]
      exact Nat.mul_le_mul h2 (by omega)
    · exact ⟨h1, h2⟩
theorem pow_bd {c : Nat} (h : c ≤ 3) : 32 ^ c ≤ 32768 := by
  have : (32 : Nat) ^ c ≤ 32 ^ 3 := Nat.pow_le_pow_right (by omega) h
  simpa using this
/-- lowest terms -/
def red (a b : Nat) : Nat × Nat := (a / Nat.gcd a b, b / Nat.gcd a b)
def rat (f : Nat → Tp) (x : Int) : Nat → Nat × Nat
  | 0 => (1, 1)
  | k + 1 => if (f k).has x then red ((rat f x k).1 * (f k).N.toNat) ((rat f x k).2 * (f k).A.toNat) else rat f x k
theorem red_mul {a b p q : Nat} (ha : 0 < a) : red ((red a b).1 * p) ((red a b).2 * q) = red (a * p) (b * q) := by
  have hg : 0 < Nat.gcd a b := Nat.gcd_pos_of_pos_left _ ha
  obtain ⟨u, hu⟩ := Nat.gcd_dvd_left a b
  obtain ⟨v, hv⟩ := Nat.gcd_dvd_right a b
  have e1 : (red a b).1 = u := by
    unfold red
    exact Nat.div_eq_of_eq_mul_right hg hu
  have e2 : (red a b).2 = v := by
    unfold red
    exact Nat.div_eq_of_eq_mul_right hg hv
  rw [e1, e2]
  generalize Nat.gcd a b = g at *
  subst hu hv
  unfold red
  rw [Nat.mul_assoc g u p, Nat.mul_assoc g v q, Nat.gcd_mul_left, Nat.mul_div_mul_left _ _ hg, Nat.mul_div_mul_left _ _ hg]
theorem rat_eq {f : Nat → Tp} {x : Int} : ∀ {k : Nat}, rng f k → rat f x k = red (pN f x k) (pA f x k) := by
  intro k
  induction k with
  | zero => intro _; simp [rat, red, pN, pA]
  | succ k ih =>
    intro h
    have hk := ih (h.le (by omega))
    unfold rat pN pA
    split
    · rw [hk, red_mul (pN_bd (h.le (by omega))).1]
    · exact hk
theorem red_bd {a b : Nat} (ha : 1 ≤ a) (hb : 1 ≤ b) : 1 ≤ (red a b).1 ∧ (red a b).1 ≤ a ∧ 1 ≤ (red a b).2 ∧ (red a b).2 ≤ b := by
  unfold red
  have hg : 0 < Nat.gcd a b := Nat.gcd_pos_of_pos_left _ ha
  exact ⟨Nat.div_pos (Nat.le_of_dvd ha (Nat.gcd_dvd_left a b)) hg, Nat.div_le_self _ _, Nat.div_pos (Nat.le_of_dvd hb (Nat.gcd_dvd_right a b)) hg, Nat.div_le_self _ _⟩
theorem red_cross {a b : Nat} : (red a b).1 * b = (red a b).2 * a := by
  unfold red
  obtain ⟨u, hu⟩ := Nat.gcd_dvd_left a b
  obtain ⟨v, hv⟩ := Nat.gcd_dvd_right a b
  rcases Nat.eq_zero_or_pos (Nat.gcd a b) with h | h
  · rw [h]; simp
  · rw [Nat.div_eq_of_eq_mul_right h hu, Nat.div_eq_of_eq_mul_right h hv]
    conv => lhs; rw [hv]
    conv => rhs; rw [hu]
    generalize Nat.gcd a b = g
    rw [Nat.mul_left_comm, Nat.mul_left_comm v, Nat.mul_comm u v]
theorem red_coprime {a b : Nat} (ha : 0 < a) : Nat.gcd (red a b).1 (red a b).2 = 1 := by
  unfold red
  have hg : 0 < Nat.gcd a b := Nat.gcd_pos_of_pos_left _ ha
  rw [Nat.gcd_div (Nat.gcd_dvd_left a b) (Nat.gcd_dvd_right a b), Nat.div_self hg]
/-- a length is whole in lowest terms exactly if it is so in any terms -/
theorem red_whole {a b t : Nat} (ha : 1 ≤ a) (hb : 1 ≤ b) : t % (red a b).2 = 0 ↔ t * a % b = 0 := by
  have hg : 0 < Nat.gcd a b := Nat.gcd_pos_of_pos_left _ ha
  have hc := red_coprime (b := b) ha
  obtain ⟨u, hu⟩ := Nat.gcd_dvd_left a b
  obtain ⟨v, hv⟩ := Nat.gcd_dvd_right a b
  have e1 : (red a b).1 = u := by unfold red; exact Nat.div_eq_of_eq_mul_right hg hu
  have e2 : (red a b).2 = v := by unfold red; exact Nat.div_eq_of_eq_mul_right hg hv
  rw [e1, e2] at hc
  rw [e2]
  generalize Nat.gcd a b = g at *
  subst hu hv
  rw [← Nat.dvd_iff_mod_eq_zero, ← Nat.dvd_iff_mod_eq_zero, Nat.mul_left_comm, Nat.mul_dvd_mul_iff_left hg]
  constructor
  · intro h; exact Nat.dvd_trans h (Nat.dvd_mul_right _ _)
  · intro h
    exact Nat.Coprime.dvd_of_dvd_mul_right (show Nat.Coprime v u by rw [Nat.Coprime, Nat.gcd_comm]; exact hc) h
theorem red_value {a b t : Nat} (ha : 1 ≤ a) (hb : 1 ≤ b) (h : t % (red a b).2 = 0) : t / (red a b).2 * (red a b).1 = t * a / b := by
  obtain ⟨_, _, hp, _⟩ := red_bd ha hb
  obtain ⟨c, hc⟩ := Nat.dvd_of_mod_eq_zero h
  have hx := red_cross (a := a) (b := b)
  subst hc
  rw [Nat.mul_div_cancel_left _ hp]
  symm
  refine Nat.div_eq_of_eq_mul_right (by omega) ?_
  rw [Nat.mul_comm (red a b).2 c, Nat.mul_assoc, ← hx, ← Nat.mul_assoc, Nat.mul_comm]
/-- a slice of tuplets -/
def TsAt (w : World) (ad : Option Addr) (n : Nat) (f : Nat → Tp) : Prop := ∀ k, k < n → ∃ b off, ad = some ⟨b, off, none⟩ ∧ w.cell? ⟨b, off + k * 4, none⟩ = some (.int .i64 (f k).F) ∧ w.cell? ⟨b, off + k * 4 + 1, none⟩ = some (.int .i64 (f k).C) ∧ w.cell? ⟨b, off + k * 4 + 2, none⟩ = some (.int .i64 (f k).A) ∧ w.cell? ⟨b, off + k * 4 + 3, none⟩ = some (.int .i64 (f k).N)
theorem TsAt.up {w w' : World} {ad : Option Addr} {n : Nat} {f : Nat → Tp} (h : TsAt w ad n f) (hb : Below w.heap.size w w') : TsAt w' ad n f := fun k hk => by
  obtain ⟨b, off, h0, h1, h2, h3, h4⟩ := h k hk
  exact ⟨b, off, h0, cell_up hb h1, cell_up hb h2, cell_up hb h3, cell_up hb h4⟩
theorem TsAt.below {w w' : World} {ad : Option Addr} {n : Nat} {f : Nat → Tp} (h : TsAt w ad n f) (hb : Below w.heap.size w w') : TsAt w' ad n f := h.up hb
theorem TsAt.le {w : World} {ad : Option Addr} {n m : Nat} {f : Nat → Tp} (h : TsAt w ad n f) (hm : m ≤ n) : TsAt w ad m f := fun k hk => h k (by omega)
/-- a slice of integers -/
def IsAt (w : World) (ad : Option Addr) (n : Nat) (f : Nat → Int) : Prop := ∀ k, k < n → ∃ b off, ad = some ⟨b, off, none⟩ ∧ w.cell? ⟨b, off + k, none⟩ = some (.int .i64 (f k))
theorem IsAt.up {w w' : World} {ad : Option Addr} {n : Nat} {f : Nat → Int} (h : IsAt w ad n f) (hb : Below w.heap.size w w') : IsAt w' ad n f := fun k hk => by
  obtain ⟨b, off, h0, h1⟩ := h k hk
  exact ⟨b, off, h0, cell_up hb h1⟩
theorem IsAt.below {w w' : World} {ad : Option Addr} {n : Nat} {f : Nat → Int} (h : IsAt w ad n f) (hb : Below w.heap.size w w') : IsAt w' ad n f := h.up hb
theorem IsAt.le {w : World} {ad : Option Addr} {n m : Nat} {f : Nat → Int} (h : IsAt w ad n f) (hm : m ≤ n) : IsAt w ad m f := fun k hk => h k (by omega)
/-- a tuplet among at most 128 events -/
structure Sm (t : Tp) : Prop where
  f0 : 0 ≤ t.F
  f1 : t.F ≤ 128
  c0 : 1 ≤ t.C
  c1 : t.C ≤ 128
  e1 : t.F + t.C ≤ 128
theorem Sm.of {t : Tp} {ev : Int} (h : t.inR ev) (he : ev ≤ 128) : Sm t := by
  unfold Tp.inR at h
  exact ⟨by omega, by omega, by omega, by omega, by omega⟩
end Go.Proofs.Ytidggmfgbcmklaa
