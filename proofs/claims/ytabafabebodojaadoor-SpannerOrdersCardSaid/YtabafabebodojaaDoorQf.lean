/- A region whose order is left open: n operations that read or call, then m new blocks, then one store into each: one walk in the order of the text. -/
import Derived.StillTail
import Derived.Deep.Quiet
import Derived.Deep.MidRow
import Derived.Below
import Derived.Lib.LazyBuf
namespace Go.Proofs.YtabafabebodojaaDoor.Qf
open Go Go.RowKit
set_option linter.unusedVariables false
set_option linter.unusedSimpArgs false
section
variable {P : Program}

structure Fam (w : World) (T : Type) (f : T → World) : Prop where
  close : ∀ t w', Below (f t).heap.size (f t) w' → ∃ t', w' = f t'
  below : ∀ t, Below w.heap.size w (f t)
theorem Fam.call {w : World} {T : Type} {f : T → World} (F : Fam w T f) {P : Program} {g : FuncId} {args : Array Value} {t : T} {v : Value} (h : Calls P g args (f t) fun e w' => e = .returned v ∧ Below (f t).heap.size (f t) w') :
    Calls P g args (f t) fun e w'' => e = .returned v ∧ ∃ t', w'' = f t' := h.mono fun _ _ ⟨he, hb⟩ => ⟨he, F.close _ _ hb⟩
theorem Fam.callSame {w : World} {T : Type} {f : T → World} (_F : Fam w T f) {P : Program} {g : FuncId} {args : Array Value} {t : T} {v : Value} (h : Calls P g args (f t) fun e w' => e = .returned v ∧ f t = w') :
    Calls P g args (f t) fun e w'' => e = .returned v ∧ ∃ t', w'' = f t' := h.mono fun _ _ ⟨he, hb⟩ => ⟨he, t, hb.symm⟩
theorem family {w w' : World} (h : Below w.heap.size w w') : Fam w { v : World // Below w'.heap.size w' v } Subtype.val :=
  ⟨fun t u hu => ⟨⟨u, t.2.trans (hu.mono t.2.size)⟩, rfl⟩, fun t => h.trans (t.2.mono h.size)⟩

def slot (a : Act) (t : Tmp) : Value := a.tmps.getD t undef
/-- the operations' values laid into their slots -/
def putAll : List Oper → List Value → Act → Act
  | o :: l, v :: vs, a => putAll l vs (a.put o.dst v)
  | _, _, a => a
theorem put_size (a : Act) (d : Option Tmp) (v : Value) : (a.put d v).tmps.size = a.tmps.size := by cases d <;> simp [Act.put]
theorem put_defers' (a : Act) (d : Option Tmp) (v : Value) : (a.put d v).defers = a.defers := by cases d <;> rfl
theorem slot_put_ne (a : Act) (d : Option Tmp) (v : Value) (t : Tmp) (h : d ≠ some t) : slot (a.put d v) t = slot a t := by
  cases d with
  | none => rfl
  | some d =>
    have : d ≠ t := fun e => h (by rw [e])
    simp [slot, Act.put, Array.getD_eq_getD_getElem?, Array.getElem?_setIfInBounds_ne this]
theorem slot_put (a : Act) (v : Value) (t : Tmp) (h : t < a.tmps.size) : slot (a.put (some t) v) t = v := by
  simp [slot, Act.put, Array.getD_eq_getD_getElem?, h]
theorem putAll_size : ∀ (l : List Oper) (vs : List Value) (a : Act), (putAll l vs a).tmps.size = a.tmps.size
  | [], _, _ => by simp [putAll]
  | _ :: _, [], _ => by simp [putAll]
  | o :: l, v :: vs, a => by rw [putAll, putAll_size, put_size]
theorem putAll_defers : ∀ (l : List Oper) (vs : List Value) (a : Act), (putAll l vs a).defers = a.defers
  | [], _, _ => by simp [putAll]
  | _ :: _, [], _ => by simp [putAll]
  | o :: l, v :: vs, a => by rw [putAll, putAll_defers, put_defers']
theorem putAll_out : ∀ (l : List Oper) (vs : List Value) (a : Act) (t : Tmp), (∀ o ∈ l, o.dst ≠ some t) → slot (putAll l vs a) t = slot a t
  | [], _, _, _, _ => by simp [putAll]
  | _ :: _, [], _, _, _ => by simp [putAll]
  | o :: l, v :: vs, a, t, h => by
    rw [putAll, putAll_out l vs _ t (fun o ho => h o (by simp [ho])), slot_put_ne _ _ _ _ (h o (by simp))]
/-- each slot is written once -/
def Once (l : List Oper) : Prop := l.Pairwise (fun o p => ∀ t, o.dst = some t → p.dst ≠ some t)
theorem putAll_at : ∀ (l : List Oper) (vs : List Value) (a : Act) (j : Nat) (o : Oper) (v : Value) (t : Tmp), Once l → l[j]? = some o → vs[j]? = some v → o.dst = some t → t < a.tmps.size → slot (putAll l vs a) t = v
  | [], _, _, j, _, _, _, _, h, _, _, _ => by simp at h
  | _ :: _, [], _, j, _, _, _, _, _, h, _, _ => by simp at h
  | o :: l, v :: vs, a, 0, o', v', t, h1, h2, h3, h4, h5 => by
    simp at h2 h3
    subst h2 h3
    rw [putAll, putAll_out l vs _ t (fun p hp => (List.pairwise_cons.1 h1).1 p hp t h4), h4, slot_put _ _ _ h5]
  | o :: l, v :: vs, a, j + 1, o', v', t, h1, h2, h3, h4, h5 => by
    simp at h2 h3
    rw [putAll]
    exact putAll_at l vs _ j o' v' t (List.pairwise_cons.1 h1).2 h2 h3 h4 (by rw [put_size]; exact h5)
theorem quiet_vals {ops : Array Oper} {C : World → Prop} {K : Act → Prop} : ∀ (l : List Oper) (a : Act), wpQuiet P ops C K l a →
    ∃ vs : List Value, vs.length = l.length ∧ K (putAll l vs a) ∧ ∀ (j : Nat) o v, l[j]? = some o → vs[j]? = some v → YieldsIn P ops C o v (putAll (l.take j) (vs.take j) a)
  | [], a, h => ⟨[], rfl, h, fun j o v ho => by simp at ho⟩
  | o :: l, a, h => by
    have h' : ∃ v, YieldsIn P ops C o v a ∧ wpQuiet P ops C K l (a.put o.dst v) := by
      unfold wpQuiet at h
      by_cases hw : Region.wanted o (yielded ops a.tmps) = true
      · simp only [hw, if_true] at h
        obtain ⟨v, h1, h2⟩ := h
        exact ⟨v, .inl ⟨hw, h1⟩, h2⟩
      · simp only [hw] at h
        exact ⟨undef, .inr ⟨by simpa using hw, rfl⟩, h⟩
    obtain ⟨v, hy, hK⟩ := h'
    obtain ⟨vs, h1, h2, h3⟩ := quiet_vals l _ hK
    refine ⟨v :: vs, by simp [h1], h2, fun j o' v' ho hv => ?_⟩
    cases j with
    | zero => simp at ho hv; subst ho hv; simpa [putAll] using hy
    | succ j => simp at ho hv; simpa [putAll] using h3 j o' v' ho hv

/-- a block that the region makes and fills: its slot, what is stored -/
abbrev Fresh := Tmp × List Value
/-- what the rule asks of the region's form: n operations that read or call, then one alloc for each fresh block, then one store into each -/
def formB (l : List Oper) (n m : Nat) : Bool :=
  l.all (fun o => o.guard.isNone) && Region.noSelect l.toArray && decide (l.length = n + 2 * m) &&
  -- the first n + m operations have slots, each its own
  (List.range (n + m)).all (fun i => (List.range i).all fun j => match (l[i]?).bind (·.dst), (l[j]?).bind (·.dst) with
    | some s, some t => s != t
    | _, _ => false) && (n + m == 0 || ((l[0]?).bind (·.dst)).isSome) &&
  -- a reading operation looks only at what it waits for
  (List.range n).all (fun i => match l[i]? with
    | some o => (List.range (n + m)).all fun j => match (l[j]?).bind (·.dst) with
      | some t => !(o.looksAt l.toArray).contains t || (decide (j < i) && o.after.any fun e => Region.binds .any e && e.on == j)
      | none => true
    | none => false) &&
  -- so does a store, and it waits for its alloc
  (List.range m).all (fun k => match l[n + m + k]? with
    | some o => o.dst.isNone && (o.after.any fun e => Region.binds .any e && e.on == n + k) && (List.range (n + m)).all fun j => match (l[j]?).bind (·.dst) with
      | some t => !(o.looksAt l.toArray).contains t || (decide (j < n ∨ j = n + k) && o.after.any fun e => Region.binds .any e && e.on == j)
      | none => true
    | none => false) &&
  (List.range l.length).all (fun i => match l[i]? with
    | some o => o.after.all fun e => !Region.binds .any e || decide (e.on < i)
    | none => true)
structure Form (l : List Oper) (n m : Nat) : Prop where
  guard : ∀ o ∈ l, o.guard = none
  sel : ∀ (j : Nat) (o : Oper) cs b, l[j]? = some o → o.op ≠ .select cs b
  len : l.length = n + 2 * m
  dst : ∀ i o, i < n + m → l[i]? = some o → ∃ t, o.dst = some t
  once : ∀ i j o p t, i < n + m → j < n + m → l[i]? = some o → l[j]? = some p → o.dst = some t → p.dst = some t → i = j
  looks : ∀ i o t j p, i < n → l[i]? = some o → t ∈ o.looksAt l.toArray → j < n + m → l[j]? = some p → p.dst = some t → j < i ∧ ∃ e ∈ o.after, Region.binds .any e = true ∧ e.on = j
  stDst : ∀ k o, k < m → l[n + m + k]? = some o → o.dst = none
  stAl : ∀ k o, k < m → l[n + m + k]? = some o → ∃ e ∈ o.after, Region.binds .any e = true ∧ e.on = n + k
  back : ∀ i o, l[i]? = some o → ∀ e ∈ o.after, Region.binds .any e = true → e.on < i
  stLooks : ∀ k o t j p, k < m → l[n + m + k]? = some o → t ∈ o.looksAt l.toArray → j < n + m → l[j]? = some p → p.dst = some t → (j < n ∨ j = n + k) ∧ ∃ e ∈ o.after, Region.binds .any e = true ∧ e.on = j
theorem any_edge {o : Oper} {j : Nat} (h : (o.after.any fun e => Region.binds .any e && e.on == j) = true) : ∃ e ∈ o.after, Region.binds .any e = true ∧ e.on = j := by
  obtain ⟨e, he, hb⟩ := Array.any_eq_true'.1 h
  simp only [Bool.and_eq_true, beq_iff_eq] at hb
  exact ⟨e, he, hb.1, hb.2⟩
theorem form_of {l : List Oper} {n m : Nat} (h : formB l n m = true) : Form l n m := by
  unfold formB at h
  simp only [Bool.and_eq_true] at h
  obtain ⟨⟨⟨⟨⟨⟨⟨h1, h2⟩, h3⟩, h4⟩, h5⟩, h6⟩, h7⟩, h8'⟩ := h
  have h3 : l.length = n + 2 * m := by simpa using h3
  have apart : ∀ i j, i < n + m → j < i → ∃ s t, (l[i]?).bind (·.dst) = some s ∧ (l[j]?).bind (·.dst) = some t ∧ s ≠ t := fun i j hi hj => by
    have := List.all_eq_true.1 (List.all_eq_true.1 h4 i (by simpa using hi)) j (by simpa using hj)
    split at this
    · rename_i s t hs ht; exact ⟨s, t, hs, ht, by simpa using this⟩
    · cases this
  have dst : ∀ i o, i < n + m → l[i]? = some o → ∃ t, o.dst = some t := fun i o hi ho => by
    cases i with
    | zero =>
      simp only [Bool.or_eq_true, beq_iff_eq] at h5
      rcases h5 with h5 | h5
      · omega
      · rw [ho] at h5; simpa [Option.isSome_iff_exists] using h5
    | succ i =>
      obtain ⟨s, _, hs, _, _⟩ := apart (i + 1) 0 hi (by omega)
      rw [ho] at hs; exact ⟨s, by simpa using hs⟩
  refine ⟨fun o ho => by simpa using List.all_eq_true.1 h1 o ho, fun j o cs b ho => Region.noSelect_spec h2 j o cs b (by simpa using ho), h3, dst, fun i j o p t hi hj ho hp h8 h9 => ?_, fun i o t j p hi ho ht hj hp h8 => ?_, fun k o hk ho => ?_, fun k o hk ho => ?_, fun i o ho e he hb => ?_, fun k o t j p hk ho ht hj hp h8 => ?_⟩
  · rcases Nat.lt_trichotomy i j with h10 | h10 | h10
    · obtain ⟨s, u, hs, hu, hne⟩ := apart j i hj h10
      rw [hp] at hs; rw [ho] at hu
      simp [h8, h9] at hs hu
      exact absurd (hs.symm.trans hu) hne
    · exact h10
    · obtain ⟨s, u, hs, hu, hne⟩ := apart i j hi h10
      rw [ho] at hs; rw [hp] at hu
      simp [h8, h9] at hs hu
      exact absurd (hs.symm.trans hu) hne
  · have h10 := List.all_eq_true.1 h6 i (by simpa using hi)
    simp only [ho] at h10
    have h11 := List.all_eq_true.1 h10 j (by simpa using hj)
    simp only [hp, Option.bind_some, h8, Bool.or_eq_true, Bool.and_eq_true, decide_eq_true_eq, Bool.not_eq_true'] at h11
    rcases h11 with h11 | ⟨h11, h12⟩
    · rw [show (o.looksAt l.toArray).contains t = true from by simpa using ht] at h11; cases h11
    · exact ⟨h11, any_edge h12⟩
  · have h10 := List.all_eq_true.1 h7 k (by simpa using hk)
    simp only [ho, Bool.and_eq_true] at h10
    simpa using h10.1.1
  · have h10 := List.all_eq_true.1 h7 k (by simpa using hk)
    simp only [ho, Bool.and_eq_true] at h10
    exact any_edge h10.1.2
  · have hi : i < l.length := (List.getElem?_eq_some_iff.1 ho).1
    have h10 := List.all_eq_true.1 h8' i (by simpa using hi)
    simp only [ho] at h10
    have h11 := Array.all_eq_true_iff_forall_mem.1 h10 e he
    simpa [hb] using h11
  · have h10 := List.all_eq_true.1 h7 k (by simpa using hk)
    simp only [ho, Bool.and_eq_true] at h10
    have h11 := List.all_eq_true.1 h10.2 j (by simpa using hj)
    simp only [hp, Option.bind_some, h8, Bool.or_eq_true, Bool.and_eq_true, decide_eq_true_eq, Bool.not_eq_true'] at h11
    rcases h11 with h11 | ⟨h11, h12⟩
    · rw [show (o.looksAt l.toArray).contains t = true from by simpa using ht] at h11; cases h11
    · exact ⟨h11, any_edge h12⟩
theorem cnt_set {s : Array Bool} {i : Nat} (h : s.getD i true = false) : (s.setIfInBounds i true).toList.count false < s.toList.count false := by
  have hi : i < s.size := by
    rcases Nat.lt_or_ge i s.size with h' | h'
    · exact h'
    · rw [Array.getD_eq_getD_getElem?, Array.getElem?_eq_none h'] at h; cases h
  have hv : s.toList[i]'(by simpa using hi) = false := by
    simpa [Array.getD_eq_getD_getElem?, hi] using h
  rw [Array.toList_setIfInBounds, List.count_set (by simpa using hi), hv]
  have hp : 0 < s.toList.count false := List.count_pos_iff.2 (by rw [← hv]; exact List.getElem_mem _)
  simp only [beq_self_eq_true, if_true]
  have : ((true == false) = true) = False := by simp
  simp only [this, if_false]
  omega
theorem wpAny_inv {ops : Array Oper} {Q : Exit → Act → World → Prop} {Inv : Array Bool → Act → World → Prop}
    (step : ∀ s a w i, Inv s a w → i ∈ Region.ready .any ops s → wpOp P ops Q i (Inv (s.setIfInBounds i true)) a w)
    (fin : ∀ s a w, Inv s a w → Region.ready .any ops s = [] → Q .normal a w) : ∀ (f : Nat) (s : Array Bool) (a : Act) (w : World), s.toList.count false ≤ f → Inv s a w → wpAny P .any ops Q f s a w
  | 0, s, a, w, hc, h => by
    have hr : Region.ready .any ops s = [] := List.eq_nil_iff_forall_not_mem.2 fun i hi => by
      have := cnt_set (mem_ready.1 hi).1
      omega
    exact ⟨hr, fin s a w h hr⟩
  | f + 1, s, a, w, hc, h => ⟨fin s a w h, fun i hi => wpOp_mono (fun a' w' h' => wpAny_inv step fin f _ a' w' (by have := cnt_set (mem_ready.1 hi).1; omega) h') (step s a w i h hi)⟩

def putFr : List Fresh → (Nat → Nat) → Nat → Act → Act
  | [], _, _, a => a
  | x :: r, B, k, a => putFr r B (k + 1) (a.put (some x.1) (.pointer (some ⟨B k, 0, none⟩)))
theorem putFr_size : ∀ (r : List Fresh) (B : Nat → Nat) (k : Nat) (a : Act), (putFr r B k a).tmps.size = a.tmps.size
  | [], _, _, _ => rfl
  | x :: r, B, k, a => by rw [putFr, putFr_size, put_size]
theorem putFr_defers : ∀ (r : List Fresh) (B : Nat → Nat) (k : Nat) (a : Act), (putFr r B k a).defers = a.defers
  | [], _, _, _ => rfl
  | x :: r, B, k, a => by rw [putFr, putFr_defers, put_defers']
theorem putFr_out : ∀ (r : List Fresh) (B : Nat → Nat) (k : Nat) (a : Act) (t : Tmp), (∀ x ∈ r, x.1 ≠ t) → slot (putFr r B k a) t = slot a t
  | [], _, _, _, _, _ => rfl
  | x :: r, B, k, a, t, h => by
    rw [putFr, putFr_out r B (k + 1) _ t (fun y hy => h y (by simp [hy])), slot_put_ne _ _ _ _ (fun e => h x (by simp) (Option.some.inj e))]
theorem putFr_at : ∀ (r : List Fresh) (B : Nat → Nat) (k : Nat) (a : Act) (j : Nat) (x : Fresh), (r.map (·.1)).Nodup → r[j]? = some x → x.1 < a.tmps.size → slot (putFr r B k a) x.1 = .pointer (some ⟨B (k + j), 0, none⟩)
  | [], _, _, _, _, _, _, h, _ => by simp at h
  | y :: r, B, k, a, 0, x, h1, h2, h3 => by
    simp at h2
    subst h2
    rw [putFr, putFr_out r B (k + 1) _ _ (fun z hz e => (List.nodup_cons.1 h1).1 (List.mem_map.2 ⟨z, hz, e⟩)), slot_put _ _ _ h3]
    rfl
  | y :: r, B, k, a, j + 1, x, h1, h2, h3 => by
    simp at h2
    rw [putFr, putFr_at r B (k + 1) _ j x (List.nodup_cons.1 h1).2 h2 (by rw [put_size]; exact h3), show k + 1 + j = k + (j + 1) by omega]
theorem act_ext {a b : Act} (hs : a.tmps.size = b.tmps.size) (hd : a.defers = b.defers) (h : ∀ t, t < a.tmps.size → slot a t = slot b t) : a = b := by
  obtain ⟨x, d⟩ := a
  obtain ⟨y, e⟩ := b
  simp only at hd
  subst hd
  congr 1
  refine Array.ext hs fun i h1 h2 => ?_
  have := h i h1
  simpa [slot, Array.getD_eq_getD_getElem?, h1, show i < y.size from h2] using this
theorem there_below {w w' : World} {b n : Nat} (h : w.there b 0 n) (hb : Below w.heap.size w w') (hlt : b < w.heap.size) : w'.there b 0 n := fun j hj => by
  obtain ⟨h1, h2⟩ := h j hj
  exact ⟨by rw [hb.cell (p := ⟨b, 0 + j, none⟩) hlt]; exact h1, by rw [hb.frozen (p := ⟨b, 0 + j, none⟩) hlt]; exact h2⟩
theorem range_below {w w' : World} {b : Nat} {cs : List Value} (h : w.rangeAt b 0 cs) (hb : Below w.heap.size w w') (hlt : b < w.heap.size) : w'.rangeAt b 0 cs := fun j v hj => by
  rw [hb.cell (p := ⟨b, 0 + j, none⟩) hlt]; exact h j v hj
theorem size_setCells (b : Nat) : ∀ (vs : List Value) (o : Nat) (w : World), (w.setCells b o vs).heap.size = w.heap.size
  | [], _, _ => rfl
  | v :: vs, o, w => by rw [World.setCells, size_setCells b vs]; simp
theorem below_cells {B b : Nat} {a : World} (hb : B ≤ b) : ∀ (vs : List Value) (o : Nat) (w : World), Below B a w → Below B a (w.setCells b o vs)
  | [], _, _, h => h
  | v :: vs, o, w, h => below_cells hb vs (o + 1) _ (h.setCell (p := ⟨b, o, none⟩) hb v)

structure Inv (l : List Oper) (n m : Nat) (fr : List Fresh) (a0 aN : Act) (w0 : World) (s : Array Bool) (a : Act) (w : World) : Prop where
  ssize : s.size = l.length
  closed : ∀ i o, l[i]? = some o → s.getD i false = true → ∀ e ∈ o.after, Region.binds .any e = true → s.getD e.on false = true
  below : Below w0.heap.size w0 w
  asize : a.tmps.size = a0.tmps.size
  defers : a.defers = a0.defers
  qs : ∀ j o t, j < n → l[j]? = some o → o.dst = some t → s.getD j false = true → slot a t = slot aN t
  un : ∀ t, (∀ j o, j < n + m → l[j]? = some o → o.dst = some t → s.getD j false = false) → slot a t = slot a0 t
  bl : ∃ B : Nat → Nat, (∀ k x, fr[k]? = some x → s.getD (n + k) false = true → slot a x.1 = .pointer (some ⟨B k, 0, none⟩) ∧ w0.heap.size ≤ B k ∧ B k < w.heap.size ∧ w.there (B k) 0 x.2.length ∧ (s.getD (n + m + k) false = true → w.rangeAt (B k) 0 x.2)) ∧
    (∀ k k', k < m → k' < m → k ≠ k' → s.getD (n + k) false = true → s.getD (n + k') false = true → B k ≠ B k')

theorem getD_set {s : Array Bool} {i j : Nat} (hi : i < s.size) : (s.setIfInBounds i true).getD j false = if i = j then true else s.getD j false := by
  by_cases e : i = j
  · subst e; simp [Array.getD_eq_getD_getElem?, hi]
  · simp [Array.getD_eq_getD_getElem?, Array.getElem?_setIfInBounds_ne e, e]
theorem eval_eq {a b : Act} {o : Oper} {ops : Array Oper} (h : ∀ t, t ∈ o.looksAt ops → slot a t = slot b t) (x : Operand) (hx : x ∈ o.op.operands) : a.eval x = b.eval x := by
  cases x with
  | tmp t => exact h t (List.mem_append_left _ (List.mem_filterMap.2 ⟨.tmp t, by simpa using hx, rfl⟩))
  | _ => rfl

theorem wp_of_at {o : Oper} {a : Act} {v : Value} {C : World → Prop} {K : Act → World → Prop} {Q : Exit → Act → World → Prop} {w : World} (hC : C w) (h : ∀ w', C w' → K (a.put o.dst v) w') (hq : o.quietAt P a C w v) : o.wp P a w K Q := by
  unfold Oper.quietAt at hq
  unfold Oper.wp
  generalize (execOp a.eval o).run P w = r at *
  cases r with
  | ok n w' =>
    cases n <;> simp only [Oper.quietUpon] at hq <;> simp only [Oper.upon]
    case value u =>
      obtain ⟨e1, e2⟩ := hq
      rw [e1, e2]
      exact h _ hC
    case skip =>
      obtain ⟨e1, e2⟩ := hq
      rw [e1, ← e2]
      exact h _ hC
    case enter f args =>
      obtain ⟨e1, hc⟩ := hq
      rw [e1]
      exact hc.mono fun e w'' ⟨he, hw''⟩ => by subst he; exact h _ hw''
  | halt x w' => simp only [Oper.quietUpon] at hq
/-- THE RULE: n operations that read or call, then m new blocks, then one store into each, in whatever order. -/
theorem fresh {id : Nat} {Q : Exit → Act → World → Prop} {a0 : Act} {w : World} {l : List Oper} (n m : Nat) (fr : List Fresh) (aN : Act) (hm : P.follows .mixedOrders = true) (hB : formB l n m = true) (hfr : fr.length = m)
    (hsz : ∀ i o t, i < n + m → l[i]? = some o → o.dst = some t → t < a0.tmps.size)
    (hwalk : ∀ (T : Type) (f : T → World), Fam w T f → Nonempty T → wpQuiet P l.toArray (fun w' => ∃ t, w' = f t) (fun b => b = aN) (l.take n) a0)
    (hal : ∀ k x, fr[k]? = some x → ∀ o, l[n + k]? = some o → o.dst = some x.1 ∧ ∀ (a : Act) (w : World), ∃ (zs : List Value) (T : TypeId), zs.length = x.2.length ∧ (execOp a.eval o).run P w = .ok (.value (.pointer (some ⟨w.heap.size, 0, none⟩))) (w.alloc (.cells zs.toArray T)))
    (hst : ∀ k x, fr[k]? = some x → ∀ o, l[n + m + k]? = some o → ∀ (a : Act) (w : World) (b : Nat), slot a x.1 = .pointer (some ⟨b, 0, none⟩) → (∀ t, t ∈ o.looksAt l.toArray → t ≠ x.1 → slot a t = slot aN t) → w.there b 0 x.2.length →
      (execOp a.eval o).run P w = .ok .skip (w.setCells b 0 x.2))
    (fin : ∀ (B : Nat → Nat) (w' : World), Below w.heap.size w w' → (∀ k x, fr[k]? = some x → w.heap.size ≤ B k ∧ B k < w'.heap.size ∧ w'.rangeAt (B k) 0 x.2 ∧ w'.there (B k) 0 x.2.length) → (∀ k k', k < m → k' < m → k ≠ k' → B k ≠ B k') → Q .normal (putFr fr B 0 aN) w') :
    (Code.region id l.toArray true).wp P Q a0 w := by
  have F := form_of hB
  have hlen := F.len
  have once : Once (l.take n) := by
    refine List.pairwise_iff_getElem.2 fun i j hi hj hij t h1 h2 => ?_
    simp only [List.length_take] at hi hj
    simp only [List.getElem_take] at h1 h2
    have := F.once i j _ _ t (by omega) (by omega) (List.getElem?_eq_getElem (by omega)) (List.getElem?_eq_getElem (by omega)) h1 h2
    omega
  -- the quiet values, from any world
  have vals : ∀ w', Below w.heap.size w w' → ∃ vs : List Value, vs.length = n ∧ putAll (l.take n) vs a0 = aN ∧ ∀ (j : Nat) o v, j < n → l[j]? = some o → vs[j]? = some v → YieldsIn P l.toArray (fun u => Below w'.heap.size w' u) o v (putAll ((l.take n).take j) (vs.take j) a0) := fun w' hw' => by
    obtain ⟨vs, h1, h2, h3⟩ := quiet_vals _ _ (hwalk _ _ (family hw') ⟨⟨w', Below.refl _ _⟩⟩)
    refine ⟨vs, by rw [h1]; simp; omega, h2, fun j o v hj ho hv => ?_⟩
    have := h3 j o v (by rw [List.getElem?_take]; simp [hj, ho]) hv
    have hC : (fun u => ∃ t : { v : World // Below w'.heap.size w' v }, u = t.val) = (fun u => Below w'.heap.size w' u) := funext fun u => propext ⟨fun ⟨t, e⟩ => by rw [e]; exact t.2, fun h => ⟨⟨u, h⟩, rfl⟩⟩
    rwa [hC] at this
  obtain ⟨vs0, g1, g2, _⟩ := vals w (Below.refl _ _)
  have aNsize : aN.tmps.size = a0.tmps.size := by rw [← g2, putAll_size]
  have aNdef : aN.defers = a0.defers := by rw [← g2, putAll_defers]
  have aNout : ∀ t, (∀ j o, j < n → l[j]? = some o → o.dst ≠ some t) → slot aN t = slot a0 t := fun t h => by
    rw [← g2]
    exact putAll_out _ _ _ t (fun o ho => by
      obtain ⟨j, hj⟩ := List.getElem?_of_mem ho
      rw [List.getElem?_take] at hj
      split at hj
      · rename_i hjn; exact h j o hjn hj
      · cases hj)
  have frD : ∀ k x, fr[k]? = some x → k < m ∧ ∃ o, l[n + k]? = some o ∧ o.dst = some x.1 := fun k x hx => by
    have hk : k < m := by have := (List.getElem?_eq_some_iff.1 hx).1; omega
    exact ⟨hk, _, List.getElem?_eq_getElem (by omega), (hal k x hx _ (List.getElem?_eq_getElem (by omega))).1⟩
  have nod : (fr.map (·.1)).Nodup := by
    refine List.pairwise_iff_getElem.2 fun i j hi hj hij e => ?_
    simp only [List.length_map] at hi hj
    simp only [List.getElem_map] at e
    obtain ⟨hi', o, ho, hod⟩ := frD i _ (List.getElem?_eq_getElem hi)
    obtain ⟨hj', p, hp, hpd⟩ := frD j _ (List.getElem?_eq_getElem hj)
    have := F.once (n + i) (n + j) o p _ (by omega) (by omega) ho hp hod (by rw [e]; exact hpd)
    omega
  refine wp_region_any hm (wpAny_inv (Inv := Inv l n m fr a0 aN w) ?step ?done _ _ _ _ (by simp) ?start)
  case start =>
    have hz : ∀ j, (Array.replicate l.toArray.size false).getD j false = false := fun j => by
      rw [Array.getD_eq_getD_getElem?, Array.getElem?_replicate]; split <;> rfl
    exact ⟨by simp, fun i o _ h => (by rw [hz] at h; cases h), ⟨rfl, rfl, rfl, Nat.le_refl _, fun _ _ => rfl⟩, rfl, rfl, fun j o t _ _ _ h => (by rw [hz] at h; cases h), fun t _ => rfl, fun _ => 0, fun k x _ h => (by rw [hz] at h; cases h), fun k k' _ _ _ h => (by rw [hz] at h; cases h)⟩
  case done =>
    intro s a w' I hr
    have all : ∀ i, i < l.length → s.getD i false = true := by
      intro i
      induction i using Nat.strongRecOn with
      | ind i ih =>
        intro hi
        by_cases h : s.getD i false = true
        · exact h
        · exfalso
          have : i ∈ Region.ready .any l.toArray s := mem_ready.2 ⟨by
            have hs : i < s.size := by rw [I.ssize]; exact hi
            simpa [Array.getD_eq_getD_getElem?, hs] using h, l[i], by simp [hi], fun e he hb => by
              have := F.back i l[i] (List.getElem?_eq_getElem hi) e he hb
              exact ih e.on this (by omega)⟩
          rw [hr] at this
          cases this
    obtain ⟨B, b1, b2⟩ := I.bl
    have ha : a = putFr fr B 0 aN := by
      refine act_ext (by rw [putFr_size, aNsize, I.asize]) (by rw [putFr_defers, aNdef, I.defers]) fun t ht => ?_
      by_cases h1 : ∃ j o, j < n ∧ l[j]? = some o ∧ o.dst = some t
      · obtain ⟨j, o, hj, ho, hd⟩ := h1
        rw [I.qs j o t hj ho hd (all j (by omega)), putFr_out fr B 0 aN t fun x hx e => ?_]
        obtain ⟨k, hk⟩ := List.getElem?_of_mem hx
        obtain ⟨hk', p, hp, hpd⟩ := frD k x hk
        have := F.once j (n + k) o p t (by omega) (by omega) ho hp hd (by rw [← e]; exact hpd)
        omega
      · by_cases h2 : ∃ (k : Nat) (x : Fresh), fr[k]? = some x ∧ x.1 = t
        · obtain ⟨k, x, hx, rfl⟩ := h2
          have hk := (frD k x hx).1
          rw [(b1 k x hx (all _ (by omega))).1, putFr_at fr B 0 aN k x nod hx (by rw [aNsize, ← I.asize]; exact ht), Nat.zero_add]
        · rw [putFr_out fr B 0 aN t fun x hx e => h2 (by
            obtain ⟨k, hk⟩ := List.getElem?_of_mem hx
            exact ⟨k, x, hk, e⟩), aNout t fun j o hj ho hd => h1 ⟨j, o, hj, ho, hd⟩]
          refine I.un t fun j o hj ho hd => ?_
          exfalso
          rcases Nat.lt_or_ge j n with h3 | h3
          · exact h1 ⟨j, o, h3, ho, hd⟩
          · have hx : fr[j - n]? = some fr[j - n] := List.getElem?_eq_getElem (by omega)
            obtain ⟨_, p, hp, hpd⟩ := frD (j - n) _ hx
            rw [show n + (j - n) = j by omega, ho] at hp
            cases hp
            exact h2 ⟨j - n, _, hx, Option.some.inj (hpd.symm.trans hd)⟩
    rw [ha]
    refine fin B w' I.below (fun k x hx => ?_) fun k k' hk hk' hne => b2 k k' hk hk' hne (all _ (by omega)) (all _ (by omega))
    have hk := (frD k x hx).1
    obtain ⟨_, c1, c2, c3, c4⟩ := b1 k x hx (all _ (by omega))
    exact ⟨c1, c2, c4 (all _ (by omega)), c3⟩
  case step =>
    intro s a w' i I hi
    obtain ⟨hun, o, ho, hall⟩ := mem_ready.1 hi
    have hil : i < l.length := by
      rcases Nat.lt_or_ge i l.length with h | h
      · exact h
      · simp [h] at ho
    have his : i < s.size := by rw [I.ssize]; exact hil
    have ho' : l[i]? = some o := by simpa using ho
    have hof : s.getD i false = false := by simpa [Array.getD_eq_getD_getElem?, his] using hun
    have hg : o.guard = none := F.guard o (List.mem_of_getElem? ho')
    have hwant : ∀ ys, Region.wanted o ys = true := fun ys => by simp [Region.wanted, hg]
    obtain ⟨B, b1, b2⟩ := I.bl
    have fuel : (s.setIfInBounds i true).size = l.length := by simpa using I.ssize
    have clo : ∀ j p, l[j]? = some p → (s.setIfInBounds i true).getD j false = true → ∀ e ∈ p.after, Region.binds .any e = true → (s.setIfInBounds i true).getD e.on false = true := fun j p hp hj e he hb => by
      rw [getD_set his] at hj ⊢
      split
      · rfl
      · by_cases h : i = j
        · subst h
          rw [ho'] at hp
          cases hp
          exact hall e he hb
        · rw [if_neg h] at hj
          exact I.closed j p hp hj e he hb
    rcases Nat.lt_or_ge i n with hin | hin
    · -- a reading operation
      obtain ⟨vs, v1, v2, v3⟩ := vals w' I.below
      obtain ⟨v, hv⟩ : ∃ v, vs[i]? = some v := ⟨_, List.getElem?_eq_getElem (by omega)⟩
      have hy := v3 i o v hin ho' hv
      obtain ⟨t, htd⟩ := F.dst i o (by omega) ho'
      have hvN : slot aN t = v := by
        rw [← v2]
        exact putAll_at _ _ _ i o v t once (by rw [List.getElem?_take]; simp [hin, ho']) hv htd (hsz i o t (by omega) ho' htd)
      -- the frame looks alike
      have alike : ∀ t', t' ∈ o.looksAt l.toArray → slot a t' = slot (putAll ((l.take n).take i) (vs.take i) a0) t' := fun t' ht' => by
        by_cases h1 : ∃ j p, j < n + m ∧ l[j]? = some p ∧ p.dst = some t'
        · obtain ⟨j, p, hj, hp, hpd⟩ := h1
          obtain ⟨hji, e, he, hb, heo⟩ := F.looks i o t' j p hin ho' ht' hj hp hpd
          have hlj : s.getD j false = true := by rw [← heo]; exact hall e he hb
          obtain ⟨u, hu⟩ : ∃ u, vs[j]? = some u := ⟨_, List.getElem?_eq_getElem (by omega)⟩
          have e1 : slot aN t' = u := by
            rw [← v2]
            exact putAll_at _ _ _ j p u t' once (by rw [List.getElem?_take]; simp [show j < n by omega, hp]) hu hpd (hsz j p t' hj hp hpd)
          rw [I.qs j p t' (by omega) hp hpd hlj, e1]
          refine (putAll_at _ _ _ j p u t' ?_ ?_ ?_ hpd (hsz j p t' hj hp hpd)).symm
          · exact List.Pairwise.sublist (List.take_sublist _ _) once
          · rw [List.getElem?_take, List.getElem?_take]; simp [hji, show j < n by omega, hp]
          · rw [List.getElem?_take]; simp [hji, hu]
        · rw [I.un t' fun j p hj hp hpd => absurd ⟨j, p, hj, hp, hpd⟩ h1]
          refine (putAll_out _ _ _ t' fun p hp e => h1 ?_).symm
          obtain ⟨j, hj⟩ := List.getElem?_of_mem hp
          rw [List.getElem?_take, List.getElem?_take] at hj
          split at hj
          · split at hj
            · exact ⟨j, p, by omega, hj, e⟩
            · cases hj
          · cases hj
      have hq : o.quietAt P a (fun u => Below w'.heap.size w' u) w' v := by
        rcases hy with ⟨_, hy⟩ | ⟨hy, _⟩
        · have := hy w' (Below.refl _ _)
          unfold Oper.quietAt at *
          rwa [execOp_congr (ρ := a.eval) (ρ' := (putAll ((l.take n).take i) (vs.take i) a0).eval) o (fun cs b => F.sel i o cs b ho') (eval_eq alike)]
        · rw [hwant] at hy; cases hy
      unfold wpOp
      simp only [ho, hwant, if_true]
      left
      refine wp_of_at (C := fun u => Below w'.heap.size w' u) (Below.refl _ _) (fun w'' hb => ?_) hq
      · skip
        refine ⟨fuel, clo, I.below.trans (hb.mono I.below.size), by rw [put_size]; exact I.asize, by rw [put_defers']; exact I.defers, fun j p t' hj hp hpd hl => ?_, fun t' h => ?_, B, fun k x hx hl => ?_, fun k k' hk hk' hne h1 h2 => ?_⟩
        · rw [getD_set his] at hl
          by_cases e : i = j
          · subst e
            rw [ho'] at hp
            cases hp
            rw [htd] at hpd ⊢
            cases hpd
            rw [slot_put _ _ _ (by rw [I.asize]; exact hsz i o t (by omega) ho' htd), hvN]
          · simp only [e, if_false] at hl
            rw [slot_put_ne _ _ _ _ (fun e1 => e (F.once i j o p t' (by omega) (by omega) ho' hp e1 hpd))]
            exact I.qs j p t' hj hp hpd hl
        · have h0 := h i o (by omega) ho'
          rw [getD_set his] at h0
          rw [slot_put_ne _ _ _ _ (fun e1 => by have := h0 e1; simp at this)]
          exact I.un t' fun j p hj hp hpd => by
            have := h j p hj hp hpd
            rw [getD_set his] at this
            split at this
            · cases this
            · exact this
        · obtain ⟨hk, p, hp, hpd⟩ := frD k x hx
          rw [getD_set his, if_neg (by omega)] at hl
          obtain ⟨c1, c2, c3, c4, c5⟩ := b1 k x hx hl
          refine ⟨?_, c2, Nat.lt_of_lt_of_le c3 hb.size, there_below c4 hb c3, fun h => range_below (c5 ?_) hb c3⟩
          · rw [slot_put_ne _ _ _ _ (fun e1 => by have := F.once i (n + k) o p x.1 (by omega) (by omega) ho' hp e1 hpd; omega)]
            exact c1
          · rw [getD_set his, if_neg (by omega)] at h
            exact h
        · rw [getD_set his, if_neg (by omega)] at h1 h2
          exact b2 k k' hk hk' hne h1 h2
    · rcases Nat.lt_or_ge i (n + m) with him | him
      · -- a new block
        obtain ⟨k, rfl⟩ : ∃ k, i = n + k := ⟨i - n, by omega⟩
        obtain ⟨x, hx⟩ : ∃ x : Fresh, fr[k]? = some x := ⟨_, List.getElem?_eq_getElem (by omega)⟩
        obtain ⟨hd, hrun⟩ := hal k x hx o ho'
        obtain ⟨zs, T, hz, hrun⟩ := hrun a w'
        unfold wpOp
        simp only [ho, hwant, if_true]
        left
        unfold Oper.wp
        rw [hrun]
        show Inv l n m fr a0 aN w _ _ _
        have hb : Below w'.heap.size w' (w'.alloc (.cells zs.toArray T)) := (Below.refl _ _).alloc (Nat.le_refl _) _
        have hxs : x.1 < a.tmps.size := by rw [I.asize]; exact hsz (n + k) o x.1 him ho' hd
        refine ⟨fuel, clo, I.below.trans (hb.mono I.below.size), by rw [put_size]; exact I.asize, by rw [put_defers']; exact I.defers, fun j p t' hj hp hpd hl => ?_, fun t' h => ?_, fun k' => if k' = k then w'.heap.size else B k', fun k' y hy hl => ?_, fun k1 k2 hk1 hk2 hne h1 h2 => ?_⟩
        · rw [getD_set his, if_neg (by omega)] at hl
          rw [slot_put_ne _ _ _ _ (fun e1 => by have := F.once (n + k) j o p t' (by omega) (by omega) ho' hp e1 hpd; omega)]
          exact I.qs j p t' hj hp hpd hl
        · have h0 := h (n + k) o (by omega) ho'
          rw [getD_set his] at h0
          rw [slot_put_ne _ _ _ _ (fun e1 => by have := h0 e1; simp at this)]
          exact I.un t' fun j p hj hp hpd => by
            have := h j p hj hp hpd
            rw [getD_set his] at this
            split at this
            · cases this
            · exact this
        · obtain ⟨hk', p, hp, hpd⟩ := frD k' y hy
          by_cases e : k' = k
          · subst e
            rw [hx] at hy
            cases hy
            simp only [if_true]
            refine ⟨by rw [hd]; exact slot_put _ _ _ hxs, I.below.size, by simp, fun j hj => ?_, fun h => ?_⟩
            · have hjz : j < zs.length := by omega
              constructor
              · simp [hjz]
              · simp [go_sem]
            · rw [getD_set his, if_neg (by omega)] at h
              exfalso
              obtain ⟨e, he, hb, heo⟩ := F.stAl k' l[n + m + k'] hk' (List.getElem?_eq_getElem (by omega))
              have := I.closed (n + m + k') _ (List.getElem?_eq_getElem (by omega)) h e he hb
              rw [heo, hof] at this
              cases this
          · simp only [e, if_false]
            rw [getD_set his, if_neg (by omega)] at hl
            obtain ⟨c1, c2, c3, c4, c5⟩ := b1 k' y hy hl
            refine ⟨?_, c2, Nat.lt_of_lt_of_le c3 hb.size, there_below c4 hb c3, fun h => range_below (c5 ?_) hb c3⟩
            · rw [slot_put_ne _ _ _ _ (fun e1 => by have := F.once (n + k) (n + k') o p y.1 (by omega) (by omega) ho' hp e1 hpd; omega)]
              exact c1
            · rw [getD_set his, if_neg (by omega)] at h
              exact h
        · rw [getD_set his] at h1 h2
          by_cases e1 : k1 = k
          · by_cases e2 : k2 = k
            · omega
            · rw [if_neg (by omega)] at h2
              obtain ⟨y, hy⟩ : ∃ y : Fresh, fr[k2]? = some y := ⟨_, List.getElem?_eq_getElem (by omega)⟩
              have := (b1 k2 y hy h2).2.2.1
              simp only [e1, e2, if_true, if_false]
              omega
          · rw [if_neg (by omega)] at h1
            obtain ⟨y, hy⟩ : ∃ y : Fresh, fr[k1]? = some y := ⟨_, List.getElem?_eq_getElem (by omega)⟩
            have := (b1 k1 y hy h1).2.2.1
            by_cases e2 : k2 = k
            · simp only [e1, e2, if_true, if_false]
              omega
            · rw [if_neg (by omega)] at h2
              simp only [e1, e2, if_false]
              exact b2 k1 k2 hk1 hk2 hne h1 h2
      · -- a store
        obtain ⟨k, rfl⟩ : ∃ k, i = n + m + k := ⟨i - (n + m), by omega⟩
        have hkm : k < m := by omega
        obtain ⟨x, hx⟩ : ∃ x : Fresh, fr[k]? = some x := ⟨_, List.getElem?_eq_getElem (by omega)⟩
        obtain ⟨_, p0, hp0, hp0d⟩ := frD k x hx
        have hd := F.stDst k o hkm ho'
        obtain ⟨e0, he0, hb0, heo0⟩ := F.stAl k o hkm ho'
        have hla : s.getD (n + k) false = true := by rw [← heo0]; exact hall e0 he0 hb0
        obtain ⟨c1, c2, c3, c4, c5⟩ := b1 k x hx hla
        have hrun := hst k x hx o ho' a w' (B k) c1 (fun t' ht' hne => by
          by_cases h1 : ∃ j p, j < n + m ∧ l[j]? = some p ∧ p.dst = some t'
          · obtain ⟨j, p, hj, hp, hpd⟩ := h1
            obtain ⟨hjk, e, he, hb, heo⟩ := F.stLooks k o t' j p hkm ho' ht' hj hp hpd
            have hlj : s.getD j false = true := by rw [← heo]; exact hall e he hb
            rcases Nat.lt_or_ge j n with h3 | h3
            · exact I.qs j p t' h3 hp hpd hlj
            · exfalso
              obtain rfl : j = n + k := by omega
              rw [hp0] at hp
              cases hp
              exact hne (Option.some.inj (hpd.symm.trans hp0d))
          · rw [I.un t' fun j p hj hp hpd => absurd ⟨j, p, hj, hp, hpd⟩ h1]
            exact (aNout t' fun j p hj hp hpd => h1 ⟨j, p, by omega, hp, hpd⟩).symm) c4
        unfold wpOp
        simp only [ho, hwant, if_true]
        left
        unfold Oper.wp
        rw [hrun]
        show Inv l n m fr a0 aN w _ _ _
        rw [hd]
        show Inv l n m fr a0 aN w _ a _
        have hsz' := size_setCells (B k) x.2 0 w'
        refine ⟨fuel, clo, below_cells c2 _ _ _ I.below, I.asize, I.defers, fun j p t' hj hp hpd hl => ?_, fun t' h => ?_, B, fun k' y hy hl => ?_, fun k1 k2 hk1 hk2 hne h1 h2 => ?_⟩
        · rw [getD_set his, if_neg (by omega)] at hl
          exact I.qs j p t' hj hp hpd hl
        · exact I.un t' fun j p hj hp hpd => by
            have := h j p hj hp hpd
            rw [getD_set his, if_neg (by omega)] at this
            exact this
        · obtain ⟨hk', p, hp, hpd⟩ := frD k' y hy
          rw [getD_set his, if_neg (by omega)] at hl
          obtain ⟨d1, d2, d3, d4, d5⟩ := b1 k' y hy hl
          refine ⟨d1, d2, by rw [hsz']; exact d3, World.there_setCells d4 _ _ _, fun h => ?_⟩
          by_cases e : k' = k
          · subst e
            rw [hx] at hy
            cases hy
            exact World.rangeAt_setCells_same _ _ _ _ c4
          · rw [getD_set his, if_neg (by omega)] at h
            exact World.rangeAt_setCells_apart (d5 h) _ _ _ (.inl (b2 k' k hk' hkm e hl hla))
        · rw [getD_set his, if_neg (by omega)] at h1 h2
          exact b2 k1 k2 hk1 hk2 hne h1 h2
/-- .. with the values of the reading operations written out -/
theorem freshV {id : Nat} {Q : Exit → Act → World → Prop} {a0 : Act} {w : World} {l : List Oper} (n m : Nat) (vs : List Value) (fr : List Fresh) (hm : P.follows .mixedOrders = true) (hB : formB l n m = true) (hfr : fr.length = m)
    (hsz : (List.range (n + m)).all (fun i => match (l[i]?).bind (·.dst) with | some t => decide (t < a0.tmps.size) | none => true) = true)
    (hwalk : ∀ (T : Type) (f : T → World), Fam w T f → Nonempty T → wpQuiet P l.toArray (fun w' => ∃ t, w' = f t) (fun b => b = putAll (l.take n) vs a0) (l.take n) a0)
    (hal : ∀ k x, fr[k]? = some x → ∀ o, l[n + k]? = some o → o.dst = some x.1 ∧ ∀ (a : Act) (w : World), ∃ (zs : List Value) (T : TypeId), zs.length = x.2.length ∧ (execOp a.eval o).run P w = .ok (.value (.pointer (some ⟨w.heap.size, 0, none⟩))) (w.alloc (.cells zs.toArray T)))
    (hst : ∀ k x, fr[k]? = some x → ∀ o, l[n + m + k]? = some o → ∀ (a : Act) (w : World) (b : Nat), slot a x.1 = .pointer (some ⟨b, 0, none⟩) → (∀ t, t ∈ o.looksAt l.toArray → t ≠ x.1 → slot a t = slot (putAll (l.take n) vs a0) t) → w.there b 0 x.2.length →
      (execOp a.eval o).run P w = .ok .skip (w.setCells b 0 x.2))
    (fin : ∀ (B : Nat → Nat) (w' : World), Below w.heap.size w w' → (∀ k x, fr[k]? = some x → w.heap.size ≤ B k ∧ B k < w'.heap.size ∧ w'.rangeAt (B k) 0 x.2 ∧ w'.there (B k) 0 x.2.length) → (∀ k k', k < m → k' < m → k ≠ k' → B k ≠ B k') → Q .normal (putFr fr B 0 (putAll (l.take n) vs a0)) w') :
    (Code.region id l.toArray true).wp P Q a0 w :=
  fresh n m fr (putAll (l.take n) vs a0) hm hB hfr (fun i o t hi ho hd => by
    have := List.all_eq_true.1 hsz i (by simpa using hi)
    simp only [ho, Option.bind_some, hd] at this
    simpa using this) hwalk hal hst fin
end
end Go.Proofs.YtabafabebodojaaDoor.Qf
