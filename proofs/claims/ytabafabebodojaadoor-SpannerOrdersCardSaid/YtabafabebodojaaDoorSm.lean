/- A map of rows: at each key a list, as a row of the call's own. -/
import Derived.Maps.OwnRows
import Derived.Below
import Derived.WideKeyEntry
import Derived.Test.YtabafabebodojaaDoorProg
namespace Go.Proofs.YtabafabebodojaaDoor
open Go Go.RowKit Go.MapKept
open Go.ChangeMaps (setBlock)
open Go.Maps (Keyed)
open Go.WideElems
set_option linter.unusedVariables false
set_option linter.unusedSimpArgs false

section
variable {P : Program} {k : TypeId} {Γ α : Type}
/-- block b is a map: at each key g the list G g, as a row of the call's own; no two in one row -/
structure GsI (kv : Γ → Value) (ok : Γ → Prop) (cs : α → List Value) (e : TypeId) (sz : Nat) (w : World) (base b : Nat) (G : Γ → List α) (es : Array MapEntry) (clock : Nat) : Prop where
  obj : w.heap[b]? = some (.map es clock)
  lt : b < base
  own : ∀ x ∈ es.toList, ∃ g, ok g ∧ x.key = kv g ∧ w.ownsRow base e sz x.val (G g).length ((G g).flatMap cs)
  all : ∀ g, G g ≠ [] → ∃ x ∈ es.toList, x.key = kv g
  keys : ∀ (i j : Nat) x y, es.toList[i]? = some x → es.toList[j]? = some y → i ≠ j → x.key ≠ y.key
  apart : ∀ x ∈ es.toList, ∀ y ∈ es.toList, x.key ≠ y.key → x.val.ownBlock = none ∨ x.val.ownBlock ≠ y.val.ownBlock
  born : (es.toList.map (·.born)).Nodup
  old : ∀ x ∈ es.toList, x.born < clock
def Gs (kv : Γ → Value) (ok : Γ → Prop) (cs : α → List Value) (e : TypeId) (sz : Nat) (w : World) (base b : Nat) (G : Γ → List α) : Prop := ∃ es clock, GsI kv ok cs e sz w base b G es clock
variable {kv : Γ → Value} {ok : Γ → Prop} {cs : α → List Value} {e : TypeId} {sz : Nat} {w : World} {base b : Nat} {G : Γ → List α}
theorem Gs_made (w : World) (base : Nat) (hb : w.heap.size < base) : Gs kv ok cs e sz (w.alloc (.map #[] 0)) base w.heap.size (fun _ => []) :=
  ⟨#[], 0, (MapKept.heap_alloc w _).1, hb, by simp, fun g h => absurd rfl h, by simp, by simp, by simp, by simp⟩
theorem grown_of_below {w w' : World} (h : Below w.heap.size w w') (row : Option Nat) : w.grownBy w' row := ⟨h.os, h.tape, h.output, h.size, fun i hi _ => h.block i hi⟩
theorem GsI.kept {w' : World} {row : Option Nat} {es : Array MapEntry} {clock : Nat} (h : GsI kv ok cs e sz w base b G es clock) (hg : w.grownBy w' row) (hr : ∀ r, row = some r → r < base ∧ r ≠ b) : GsI kv ok cs e sz w' base b G es clock := by
  obtain ⟨hm, hb, h1, h2, h3, h4, h5, h6⟩ := h
  have hlt : b < w.heap.size := (Array.getElem?_eq_some_iff.1 hm).1
  refine ⟨(hg.block b hlt (fun e1 => (hr b e1.symm).2 rfl)).trans hm, hb, fun x hx => ?_, h2, h3, h4, h5, h6⟩
  obtain ⟨g, hg1, hg2, hg3⟩ := h1 x hx
  refine ⟨g, hg1, hg2, hg3.kept hg ?_⟩
  cases hv : x.val.ownBlock with
  | none => exact .inl rfl
  | some c =>
    refine .inr fun e1 => ?_
    have := (hg3.lt c hv).1
    have := (hr c e1.symm).1
    omega
theorem Gs.below {w' : World} (h : Gs kv ok cs e sz w base b G) (hb : Below w.heap.size w w') : Gs kv ok cs e sz w' base b G := by
  obtain ⟨es, clock, h⟩ := h
  exact ⟨es, clock, h.kept (grown_of_below hb none) (fun r hr => by cases hr)⟩
theorem Gs.lt {es : Array MapEntry} {clock : Nat} (h : GsI kv ok cs e sz w base b G es clock) : b < w.heap.size := (Array.getElem?_eq_some_iff.1 h.obj).1
/-- the world behind an entry is taken hold of -/
def entW (w : World) (b : Nat) (es : Array MapEntry) (clock : Nat) : World := setBlock w b (.map es clock)
theorem entW_grown {w : World} {b : Nat} {es es0 : Array MapEntry} {clock c0 : Nat} (h : w.heap[b]? = some (.map es0 c0)) : w.grownBy (entW w b es clock) (some b) :=
  ⟨rfl, rfl, rfl, by simp [entW, setBlock], fun i _ hi => ChangeMaps.heap_setBlock_other h _ (fun e1 => hi (by rw [e1]))⟩
theorem entW_obj {w : World} {b : Nat} {es es0 : Array MapEntry} {clock c0 : Nat} (h : w.heap[b]? = some (.map es0 c0)) : (entW w b es clock).heap[b]? = some (.map es clock) := ChangeMaps.heap_setBlock_same h _
theorem nb {ww : World} {u : Value} {n : Nat} {xs : List Value} (hb : b < base) (ho : ww.ownsRow base e sz u n xs) : u.ownBlock = none ∨ u.ownBlock ≠ some b := by
  cases hu : u.ownBlock with
  | none => exact .inl rfl
  | some c =>
    refine .inr fun e1 => ?_
    have := (ho.lt c hu).1
    cases e1
    omega
/-- the look-up -/
theorem Gs.look {t E : TypeId} (h : Gs kv ok cs e sz w base b G) (K : Keyed P k) (hkv : ∀ g, ok g → ∃ l, keyOf P k (kv g) = some l) (inj : ∀ g g', kv g = kv g' → g = g') (ht : P.underlying t = some (.map k E))
    (hz : ∀ u : World, (zeroValue E).run P u = .ok (.slice none 0 0) u) {g : Γ} (hg : ok g) :
    ∃ v, (Instr.lookup t (.map (some b)) (kv g) false).run P w = .ok v w ∧ w.ownsRow base e sz v (G g).length ((G g).flatMap cs) := by
  obtain ⟨es, clock, hm, hb, h1, h2, h3, h4, _, _⟩ := h
  obtain ⟨kl, hkl⟩ := hkv g hg
  have hkeys : ∀ x ∈ es.toList, ∃ l, keyOf P k x.key = some l := fun x hx => by
    obtain ⟨g', h5, h6, _⟩ := h1 x hx
    rw [h6]; exact hkv g' h5
  rcases K.find w hkl es.toList hkeys with ⟨f1, f2⟩ | ⟨j, e0, f1, f2, f3⟩
  · have hG : G g = [] := by
      cases hGg : G g with
      | nil => rfl
      | cons a l =>
        obtain ⟨x, hx, hk⟩ := h2 g (by rw [hGg]; simp)
        exact absurd hk (f2 x hx)
    exact ⟨.slice none 0 0, by simp [Instr.lookup, run_underlying ht, MapKept.run_getObj_map hm, K.check w _ hkl, f1, hz, Result.andThen], by rw [hG]; exact World.ownsRow_nil _ _ _ _⟩
  · have hm0 : e0 ∈ es.toList := List.mem_of_getElem? f2
    obtain ⟨g', h5, h6, h7⟩ := h1 e0 hm0
    obtain rfl : g' = g := inj _ _ (h6.symm.trans f3)
    exact ⟨e0.val, by simp [Instr.lookup, run_underlying ht, MapKept.run_getObj_map hm, K.check w _ hkl, f1, Result.andThen], h7⟩
/-- the entry at a key, taken hold of: its value, its stamp, and what stands there -/
theorem Gs.entry {t E : TypeId} (h : Gs kv ok cs e sz w base b G) (K : Keyed P k) (hkv : ∀ g, ok g → ∃ l, keyOf P k (kv g) = some l) (inj : ∀ g g', kv g = kv g' → g = g') (ht : P.underlying t = some (.map k E))
    (hz : ∀ u : World, (zeroValue E).run P u = .ok (.slice none 0 0) u) {g : Γ} (hg : ok g) :
    ∃ (es : Array MapEntry) (clock j : Nat) (e1 : MapEntry), (Instr.mapEntry t (.map (some b)) (kv g)).run P w = .ok (.tuple #[e1.val, .int .i64 (e1.born : Int)]) (entW w b es clock) ∧ w.grownBy (entW w b es clock) (some b) ∧ GsI kv ok cs e sz (entW w b es clock) base b G es clock ∧
      es.toList[j]? = some e1 ∧ e1.key = kv g ∧ (entW w b es clock).ownsRow base e sz e1.val (G g).length ((G g).flatMap cs) := by
  obtain ⟨es, clock, hm, hb, h1, h2, h3, h4, h8, h9⟩ := h
  obtain ⟨kl, hkl⟩ := hkv g hg
  have hkeys : ∀ x ∈ es.toList, ∃ l, keyOf P k x.key = some l := fun x hx => by
    obtain ⟨g', h5, h6, _⟩ := h1 x hx
    rw [h6]; exact hkv g' h5
  rcases K.find w hkl es.toList hkeys with ⟨f1, f2⟩ | ⟨j, e0, f1, f2, f3⟩
  · have hG : G g = [] := by
      cases hGg : G g with
      | nil => rfl
      | cons a l =>
        obtain ⟨x, hx, hk⟩ := h2 g (by rw [hGg]; simp)
        exact absurd hk (f2 x hx)
    have hgr := entW_grown (es := es.push ⟨kv g, .slice none 0 0, clock⟩) (clock := clock + 1) hm
    have sep : ∀ (i : Nat) (x : MapEntry), (es.toList ++ [⟨kv g, .slice none 0 0, clock⟩])[i]? = some x → (es.toList[i]? = some x ∧ i < es.toList.length) ∨ (i = es.toList.length ∧ x = ⟨kv g, .slice none 0 0, clock⟩) := fun i x h => by
      rcases Nat.lt_trichotomy i es.toList.length with h5 | h5 | h5
      · rw [List.getElem?_append_left h5] at h; exact .inl ⟨h, h5⟩
      · subst h5; simp at h; exact .inr ⟨rfl, h.symm⟩
      · rw [List.getElem?_append_right (by omega)] at h
        have : (i - es.toList.length) ≠ 0 := by omega
        rw [List.getElem?_eq_none (by simp; simp at h5; omega)] at h
        cases h
    refine ⟨es.push ⟨kv g, .slice none 0 0, clock⟩, clock + 1, es.toList.length, ⟨kv g, .slice none 0 0, clock⟩, ?_, hgr, ⟨entW_obj hm, hb, fun x hx => ?_, fun g' hne => ?_, fun i j x y hi hj hne => ?_, fun x hx y hy hne => ?_, ?_, fun x hx => ?_⟩, by simp, rfl, by rw [hG]; exact World.ownsRow_nil _ _ _ _⟩
    · simp [Instr.mapEntry, run_underlying ht, MapKept.run_getObj_map hm, K.check w false hkl, f1, hz, MapKept.run_setObj_map _ hm, Result.andThen, entW, setBlock, goInt]
    · simp only [Array.toList_push, List.mem_append, List.mem_singleton] at hx
      rcases hx with hx | rfl
      · obtain ⟨g', h5, h6, h7⟩ := h1 x hx
        exact ⟨g', h5, h6, h7.kept hgr (nb hb h7)⟩
      · exact ⟨g, hg, rfl, by rw [hG]; exact World.ownsRow_nil _ _ _ _⟩
    · obtain ⟨x, hx, hk⟩ := h2 g' hne
      exact ⟨x, by simp [hx], hk⟩
    · simp only [Array.toList_push] at hi hj
      rcases sep i x hi with ⟨h5, h6⟩ | ⟨h5, h6⟩ <;> rcases sep j y hj with ⟨h7, h10⟩ | ⟨h7, h10⟩
      · exact h3 i j x y h5 h7 hne
      · rw [h10]; exact f2 x (List.mem_of_getElem? h5)
      · rw [h6]; exact fun e1 => f2 y (List.mem_of_getElem? h7) e1.symm
      · omega
    · simp only [Array.toList_push, List.mem_append, List.mem_singleton] at hx hy
      rcases hx with hx | rfl
      · rcases hy with hy | rfl
        · exact h4 x hx y hy hne
        · cases x.val.ownBlock <;> simp [Value.ownBlock]
      · exact .inl rfl
    · simp only [Array.toList_push, List.map_append, List.map_cons, List.map_nil]
      rw [List.nodup_append]
      refine ⟨h8, by simp, fun a ha b' hb' => ?_⟩
      simp only [List.mem_singleton] at hb'
      obtain ⟨x, hx, rfl⟩ := List.mem_map.1 ha
      have := h9 x hx
      omega
    · simp only [Array.toList_push, List.mem_append, List.mem_singleton] at hx
      rcases hx with hx | rfl
      · have := h9 x hx; omega
      · exact Nat.lt_succ_self _
  · have hm0 : e0 ∈ es.toList := List.mem_of_getElem? f2
    obtain ⟨g', h5, h6, h7⟩ := h1 e0 hm0
    obtain rfl : g' = g := inj _ _ (h6.symm.trans f3)
    have hgr := entW_grown (es := es) (clock := clock) hm
    have hget : es[j]? = some e0 := by simpa using f2
    have hst := K.stays w hkl
    have hmod : (es.modify j fun x => { x with key := kv g' }) = es := by
      apply Array.ext'
      rw [Array.toList_modify]
      apply List.ext_getElem?
      intro i
      rw [List.getElem?_modify]
      by_cases hji : j = i
      · subst hji
        rw [f2]
        simp [← f3]
      · simp [hji]
    refine ⟨es, clock, j, e0, ?_, hgr, ⟨entW_obj hm, hb, fun x hx => ?_, h2, h3, h4, h8, h9⟩, f2, f3, h7.kept hgr (nb hb h7)⟩
    · simp [Instr.mapEntry, run_underlying ht, MapKept.run_getObj_map hm, K.check w false hkl, f1, hget, f3, hst, MapKept.run_setObj_map _ hm, Result.andThen, entW, setBlock, goInt, hmod]
    · obtain ⟨g', h5, h6, h7⟩ := h1 x hx
      exact ⟨g', h5, h6, h7.kept hgr (nb hb h7)⟩
/-- the store by the stamp, behind whatever was done to the value's own row and to new blocks -/
theorem GsI.back [DecidableEq Γ] {t : TypeId} {es : Array MapEntry} {clock j : Nat} {e1 : MapEntry} {g : Γ} (hI : GsI kv ok cs e sz w base b G es clock) (inj : ∀ g g', kv g = kv g' → g = g') (hj : es.toList[j]? = some e1) (hk : e1.key = kv g) (hg : ok g)
    {w1 : World} {v' : Value} {L : List α} (hgr : w.grownBy w1 e1.val.ownBlock) (hown : w1.ownsRow base e sz v' L.length (L.flatMap cs)) (hloc : v'.ownBlock = e1.val.ownBlock ∨ ∃ c, v'.ownBlock = some c ∧ w.heap.size ≤ c) :
    ∃ w2, (Instr.entryStore t (.map (some b)) (.int .i64 (e1.born : Int)) v').run P w1 = .ok () w2 ∧ Gs kv ok cs e sz w2 base b (fun g' => if g' = g then L else G g') ∧ w1.grownBy w2 (some b) := by
  obtain ⟨hm, hb, h1, h2, h3, h4, h8, h9⟩ := hI
  have hlt : b < w.heap.size := (Array.getElem?_eq_some_iff.1 hm).1
  have hmem : e1 ∈ es.toList := List.mem_of_getElem? hj
  have e1own : e1.val.ownBlock = none ∨ e1.val.ownBlock ≠ some b := by
    obtain ⟨g', _, _, h7⟩ := h1 e1 hmem
    exact nb hb h7
  have hb1 : w1.heap[b]? = some (.map es clock) := (hgr.block b hlt (fun e2 => by
    rcases e1own with h | h
    · rw [← e2] at h; cases h
    · exact h e2.symm)).trans hm
  have hvs : ∀ x ∈ es.toList, x.key ≠ kv g → x.val.ownBlock = none ∨ x.val.ownBlock ≠ e1.val.ownBlock := fun x hx hne => h4 x hx e1 hmem (by rw [hk]; exact hne)
  have old_new : ∀ x ∈ es.toList, x.key ≠ kv g → x.val.ownBlock = none ∨ x.val.ownBlock ≠ v'.ownBlock := by
    intro x hx hne
    rcases hloc with h5 | ⟨c, h5, h6⟩
    · rw [h5]; exact hvs x hx hne
    · cases hx' : x.val.ownBlock with
      | none => exact .inl rfl
      | some gx =>
        obtain ⟨g', _, _, ho⟩ := h1 x hx
        have := (ho.lt gx hx').2
        refine .inr fun e2 => ?_
        rw [h5] at e2
        cases e2
        omega
  have hjs : j < es.size := by have := (List.getElem?_eq_some_iff.1 hj).1; simpa using this
  have hmod : (es.modify j fun x => { x with val := v' }).toList = es.toList.set j ⟨kv g, v', e1.born⟩ := by
    rw [Array.toList_modify]
    apply List.ext_getElem?
    intro i
    rw [List.getElem?_modify, List.getElem?_set]
    by_cases hji : j = i
    · subst hji
      rw [hj]
      simp [hjs, hk]
    · simp [hji]
  have hwho : ∀ x ∈ (es.modify j fun x => { x with val := v' }).toList, (x ∈ es.toList ∧ x.key ≠ kv g) ∨ (x.key = kv g ∧ x.val = v' ∧ x.born = e1.born) := fun x hx => by
    rw [hmod] at hx
    obtain ⟨i, hi⟩ := List.getElem?_of_mem hx
    rw [List.getElem?_set] at hi
    split at hi
    · split at hi
      · cases hi; exact .inr ⟨rfl, rfl, rfl⟩
      · cases hi
    · rename_i hne
      exact .inl ⟨List.mem_of_getElem? hi, by rw [← hk]; exact h3 i j x e1 hi hj (fun e2 => hne e2.symm)⟩
  have hin : (⟨kv g, v', e1.born⟩ : MapEntry) ∈ (es.modify j fun x => { x with val := v' }).toList := by
    rw [hmod]; exact List.mem_iff_getElem?.2 ⟨j, by rw [List.getElem?_set]; simp [hjs]⟩
  have hg2 : w1.grownBy (entW w1 b (es.modify j fun x => { x with val := v' }) clock) (some b) := entW_grown hb1
  refine ⟨entW w1 b (es.modify j fun x => { x with val := v' }) clock, ?_, ⟨_, clock, entW_obj hb1, hb, fun x hx => ?_, fun g' hne => ?_, fun i i' x y hi hi' hne => ?_, fun x hx y hy hne => ?_, ?_, fun x hx => ?_⟩, hg2⟩
  · have hf : es.findIdx? (fun x => ((x.born : Nat) : Int) == ((e1.born : Nat) : Int)) = some j := by rw [findIdx_arr]; exact findIdx_born h8 hj
    simp [Instr.entryStore, MapKept.run_getObj_map hb1, asInt, asIntOf, hf, MapKept.run_setObj_map _ hb1, Result.andThen, entW, setBlock]
  · rcases hwho x hx with ⟨h5, h6⟩ | ⟨h5, h6, _⟩
    · obtain ⟨g', h7, h10, h11⟩ := h1 x h5
      have h12 := h11.kept hgr (hvs x h5 h6)
      have hne : g' ≠ g := fun e2 => h6 (by rw [h10, e2])
      exact ⟨g', h7, h10, by simp only [if_neg hne]; exact h12.kept hg2 (nb hb h12)⟩
    · exact ⟨g, hg, h5, by simp only [if_true]; rw [h6]; exact hown.kept hg2 (nb hb hown)⟩
  · by_cases e2 : g' = g
    · subst e2; exact ⟨_, hin, rfl⟩
    · simp only [if_neg e2] at hne
      obtain ⟨x, hx, hxk⟩ := h2 g' hne
      obtain ⟨i, hi⟩ := List.getElem?_of_mem hx
      by_cases e3 : j = i
      · subst e3
        rw [hj] at hi
        cases hi
        exact absurd (inj _ _ (hxk.symm.trans hk)) e2
      · exact ⟨x, by rw [hmod]; exact List.mem_iff_getElem?.2 ⟨i, by rw [List.getElem?_set, if_neg e3]; exact hi⟩, hxk⟩
  · rw [hmod, List.getElem?_set] at hi hi'
    split at hi
    · rename_i h5
      rw [if_neg (by omega)] at hi'
      split at hi
      · cases hi
        rw [← hk]
        exact h3 j i' e1 y hj hi' (by omega)
      · cases hi
    · rename_i h5
      split at hi'
      · split at hi'
        · cases hi'
          rw [← hk]
          exact h3 i j x e1 hi hj (by omega)
        · cases hi'
      · exact h3 i i' x y hi hi' hne
  · rcases hwho x hx with ⟨hx0, hxk⟩ | ⟨hxk, hxv, _⟩ <;> rcases hwho y hy with ⟨hy0, hyk⟩ | ⟨hyk, hyv, _⟩
    · exact h4 x hx0 y hy0 hne
    · rw [hyv]; exact old_new x hx0 hxk
    · rw [hxv]
      cases hv' : v'.ownBlock with
      | none => exact .inl rfl
      | some c =>
        refine .inr fun e2 => ?_
        rcases old_new y hy0 hyk with h | h
        · rw [h] at e2; cases e2
        · exact h (by rw [hv', e2])
    · exact absurd (hxk.trans hyk.symm) hne
  · have : (es.toList.set j ⟨kv g, v', e1.born⟩).map (·.born) = es.toList.map (·.born) := by
      rw [List.map_set]
      exact set_self _ j _ (by simp [hj])
    rw [hmod, this]
    exact h8
  · rcases hwho x hx with ⟨hx0, _⟩ | ⟨_, _, h5⟩
    · exact h9 x hx0
    · rw [h5]; exact h9 e1 hmem
end
end Go.Proofs.YtabafabebodojaaDoor
