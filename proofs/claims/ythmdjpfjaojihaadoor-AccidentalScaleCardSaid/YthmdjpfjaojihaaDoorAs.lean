/- Accidentals: notes as the key asks for them. -/
import Derived.Test.YthmdjpfjaojihaaDoorAr
namespace Go.Proofs.YthmdjpfjaojihaaDoor
open Go.RowKit
set_option linter.unusedVariables false
set_option linter.unusedSimpArgs false

/-- a note as the key asks for it, shown as needed -/
def modN (f : Int) (n : Nt) : Nt := ⟨n.t, n.s, alI f n.s, n.o, n.h, 0⟩
/-- the first k notes changed -/
def LM (f : Int) (L : List Nt) (k : Nat) : List Nt := L.mapIdx fun i n => if i < k then modN f n else n
theorem LM_len (f : Int) (L : List Nt) (k : Nat) : (LM f L k).length = L.length := by simp [LM]
theorem LM_at {f : Int} {L : List Nt} {k j : Nat} {n : Nt} (h : L[j]? = some n) : (LM f L k)[j]? = some (if j < k then modN f n else n) := by
  simp [LM, h]
theorem LM_zero (f : Int) (L : List Nt) : LM f L 0 = L := by
  apply List.ext_getElem?
  intro i
  cases h : L[i]? with
  | none => simp [LM, h]
  | some n => rw [LM_at h]; simp
theorem LM_full (f : Int) (L : List Nt) : LM f L L.length = L.map (modN f) := by
  apply List.ext_getElem?
  intro i
  cases h : L[i]? with
  | none => simp [LM, h]
  | some n => rw [LM_at h, if_pos (List.getElem?_eq_some_iff.1 h).1]; simp [h]
theorem modN_err {f : Int} : ∀ (L : List Nt) (last : Int), errL last L = 0 → errL last (L.map (modN f)) = 0 := by
  intro L
  induction L with
  | nil => intro last _; rfl
  | cons n L ih =>
    intro last h
    have h1 : (if errN last n = 0 then errL n.t L else errN last n) = 0 := h
    have hz : errN last n = 0 := by
      by_cases e : errN last n = 0
      · exact e
      · rw [if_neg e] at h1; exact h1
    rw [if_pos hz] at h1
    obtain ⟨ht, hp, a0, a1, v0, v1⟩ := errN_zero hz
    have hz2 : errN last (modN f n) = 0 := by
      have := alI_bd f n.s
      unfold errN modN
      simp only
      rw [if_neg (by omega), if_neg (Decidable.not_not.2 hp), if_neg (by omega), if_neg (by omega)]
    show (if errN last (modN f n) = 0 then errL (modN f n).t (L.map (modN f)) else errN last (modN f n)) = 0
    rw [if_pos hz2]
    exact ih n.t h1
theorem pxN_mod {n : Nt} (h : Pos n.s n.o) : ((pxN n % 7 : Nat) : Int) = n.s := by
  obtain ⟨s0, s1, o0, o1⟩ := h
  unfold pxN pxI
  omega
theorem mod_con (f : Int) (L : List Nt) (k : Nat) : conB (L.map (modN f)) k = false := by
  cases h : conB (L.map (modN f)) k with
  | false => rfl
  | true =>
    obtain ⟨q, m, n, hm, hn, hc⟩ := conB_iff.1 h
    rw [List.getElem?_map] at hm hn
    obtain ⟨m', _, rfl⟩ := Option.map_eq_some_iff.1 hm
    obtain ⟨n', _, rfl⟩ := Option.map_eq_some_iff.1 hn
    obtain ⟨_, h1, _, h2⟩ := hc
    simp only [modN] at h1 h2
    exact absurd (by rw [h1]) h2
theorem mod_mark {f : Int} {n : Nt} {fr : Nat → Int} (h : Pos n.s n.o) (hfr : fr = frI f) : markM false fr (modN f n) = (0, false) ∧ markF false fr (modN f n) = fr := by
  have hp : pxN (modN f n) = pxN n := rfl
  have e : needB false fr (modN f n) = false := by
    unfold needB
    rw [hp, hfr]
    simp only [Bool.false_or, Bool.and_eq_false_iff, decide_eq_false_iff_not, ne_eq, Decidable.not_not]
    refine .inr ?_
    show alI f n.s = frI f (pxN n)
    unfold frI
    rw [pxN_mod h]
  unfold markM markF
  rw [e]
  simp [modN]
theorem mod_disF {f : Int} {L : List Nt} (hg : ∀ n ∈ L, Pos n.s n.o) : ∀ k, disF (L.map (modN f)) f k = frI f
  | 0 => rfl
  | k + 1 => by
    show (match (L.map (modN f))[k]? with | none => disF (L.map (modN f)) f k | some m => markF (conB (L.map (modN f)) k) (disF (L.map (modN f)) f k) m) = _
    rw [mod_disF hg k, mod_con, List.getElem?_map]
    cases h : L[k]? with
    | none => rfl
    | some n => exact (mod_mark (hg n (List.mem_of_getElem? h)) rfl).2
theorem mod_disM {f : Int} {L : List Nt} (hg : ∀ n ∈ L, Pos n.s n.o) (k : Nat) : disM (L.map (modN f)) f k = (0, false) := by
  unfold disM
  rw [mod_disF hg k, mod_con, List.getElem?_map]
  cases h : L[k]? with
  | none => rfl
  | some n => exact (mod_mark (hg n (List.mem_of_getElem? h)) rfl).1
/-- a row of the call's own that can be written: notes in block g -/
def RowN (w : World) (g : Nat) (L : List Nt) : Prop := ∀ (k : Nat) (n : Nt), L[k]? = some n → N6 w g (k * 6) n ∧ w.frozen? ⟨g, k * 6 + 2, none⟩ = false ∧ w.frozen? ⟨g, k * 6 + 5, none⟩ = false
theorem RowN.up {w w' : World} {g : Nat} {L : List Nt} (h : RowN w g L) (hb : Below w.heap.size w w') : RowN w' g L := fun k n hk => by
  obtain ⟨h0, h1, h2⟩ := h k n hk
  exact ⟨h0.up hb, (hb.frozen (p := ⟨g, k * 6 + 2, none⟩) (lt_of_cell h0.c2)).trans h1, (hb.frozen (p := ⟨g, k * 6 + 5, none⟩) (lt_of_cell h0.c5)).trans h2⟩
theorem RowN.lt {w : World} {g : Nat} {L : List Nt} {k : Nat} {n : Nt} (h : RowN w g L) (hk : L[k]? = some n) : g < w.heap.size := lt_of_cell (h k n hk).1.c0
theorem RowN.next {w : World} {g : Nat} {f : Int} {L : List Nt} {k : Nat} {n : Nt} (h : RowN w g (LM f L k)) (hk : L[k]? = some n) :
    RowN ((w.setCell ⟨g, k * 6 + 2, none⟩ (.int .i64 (alI f n.s))).setCell ⟨g, k * 6 + 5, none⟩ (.int .i64 0)) g (LM f L (k + 1)) := by
  intro j m hj
  obtain ⟨m', hm'⟩ : ∃ m', L[j]? = some m' := by
    have := (List.getElem?_eq_some_iff.1 hj).1
    rw [LM_len] at this
    exact ⟨_, List.getElem?_eq_getElem this⟩
  rw [LM_at hm'] at hj
  obtain ⟨⟨c0, c1, c2, c3, c4, c5⟩, d1, d2⟩ := h j _ (LM_at (k := k) hm')
  by_cases e : j = k
  · subst e
    rw [hk] at hm'
    cases hm'
    rw [if_pos (by omega)] at hj
    cases hj
    rw [if_neg (by omega)] at c0 c1 c2 c3 c4 c5
    refine ⟨⟨?_, ?_, ?_, ?_, ?_, ?_⟩, ?_, ?_⟩ <;> simp [go_sem, modN, *]
  · have e2 : (if j < k + 1 then modN f m' else m') = (if j < k then modN f m' else m') := by
      by_cases h1 : j < k
      · rw [if_pos h1, if_pos (by omega)]
      · rw [if_neg h1, if_neg (by omega)]
    rw [e2] at hj
    cases hj
    have n0 : ∀ x y : Nat, x < 6 → y < 6 → k * 6 + x ≠ j * 6 + y := fun x y hx hy h => by omega
    have n1 := n0 2 0 (by omega) (by omega)
    have n2 := n0 2 1 (by omega) (by omega)
    have n3 := n0 2 2 (by omega) (by omega)
    have n4 := n0 2 3 (by omega) (by omega)
    have n5 := n0 2 4 (by omega) (by omega)
    have n6 := n0 2 5 (by omega) (by omega)
    have n7 := n0 5 0 (by omega) (by omega)
    have n8 := n0 5 1 (by omega) (by omega)
    have n9 := n0 5 2 (by omega) (by omega)
    have na := n0 5 3 (by omega) (by omega)
    have nb := n0 5 4 (by omega) (by omega)
    have nc := n0 5 5 (by omega) (by omega)
    simp only [Nat.add_zero] at n1 n7
    clear n0 h e2
    refine ⟨⟨?_, ?_, ?_, ?_, ?_, ?_⟩, ?_, ?_⟩ <;> simp [go_sem, *]
/-- a fresh row read as notes that can be written -/
theorem rowN_own {w : World} {base : Nat} {e : TypeId} {v : Value} {L : List Nt} (h : w.ownsRow base e 6 v L.length (cellsN L)) : ∃ ad cap, v = .slice ad L.length cap ∧ (L ≠ [] → ∃ g, ad = some ⟨g, 0, none⟩ ∧ base ≤ g ∧ RowN w g L) := by
  obtain ⟨hl, hr⟩ := h
  rcases hr with ⟨rfl, h0⟩ | ⟨g, cap, cur, rfl, hg, hc, hn, _, hs, ht⟩
  · have : L = [] := List.length_eq_zero_iff.1 h0
    subst this
    exact ⟨none, 0, rfl, fun h => absurd rfl h⟩
  · refine ⟨_, cap, rfl, fun _ => ⟨g, rfl, hg, fun k n hk => ?_⟩⟩
    have hkl : k < L.length := (List.getElem?_eq_some_iff.1 hk).1
    have hx := cellsN_at L k n hk
    rw [← ht] at hx
    have rd : ∀ (j : Nat) (u : Value), (cur.toList.take (L.length * 6))[j]? = some u → w.cell? ⟨g, j, none⟩ = some u := fun j u hj => by
      rw [List.getElem?_take] at hj
      split at hj
      · simp at hj
        simp [World.cell?, hc, hj]
      · cases hj
    obtain ⟨x0, x1, x2, x3, x4, x5⟩ := hx
    have fr : ∀ j, w.frozen? ⟨g, j, none⟩ = false := fun j => by simp [World.frozen?, hc]
    exact ⟨⟨rd _ _ x0, rd _ _ x1, rd _ _ x2, rd _ _ x3, rd _ _ x4, rd _ _ x5⟩, fr _, fr _⟩
end Go.Proofs.YthmdjpfjaojihaaDoor
