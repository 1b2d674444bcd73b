/- Accidentals: own. -/
import Derived.Test.YthmdjpfjaojihaaDoorAj
import Derived.Test.YthmdjpfjaojihaaDoorQu
import Derived.OwnWalk
import Derived.Laws.AppendOwn
namespace Go.Proofs.YthmdjpfjaojihaaDoor
open Go.RowKit
set_option linter.unusedVariables false
set_option linter.unusedSimpArgs false

def cellsN (l : List Nt) : List Value := l.flatMap ntC
theorem cellsN_snoc (l : List Nt) (n : Nt) : cellsN (l ++ [n]) = cellsN l ++ ntC n := by simp [cellsN]
theorem cellsN_at (l : List Nt) (k : Nat) (n : Nt) (h : l[k]? = some n) : (cellsN l)[k * 6]? = some (.int .i64 n.t) ∧ (cellsN l)[k * 6 + 1]? = some (.int .i64 n.s) ∧ (cellsN l)[k * 6 + 2]? = some (.int .i64 n.a) ∧ (cellsN l)[k * 6 + 3]? = some (.int .i64 n.o) ∧ (cellsN l)[k * 6 + 4]? = some (.bool n.h) ∧ (cellsN l)[k * 6 + 5]? = some (.int .i64 n.v) := by
  induction l generalizing k with
  | nil => simp at h
  | cons q l ih =>
    have e : cellsN (q :: l) = .int .i64 q.t :: .int .i64 q.s :: .int .i64 q.a :: .int .i64 q.o :: .bool q.h :: .int .i64 q.v :: cellsN l := by simp [cellsN, ntC]
    rw [e]
    cases k with
    | zero => simp at h; subst h; simp
    | succ k =>
      have := ih k (by simpa using h)
      rw [show (k + 1) * 6 = k * 6 + 6 by omega]
      exact ⟨by simpa using this.1, by simpa using this.2.1, by simpa using this.2.2.1, by simpa using this.2.2.2.1, by simpa using this.2.2.2.2.1, by simpa using this.2.2.2.2.2⟩
theorem cellN_new (w : World) (n : Nt) (t : TypeId) (b : Nat) (hb : b = w.heap.size) : ∀ (j : Nat) (u : Value), (ntC n)[j]? = some u → (w.alloc (.cells (ntA n) t)).cell? ((⟨b, 0, none⟩ : Addr).add j) = some u := by
  subst hb
  intro j u hj
  unfold ntC at hj
  match j, hj with
  | 0, hj => simp at hj; subst hj; simp [Addr.add, ntA]
  | 1, hj => simp at hj; subst hj; simp [Addr.add, ntA]
  | 2, hj => simp at hj; subst hj; simp [Addr.add, ntA]
  | 3, hj => simp at hj; subst hj; simp [Addr.add, ntA]
  | 4, hj => simp at hj; subst hj; simp [Addr.add, ntA]
  | 5, hj => simp at hj; subst hj; simp [Addr.add, ntA]
theorem ownUp {w w' : World} {base : Nat} {e : TypeId} {size : Nat} {v : Value} {n : Nat} {xs : List Value} (h : w.ownsRow base e size v n xs) (hb : Below w.heap.size w w') : w'.ownsRow base e size v n xs :=
  h.kept (row := none) ⟨hb.os, hb.tape, hb.output, hb.size, fun k hk _ => hb.block k hk⟩ (by cases v.ownBlock <;> simp)
theorem infoN : (Tryd.prog.info? 61).map (fun i => (i.zero, i.size, i.bytes)) = some (some (.agg #[.int .i64 0, .int .i64 0, .int .i64 0, .int .i64 0, .bool false, .int .i64 0]), 6, 48) := by kernel_rfl
theorem take_succ_at {L : List Nt} {k : Nat} {n : Nt} (h : L[k]? = some n) : L.take (k + 1) = L.take k ++ [n] := by
  rw [List.take_add_one, h]
  rfl
/-- what own's loop keeps -/
structure OK (w wr : World) (v : Value) (l : List Nt) : Prop where
  bel : Bel w wr
  own : wr.ownsRow w.heap.size 61 6 v l.length (cellsN l)
theorem OK.up {w wr w' : World} {v : Value} {l : List Nt} (h : OK w wr v l) (hb : Below wr.heap.size wr w') : OK w w' v l := ⟨h.bel.up hb, ownUp h.own hb⟩
/-- an owned row read as notes -/
theorem OK.at {w wr : World} {v : Value} {l : List Nt} (h : OK w wr v l) : ∃ ad cap, v = .slice ad l.length cap ∧ NtAt wr ad l := by
  obtain ⟨hl, hr⟩ := h.own
  rcases hr with ⟨rfl, h0⟩ | ⟨g, cap, cur, rfl, hg, hc, hn, _, hs, ht⟩
  · have : l = [] := List.length_eq_zero_iff.1 h0
    subst this
    exact ⟨none, 0, rfl, fun k n hn => by simp at hn⟩
  · refine ⟨_, cap, rfl, fun k n hk => ⟨g, 0, rfl, ?_⟩⟩
    have hkl : k < l.length := (List.getElem?_eq_some_iff.1 hk).1
    have hx := cellsN_at l k n hk
    rw [← ht] at hx
    have rd : ∀ (j : Nat) (u : Value), (cur.toList.take (l.length * 6))[j]? = some u → wr.cell? ⟨g, j, none⟩ = some u := fun j u hj => by
      rw [List.getElem?_take] at hj
      split at hj
      · simp at hj
        simp [World.cell?, hc, hj]
      · cases hj
    obtain ⟨x0, x1, x2, x3, x4, x5⟩ := hx
    refine ⟨?_, ?_, ?_, ?_, ?_, ?_⟩
    all_goals (rw [Nat.zero_add]; first | exact rd _ _ x0 | exact rd _ _ x1 | exact rd _ _ x2 | exact rd _ _ x3 | exact rd _ _ x4 | exact rd _ _ x5)
set_option maxRecDepth 100000 in
set_option maxHeartbeats 4000000 in
theorem own_ok (L : List Nt) (ad : Option Addr) (cap : Nat) (w : World) (hl : L.length ≤ 30) (h : NtAt w ad L) :
    Calls Tryd.prog 12 #[.slice ad L.length cap] w fun e w' => ∃ v, e = .returned v ∧ OK w w' v L := by
  obtain ⟨i0, hi, hz0, hz1, hz2⟩ := info_parts infoN
  have HL := Lib.hid h
  clear h
  go_enter Tryd.func12, Tryd.ntmps12
  go_wp2_with fail
  have HA := Lib.hid (show OK w w (.slice none 0 0) (L.take 0) from ⟨Bel.refl w, World.ownsRow_nil _ _ _ _⟩)
  go_loopg [3, 4] L.length (fun gm out i wr => ∃ k : Nat, k ≤ L.length ∧ gm = L.length - k ∧ i = .int .i64 (k : Int) ∧ Hid (OK w wr out (L.take k)))
  case atStart => exact ⟨0, by omega, by omega, rfl, HA⟩
  case round =>
    obtain ⟨k, hk, rfl, rfl, HS⟩ := hrel
    clear HA
    by_cases hlt : k < L.length
    · obtain ⟨n, hn⟩ : ∃ n, L[k]? = some n := ⟨_, List.getElem?_eq_getElem hlt⟩
      obtain ⟨b, off, rfl, hc6⟩ := (HL.out.up HS.out.bel.out) k n hn
      have HT := Lib.hid (take_succ_at hn)
      have hl2 := Lib.hid (show (L.take k).length ≤ 30 by rw [List.length_take]; omega)
      have hw : w.heap.size ≤ wr.heap.size := HS.out.bel.size
      clear hn
      rcases n with ⟨t, s, a, o, hd, v⟩
      obtain ⟨c0, c1, c2, c3, c4, c5⟩ := hc6
      simp only at c0 c1 c2 c3 c4 c5
      go_wp2_with fail
      refine Qt.region1 22 _ _ (by kernel_rfl) (by kernel_rfl) rfl (fun _ _ _ h => h) (.inl ⟨rfl, fun _ => rfl⟩) ?_
      intro TT ff F hne
      have RS := Lib.hid (fun g => HS.out.up (F.below g))
      have R0 := fun g => cell_up (F.below g) c0
      have R1 := fun g => cell_up (F.below g) c1
      have R2 := fun g => cell_up (F.below g) c2
      have R3 := fun g => cell_up (F.below g) c3
      have R4 := fun g => cell_up (F.below g) c4
      have R5 := fun g => cell_up (F.below g) c5
      simp only [List.take_succ_cons, List.take_zero, List.drop_succ_cons, List.drop_zero]
      go_simp
      repeat (go_big_quiet_step (fail))
      refine wpQuiet_nil ?_
      intro g
      have HS2 := Lib.hid (RS.out g)
      clear RS R0 R1 R2 R3 R4 R5 F hne HS c0 c1 c2 c3 c4 c5
      generalize ff g = w2 at *
      clear ff
      have hw2 : w.heap.size ≤ w2.heap.size := HS2.out.bel.size
      go_wp2_with (first | (at_builtin; refine wpList_append_own _ rfl _ _ 28 rfl w.heap.size 61 i0 (.agg #[.int .i64 0, .int .i64 0, .int .i64 0, .int .i64 0, .bool false, .int .i64 0]) 6 48 Tryd.underlying28 hi hz0 hz1 hz2 rfl (by decide) _ _ _ rfl (HS2.out.own.alloc _) ⟨w2.heap.size, 0, none⟩ 1 1 (ntC ⟨t, s, a, o, hd, v⟩) rfl rfl (cellN_new _ _ _ _ rfl) (by simp [Value.oneCell', ntC]) (by have := hl2.out; unfold maxLen; omega) (by have := hl2.out; omega) (by simp; omega) ?_; intro v' w9 hown' hgrow _))
      go_roundg (L.length - (k + 1))
      case measure => omega
      case rel =>
        refine ⟨k + 1, by omega, rfl, by go_num, Lib.hid ⟨Below.grown (HS2.out.bel.alloc _) hgrow (by simp; omega) (fun r hr => (HS2.out.own.lt r hr).1), ?_⟩⟩
        rw [HT.out, List.length_append, cellsN_snoc]
        exact hown'
    · obtain rfl : k = L.length := by omega
      have HF := Lib.hid (show OK w wr _ L from by have := HS.out; rwa [List.take_length] at this)
      clear HS
      go_wp2_with fail
      go_ret
      exact ⟨_, rfl, HF.out⟩
end Go.Proofs.YthmdjpfjaojihaaDoor
