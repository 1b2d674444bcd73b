/- Pitches: the walks of Number, Fifths, Enharmonics, Respell. -/
import Derived.Test.YtfbogakmhaiddaaDoorPd
namespace Go.Proofs.YtfbogakmhaiddaaDoor
open Go.RowKit
set_option linter.unusedVariables false
set_option linter.unusedSimpArgs false

def diaP (s o : Int) : Int := 7 * o + s

set_option maxHeartbeats 400000 in
theorem diatonic_any (s a o : Int) (w : World) (s0 : 0 ≤ s) (s1 : s ≤ 6) (o0 : -1 ≤ o) (o1 : o ≤ 9) :
    Calls Tryd.prog 70 #[.agg #[.int .i64 s, .int .i64 a, .int .i64 o]] w fun e w' => e = .returned (.int .i64 (diaP s o)) ∧ Below w.heap.size w w' := by
  unfold diaP
  go_enter Tryd.func70, Tryd.ntmps70
  go_wp2
  try go_quiet (fail)
  go_wp2
  go_ret
  first
    | exact ⟨rfl, (Below.refl _ _).alloc (Nat.le_refl _) _⟩
    | exact ⟨rfl, below_drewN ((Below.refl _ _).alloc (Nat.le_refl _) _) _⟩
set_option maxHeartbeats 400000 in
theorem checkNumber_ok (n : Int) (w : World) (n0 : 0 ≤ n) (n1 : n ≤ 127) :
    Calls Tryd.prog 63 #[.int .i64 n] w fun e w' => e = .returned (.int .i64 0) ∧ w = w' := by
  go_enter Tryd.func63, Tryd.ntmps63
  go_wp2
  go_ret
  exact ⟨rfl, rfl⟩
set_option maxHeartbeats 400000 in
theorem checkNumber_bad (n : Int) (w : World) (h : n < 0 ∨ 127 < n) :
    Calls Tryd.prog 63 #[.int .i64 n] w fun e w' => e = .returned (.int .i64 2) ∧ w = w' := by
  rcases h with h | h
  all_goals
    go_enter Tryd.func63, Tryd.ntmps63
    go_wp2
    go_ret
    exact ⟨rfl, rfl⟩
set_option maxRecDepth 100000 in
set_option maxHeartbeats 1000000 in
theorem number2_ok (s a o : Int) (w : World) (h : Pit s a o) (ht : PT w) :
    Calls Tryd.prog 50 #[.agg #[.int .i64 s, .int .i64 a, .int .i64 o]] w fun e w' => e = .returned (.tuple #[.int .i64 (numP s a o), .int .i64 0]) ∧ Below w.heap.size w w' := by
  have HP := Lib.hid h
  have h0 := h.s0; have h1 := h.s1; have h2 := h.a0; have h3 := h.a1; have h4 := h.o0; have h5 := h.o1
  have HT := Lib.hid (ht.alloc (.cells #[.int .i64 s, .int .i64 a, .int .i64 o] 41))
  have B0 := Lib.hid ((Bel.refl w).alloc (.cells #[.int .i64 s, .int .i64 a, .int .i64 o] 41))
  have X0 := Tri.new w (.int .i64 s) (.int .i64 a) (.int .i64 o) 41 w.heap.size rfl
  clear ht h
  go_enter Tryd.func50, Tryd.ntmps50
  go_wp2_with fail
  refine (check_ok s a o _ HP.out HT.out).mono ?_
  rintro e w1 ⟨rfl, hb⟩
  have B1 := Lib.hid (B0.out.up hb)
  have T1 := Lib.hid (HT.out.below hb)
  have X1 := X0.up hb
  clear hb X0 B0
  obtain ⟨x0, x1, x2, x3, x4, x5, x6⟩ := id X1
  go_wp2_with fail
  refine (number_any s a o _ h0 h1 h2 h3 h4 h5 T1.out).mono ?_
  rintro e w2 ⟨rfl, hb⟩
  have B2 := Lib.hid (B1.out.up hb)
  go_wp2_with fail
  go_ret2
  exact ⟨rfl, B2.out.out⟩
set_option maxHeartbeats 400000 in
theorem enh_ok (n : Int) (w : World) (n0 : 0 ≤ n) (n1 : n ≤ 127) (ht : PT w) :
    Calls Tryd.prog 51 #[.int .i64 n] w fun e w' => ∃ v, e = .returned (.tuple #[v, .int .i64 0]) ∧ w'.ownsRow w.heap.size 41 3 v (enhL n).length (cells3 (enhL n)) ∧ (v = .slice none 0 0 ↔ enhL n = []) ∧ Below w.heap.size w w' := by
  have HT := Lib.hid ht
  clear ht
  go_enter Tryd.func51, Tryd.ntmps51
  go_wp2_with fail
  refine (checkNumber_ok n _ n0 n1).mono ?_
  rintro e w1 ⟨rfl, rfl⟩
  go_wp2_with fail
  refine (enharmonics_any n _ n0 n1 HT.out).mono ?_
  rintro e w1 ⟨v, rfl, hown, hnil, hb⟩
  have HO := Lib.hid hown
  have HN := Lib.hid hnil
  have HB := Lib.hid hb
  clear hown hnil hb
  go_wp2_with fail
  go_ret2
  exact ⟨v, rfl, HO.out, HN.out, HB.out⟩

/-- the first of some pitches that is some steps away -/
def findD (L : List (Int × Int × Int)) (d : Int) : Option (Int × Int × Int) := L.find? fun q => diaP q.1 q.2.2 == d
structure RR (w wr : World) (L : List (Int × Int × Int)) (g : Nat) (s a o : Int) : Prop where
  bel : Bel w wr
  p : Tri wr w.heap.size (.int .i64 s) (.int .i64 a) (.int .i64 o)
  r : Tri wr (w.heap.size + 1) (.int .i64 0) (.int .i64 0) (.int .i64 0)
  row : ∀ (k : Nat) (q : Int × Int × Int), L[k]? = some q → wr.cell? ⟨g, k * 3, none⟩ = some (.int .i64 q.1) ∧ wr.cell? ⟨g, k * 3 + 1, none⟩ = some (.int .i64 q.2.1) ∧ wr.cell? ⟨g, k * 3 + 2, none⟩ = some (.int .i64 q.2.2)
theorem RR.up {w wr w' : World} {L : List (Int × Int × Int)} {g : Nat} {s a o : Int} (h : RR w wr L g s a o) (hb : Below wr.heap.size wr w') : RR w w' L g s a o :=
  ⟨h.bel.up hb, h.p.up hb, h.r.up hb, fun k q hq => by obtain ⟨a, b, c⟩ := h.row k q hq; exact ⟨cell_up hb a, cell_up hb b, cell_up hb c⟩⟩
theorem RR.alloc {w wr : World} {L : List (Int × Int × Int)} {g : Nat} {s a o : Int} (h : RR w wr L g s a o) (ob : Obj) : RR w (wr.alloc ob) L g s a o := h.up ((Below.refl _ _).alloc (Nat.le_refl _) ob)
theorem cells3_at (l : List (Int × Int × Int)) (k : Nat) (p : Int × Int × Int) (h : l[k]? = some p) : (cells3 l)[k * 3]? = some (.int .i64 p.1) ∧ (cells3 l)[k * 3 + 1]? = some (.int .i64 p.2.1) ∧ (cells3 l)[k * 3 + 2]? = some (.int .i64 p.2.2) := by
  induction l generalizing k with
  | nil => simp at h
  | cons q l ih =>
    have e : cells3 (q :: l) = .int .i64 q.1 :: .int .i64 q.2.1 :: .int .i64 q.2.2 :: cells3 l := by simp [cells3]
    rw [e]
    cases k with
    | zero => simp at h; subst h; simp
    | succ k =>
      have := ih k (by simpa using h)
      rw [show (k + 1) * 3 = k * 3 + 3 by omega]
      exact ⟨by simpa using this.1, by simpa using this.2.1, by simpa using this.2.2⟩
theorem rows_of_own {w : World} {base : Nat} {v : Value} {L : List (Int × Int × Int)} (h : w.ownsRow base 41 3 v L.length (cells3 L)) (hne : L ≠ []) : ∃ g cap, v = .slice (some ⟨g, 0, none⟩) L.length cap ∧ base ≤ g ∧
    ∀ (k : Nat) (q : Int × Int × Int), L[k]? = some q → w.cell? ⟨g, k * 3, none⟩ = some (.int .i64 q.1) ∧ w.cell? ⟨g, k * 3 + 1, none⟩ = some (.int .i64 q.2.1) ∧ w.cell? ⟨g, k * 3 + 2, none⟩ = some (.int .i64 q.2.2) := by
  have own := h
  have hl : 0 < L.length := List.length_pos_iff.2 hne
  rcases h.2 with ⟨_, h0⟩ | ⟨g, cap, cur, rfl, hg, _, _⟩
  · omega
  · refine ⟨g, cap, rfl, hg, fun k q hq => ?_⟩
    have hk : k < L.length := by
      rcases Nat.lt_or_ge k L.length with h | h
      · exact h
      · rw [List.getElem?_eq_none h] at hq; cases hq
    obtain ⟨c0, c1, c2⟩ := cells3_at L k q hq
    exact ⟨by rw [own.cellAt _ (by omega)]; exact c0, by rw [own.cellAt _ (by omega)]; exact c1, by rw [own.cellAt _ (by omega)]; exact c2⟩
theorem enhL_pit {n : Int} : ∀ q ∈ enhL n, Pit q.1 q.2.1 q.2.2 ∧ numP q.1 q.2.1 q.2.2 = n := by
  intro q hq
  unfold enhL pitL at hq
  obtain ⟨x, _, hx⟩ := List.mem_filterMap.1 hq
  exact ⟨(pitOf_pit hx).1, (pitOf_pit hx).2.1⟩

theorem mem_enhL {s a o : Int} (h : Pit s a o) : (s, a, o) ∈ enhL (numP s a o) := by
  unfold enhL pitL
  have a0 := h.a0; have a1 := h.a1
  have hx : ∃ x : Fin 5, alF x = a := by
    rcases (show a = 2 ∨ a = 1 ∨ a = 0 ∨ a = -1 ∨ a = -2 by omega) with rfl | rfl | rfl | rfl | rfl
    · exact ⟨0, rfl⟩
    · exact ⟨1, rfl⟩
    · exact ⟨2, rfl⟩
    · exact ⟨3, rfl⟩
    · exact ⟨4, rfl⟩
  obtain ⟨x, hx⟩ := hx
  refine List.mem_filterMap.2 ⟨x, ?_, by rw [hx]; exact pitOf_some h rfl⟩
  unfold upF
  rw [List.take_of_length_le (by simp)]
  exact List.mem_finRange x
theorem dia_bd {s a o : Int} (h : Pit s a o) : -7 ≤ diaP s o ∧ diaP s o ≤ 69 := by
  unfold diaP; have := h.s0; have := h.s1; have := h.o0; have := h.o1; omega
theorem find_at {L : List (Int × Int × Int)} {k : Nat} {q : Int × Int × Int} {d : Int} (hq : L[k]? = some q) (hn : ∀ (j : Nat) (p : Int × Int × Int), j < k → L[j]? = some p → diaP p.1 p.2.2 ≠ d) (hd : diaP q.1 q.2.2 = d) : findD L d = some q := by
  unfold findD
  induction L generalizing k with
  | nil => simp at hq
  | cons p L ih =>
    cases k with
    | zero => simp at hq; subst hq; simp [hd]
    | succ k =>
      have h0 := hn 0 p (by omega) rfl
      rw [List.find?_cons_of_neg (by simpa using h0)]
      exact ih (by simpa using hq) (fun j r hj hr => hn (j + 1) r (by omega) (by simpa using hr))
theorem find_no {L : List (Int × Int × Int)} {d : Int} (hn : ∀ (j : Nat) (p : Int × Int × Int), j < L.length → L[j]? = some p → diaP p.1 p.2.2 ≠ d) : findD L d = none := by
  unfold findD
  refine List.find?_eq_none.2 fun p hp => ?_
  obtain ⟨j, hj, rfl⟩ := List.getElem_of_mem hp
  have := hn j _ hj (List.getElem?_eq_getElem hj)
  simpa using this
/-- what Respell returns -/
def RspPost (s a o d : Int) (w : World) (e : Ending) (w' : World) : Prop :=
  (∃ q, findD (enhL (numP s a o)) (diaP s o + d) = some q ∧ e = .returned (.tuple #[.agg #[.int .i64 q.1, .int .i64 q.2.1, .int .i64 q.2.2], .int .i64 0]) ∧ Below w.heap.size w w') ∨
  (findD (enhL (numP s a o)) (diaP s o + d) = none ∧ e = .returned (.tuple #[.agg #[.int .i64 0, .int .i64 0, .int .i64 0], .int .i64 18]) ∧ Below w.heap.size w w')
end Go.Proofs.YtfbogakmhaiddaaDoor
