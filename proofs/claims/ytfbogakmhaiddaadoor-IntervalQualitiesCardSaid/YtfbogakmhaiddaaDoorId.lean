/- Intervals: the distance of a pitch from a position; the first pitch at a position. -/
import Derived.Test.YtfbogakmhaiddaaDoorIc
namespace Go.Proofs.YtfbogakmhaiddaaDoor
open Go.RowKit
set_option linter.unusedVariables false
set_option linter.unusedSimpArgs false

def absI (x : Int) : Int := if x < 0 then -x else x
theorem dist_max (x y : Int) : (if x - y < y - x then y - x else x - y) = absI (x - y) := by unfold absI; split <;> split <;> omega
/-- a row of pitches at an address -/
def Row3 (w : World) (g : Nat) (L : List (Int × Int × Int)) : Prop := ∀ (k : Nat) (q : Int × Int × Int), L[k]? = some q → w.cell? ⟨g, k * 3, none⟩ = some (.int .i64 q.1) ∧ w.cell? ⟨g, k * 3 + 1, none⟩ = some (.int .i64 q.2.1) ∧ w.cell? ⟨g, k * 3 + 2, none⟩ = some (.int .i64 q.2.2)
theorem Row3.up {w w' : World} {g : Nat} {L : List (Int × Int × Int)} (h : Row3 w g L) (hb : Below w.heap.size w w') : Row3 w' g L :=
  fun k q hq => by obtain ⟨a, b, c⟩ := h k q hq; exact ⟨cell_up hb a, cell_up hb b, cell_up hb c⟩
/-- one cell of a block -/
structure Uno (w : World) (b : Nat) (x : Value) : Prop where
  lt : b < w.heap.size
  c0 : w.cell? ⟨b, 0, none⟩ = some x
  f0 : w.frozen? ⟨b, 0, none⟩ = false
theorem Uno.up {w w' : World} {b : Nat} {x : Value} (h : Uno w b x) (hb : Below w.heap.size w w') : Uno w' b x :=
  ⟨Nat.lt_of_lt_of_le h.lt hb.size, (hb.cell (p := ⟨b, 0, none⟩) h.lt).trans h.c0, (hb.frozen (p := ⟨b, 0, none⟩) h.lt).trans h.f0⟩
theorem Uno.alloc {w : World} {b : Nat} {x : Value} (h : Uno w b x) (o : Obj) : Uno (w.alloc o) b x := h.up ((Below.refl _ _).alloc (Nat.le_refl _) o)
theorem Uno.new (w : World) (x : Value) (t : TypeId) (n : Nat) (hn : n = w.heap.size) : Uno (w.alloc (.cells #[x] t)) n x := by
  subst hn
  exact ⟨by simp, by simp, by simp [go_sem]⟩
set_option maxRecDepth 100000 in
set_option maxHeartbeats 2000000 in
theorem distance_ok (s a o p : Int) (w : World) (h : Pit s a o) (p0 : -1000 ≤ p) (p1 : p ≤ 1000) (ht : PT w) :
    Calls Tryd.prog 43 #[.agg #[.int .i64 s, .int .i64 a, .int .i64 o], .int .i64 p] w fun e w' => e = .returned (.int .i64 (absI (diaP s o - p))) ∧ Below w.heap.size w w' := by
  have B0 := Lib.hid ((Bel.refl w).alloc (.cells #[.int .i64 s, .int .i64 a, .int .i64 o] 41))
  have T0 := Lib.hid (ht.below ((Below.refl _ _).alloc (Nat.le_refl _) (.cells #[.int .i64 s, .int .i64 a, .int .i64 o] 41)))
  have X0 := Tri.new w (.int .i64 s) (.int .i64 a) (.int .i64 o) 41 (w.heap.size) (by simp)
  have HP := Lib.hid h
  obtain ⟨e0, e1⟩ := dia_bd h
  go_enter Tryd.func43, Tryd.ntmps43
  obtain ⟨xf0, xf1, xf2, xf3, xf4, xf5, xf6⟩ := id X0
  go_wp2_with fail
  clear xf0 xf1 xf2 xf3 xf4 xf5 xf6
  refine (dia2_ok s a o _ HP.out T0.out).mono ?_
  rintro e w1 ⟨rfl, hb⟩
  have B1 := Lib.hid (B0.out.up hb)
  have T1 := Lib.hid (T0.out.below hb)
  have X1 := X0.up hb
  clear hb B0 T0 X0
  obtain ⟨xf0, xf1, xf2, xf3, xf4, xf5, xf6⟩ := id X1
  obtain ⟨D, hD⟩ : ∃ D, diaP s o = D := ⟨_, rfl⟩
  have HD := Lib.hid hD
  rw [hD] at e0 e1 ⊢
  clear hD
  go_wp2_with fail
  all_goals
    go_ret
    exact ⟨ret_int (by rw [HD.out]; unfold absI; (try split) <;> omega), B1.out.out⟩
set_option maxRecDepth 100000 in
set_option maxHeartbeats 2000000 in
theorem exact1_ok (s a o p : Int) (b : Nat) (w : World) (h : Pit s a o) (p0 : -1000 ≤ p) (p1 : p ≤ 1000) (ht : PT w) (hu : Uno w b (.int .i64 p)) :
    Calls Tryd.prog 42 #[.agg #[.int .i64 s, .int .i64 a, .int .i64 o], .pointer (some ⟨b, 0, none⟩)] w fun e w' => e = .returned (.bool (absI (diaP s o - p) == 0)) ∧ Below w.heap.size w w' := by
  have B0 := Lib.hid ((Bel.refl w).alloc (.cells #[.int .i64 s, .int .i64 a, .int .i64 o] 41))
  have T0 := Lib.hid (ht.alloc (.cells #[.int .i64 s, .int .i64 a, .int .i64 o] 41))
  have U0 := Lib.hid (hu.alloc (.cells #[.int .i64 s, .int .i64 a, .int .i64 o] 41))
  have HP := Lib.hid h
  obtain ⟨u0, u1, u2⟩ := id U0.out
  clear ht hu h
  go_enter Tryd.func42, Tryd.ntmps42
  go_wp2_with fail
  refine (distance_ok s a o p _ HP.out p0 p1 T0.out).mono ?_
  rintro e w1 ⟨rfl, hb⟩
  have B1 := Lib.hid (B0.out.up hb)
  go_wp2_with fail
  go_ret
  exact ⟨rfl, B1.out.out⟩
/-- what IndexFunc returns -/
def IxPost (L : List (Int × Int × Int)) (p : Int) (w : World) (e : Ending) (w' : World) : Prop :=
  (∃ (k : Nat) (q : Int × Int × Int), L[k]? = some q ∧ findD L p = some q ∧ e = .returned (.int .i64 (k : Int)) ∧ Below w.heap.size w w') ∨
  (findD L p = none ∧ e = .returned (.int .i64 (-1)) ∧ Below w.heap.size w w')
set_option maxRecDepth 100000 in
set_option maxHeartbeats 2000000 in
theorem indexFunc_ok (L : List (Int × Int × Int)) (g cap b : Nat) (p : Int) (w : World) (hL : ∀ q ∈ L, Pit q.1 q.2.1 q.2.2) (hl : L.length ≤ 1000) (p0 : -1000 ≤ p) (p1 : p ≤ 1000) (ht : PT w) (hu : Uno w b (.int .i64 p)) (hr : Row3 w g L) :
    Calls Tryd.prog 41 #[.slice (some ⟨g, 0, none⟩) L.length cap, .func (.func 42) #[] #[.pointer (some ⟨b, 0, none⟩)]] w (IxPost L p w) := by
  have HL := Lib.hid hL
  have HT := Lib.hid ht
  have HU := Lib.hid hu
  have HR := Lib.hid hr
  clear hL ht hu hr
  go_enter Tryd.func41, Tryd.ntmps41
  go_wp2_with fail
  go_loopg [8] L.length (fun gm i wr => ∃ k : Nat, k ≤ L.length ∧ gm = L.length - k ∧ i = .int .i64 (k : Int) ∧ Hid (∀ (j : Nat) (q : Int × Int × Int), j < k → L[j]? = some q → diaP q.1 q.2.2 ≠ p) ∧ Hid (Bel w wr))
  case atStart => exact ⟨0, by omega, by omega, rfl, Lib.hid (fun j q hj => absurd hj (by omega)), Lib.hid (Bel.refl w)⟩
  case round =>
    obtain ⟨k, hk, rfl, rfl, HN, HB⟩ := hrel
    by_cases hlt : k < L.length
    · obtain ⟨q, hq⟩ : ∃ q, L[k]? = some q := ⟨_, List.getElem?_eq_getElem hlt⟩
      obtain ⟨q1, q2, q3⟩ := (HR.out.up HB.out.out) k q hq
      have pq := Lib.hid (HL.out q (List.mem_of_getElem? hq))
      have HQ := Lib.hid hq
      clear hq
      go_wp2_with fail
      refine (exact1_ok q.1 q.2.1 q.2.2 p b _ pq.out p0 p1 (HT.out.below HB.out.out) (HU.out.up HB.out.out)).mono ?_
      rintro e w2 ⟨rfl, hb⟩
      have H2 := Lib.hid (HB.out.up hb)
      clear hb HB q1 q2 q3
      by_cases hm : diaP q.1 q.2.2 = p
      · have e1 : (absI (diaP q.1 q.2.2 - p) == 0) = true := by rw [hm]; simp [absI]
        have HM := Lib.hid hm
        rw [e1]
        clear hm e1
        go_wp2_with fail
        go_ret
        exact .inl ⟨k, q, HQ.out, find_at HQ.out HN.out HM.out, rfl, H2.out.out⟩
      · have e1 : (absI (diaP q.1 q.2.2 - p) == 0) = false := by
          simp only [beq_eq_false_iff_ne, ne_eq]; unfold absI; split <;> omega
        have HM := Lib.hid hm
        rw [e1]
        clear hm e1
        go_wp2_with fail
        go_roundg (L.length - (k + 1))
        case measure => omega
        case rel => exact ⟨k + 1, by omega, rfl, by go_num, Lib.hid (fun j r hj hr => by
          by_cases e : j = k
          · subst e; rw [HQ.out] at hr; cases hr; exact HM.out
          · exact HN.out j r (by omega) hr), H2⟩
    · obtain rfl : k = L.length := by omega
      go_wp2_with fail
      go_ret
      exact .inr ⟨find_no HN.out, rfl, HB.out.out⟩
end Go.Proofs.YtfbogakmhaiddaaDoor
