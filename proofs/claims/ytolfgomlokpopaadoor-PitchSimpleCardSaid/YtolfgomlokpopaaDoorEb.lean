/- The reference's list of the pitches with a number. -/
import Derived.Test.YtolfgomlokpopaaDoorEa
namespace Go.Proofs.YtolfgomlokpopaaDoor
open Go.RowKit
set_option linter.unusedVariables false
set_option linter.unusedSimpArgs false

def isN (n : Int) (q : Int × Int × Int) : Bool := numP q.1 q.2.1 q.2.2 == n
def refE (n : Int) : List (Int × Int × Int) := (allN 385).filter (isN n)
theorem allN_pit {m : Nat} : ∀ q ∈ allN m, Pit q.1 q.2.1 q.2.2 := by
  intro q hq
  unfold allN at hq
  obtain ⟨x, _, hx⟩ := List.mem_filterMap.1 hq
  unfold allK at hx
  split at hx
  · rename_i h; cases hx; exact h
  · cases hx
theorem filt_hit {p : Int × Int × Int → Bool} {L : List (Int × Int × Int)} {k : Nat} {q : Int × Int × Int} (h : L[k]? = some q) (hp : p q = true) : (L.take (k + 1)).filter p = (L.take k).filter p ++ [q] := by
  rw [List.take_add_one, h]; simp [hp]
theorem filt_miss {p : Int × Int × Int → Bool} {L : List (Int × Int × Int)} {k : Nat} {q : Int × Int × Int} (h : L[k]? = some q) (hp : p q = false) : (L.take (k + 1)).filter p = (L.take k).filter p := by
  rw [List.take_add_one, h]; simp [hp]
theorem filt_len (p : Int × Int × Int → Bool) (L : List (Int × Int × Int)) (k : Nat) : ((L.take k).filter p).length ≤ L.length := by
  have h1 := List.length_filter_le p (L.take k)
  have h2 : (L.take k).length ≤ L.length := by rw [List.length_take]; omega
  omega
/-- what the loop keeps -/
structure EL (w1 wr : World) (v : Value) (xs : List (Int × Int × Int)) : Prop where
  bel : Bel w1 wr
  own : wr.ownsRow w1.heap.size 23 3 v xs.length (cells3 xs)
theorem EL.up {w1 wr w' : World} {v : Value} {xs : List (Int × Int × Int)} (h : EL w1 wr v xs) (hb : Below wr.heap.size wr w') : EL w1 w' v xs := ⟨h.bel.up hb, ownUp h.own hb⟩
theorem allN_some : allN 385 ≠ [] := by
  intro h
  have h1 := allN_hit (n := 37) (p := (0, 0, 0)) (by decide)
  have : (0, 0, 0) ∈ allN 385 := by
    unfold allN
    exact List.mem_filterMap.2 ⟨37, by simp, by decide⟩
  rw [h] at this
  cases this
set_option maxRecDepth 100000 in
set_option maxHeartbeats 2000000 in
theorem refEnh_any (n : Int) (w : World) :
    Calls Tryd.prog 21 #[.int .i64 n] w fun e w' => ∃ v, e = .returned v ∧ w'.ownsRow w.heap.size 23 3 v (refE n).length (cells3 (refE n)) ∧ Below w.heap.size w w' := by
  obtain ⟨i0, hi, hz0, hz1, hz2⟩ := info_parts infoP
  go_enter Tryd.func21, Tryd.ntmps21
  go_wp2_with fail
  refine (refAll_any _).mono ?_
  rintro e w1 ⟨v, rfl, hown, hb⟩
  obtain ⟨g, cap, rfl, hg, hrow⟩ := rows_of_own hown allN_some
  have hgl : g < w1.heap.size := lt_of_cell (hrow 0 _ (List.getElem?_eq_getElem (List.length_pos_iff.2 allN_some))).1
  have hlen : (allN 385).length ≤ 385 := allN_len 385
  have HL := Lib.hid (allN_pit (m := 385))
  have HB := Lib.hid hb
  have hwz := hb.size
  have HE := Lib.hid (show refE n = (allN 385).filter (isN n) from rfl)
  generalize allN 385 = L at *
  have HA := Lib.hid (show EL w1 w1 (.slice none 0 0) ((L.take 0).filter (isN n)) from ⟨Bel.refl w1, World.ownsRow_nil _ _ _ _⟩)
  have HR := Lib.hid hrow
  clear hown hrow hb
  go_wp2_with fail
  go_loopg [3, 5] L.length (fun gm out i wr => ∃ k : Nat, k ≤ L.length ∧ gm = L.length - k ∧ i = .int .i64 (k : Int) ∧ Hid (EL w1 wr out ((L.take k).filter (isN n))))
  case atStart => exact ⟨0, by omega, by omega, rfl, HA⟩
  case round =>
    obtain ⟨k, hk, rfl, rfl, HS⟩ := hrel
    clear HA
    by_cases hlt : k < L.length
    · obtain ⟨q, hq⟩ : ∃ q, L[k]? = some q := ⟨_, List.getElem?_eq_getElem hlt⟩
      obtain ⟨q1, q2, q3⟩ := HR.out k q hq
      replace q1 := cell_up HS.out.bel.out q1
      replace q2 := cell_up HS.out.bel.out q2
      replace q3 := cell_up HS.out.bel.out q3
      have pq := (HL.out q (List.mem_of_getElem? hq))
      have g0 := pq.s0; have g1 := pq.s1; have g2 := pq.a0; have g3 := pq.a1; have g4 := pq.o0; have g5 := pq.o1
      have HQ := Lib.hid hq
      clear hq pq
      by_cases hm : numP q.1 q.2.1 q.2.2 = n
      · have HM := Lib.hid (filt_hit (p := isN n) HQ.out (by simp [isN, hm]))
        go_wp2_with fail
        refine (refNumber_any _ _ _ _ g0 g1 g2 g3 g4 g5).mono ?_
        rintro e w2 ⟨rfl, hb⟩
        replace q1 := cell_up hb q1
        replace q2 := cell_up hb q2
        replace q3 := cell_up hb q3
        have HS2 := Lib.hid (HS.out.up hb)
        clear hb HS
        have hw2 : w1.heap.size ≤ w2.heap.size := HS2.out.bel.size
        have hfl := filt_len (isN n) L k
        go_wp2_with (first | (at_builtin; refine wpList_append_own _ rfl _ _ 34 rfl w1.heap.size 23 i0 (.agg #[.int .i64 0, .int .i64 0, .int .i64 0]) 3 24 Tryd.underlying34 hi hz0 hz1 hz2 rfl (by decide) _ _ _ rfl (HS2.out.own.alloc _) ⟨w2.heap.size, 0, none⟩ 1 1 [.int .i64 q.1, .int .i64 q.2.1, .int .i64 q.2.2] rfl rfl (cell3_new _ _ _ _ _ _ rfl) (by simp [Value.oneCell']) (by unfold maxLen; omega) (by omega) (by simp; omega) ?_; intro v' w3 hown' hgrow _))
        go_roundg (L.length - (k + 1))
        case measure => omega
        case rel =>
          refine ⟨k + 1, by omega, rfl, by go_num, Lib.hid ?_⟩
          have hlt' : ∀ r, u3.ownBlock = some r → w1.heap.size ≤ r := fun r hr => (HS2.out.own.lt r hr).1
          refine ⟨Below.grown (HS2.out.bel.alloc _) hgrow (by simp; omega) hlt', ?_⟩
          rw [HM.out, List.length_append, cells3_snoc]
          exact hown'
      · have HM := Lib.hid (filt_miss (p := isN n) HQ.out (by simp [isN, hm]))
        go_wp2_with fail
        refine (refNumber_any _ _ _ _ g0 g1 g2 g3 g4 g5).mono ?_
        rintro e w2 ⟨rfl, hb⟩
        have HS2 := Lib.hid (HS.out.up hb)
        clear hb
        go_wp2_with fail
        go_roundg (L.length - (k + 1))
        case measure => omega
        case rel => exact ⟨k + 1, by omega, rfl, by go_num, Lib.hid (by rw [HM.out]; exact HS2.out)⟩
    · obtain rfl : k = L.length := by omega
      go_wp2_with fail
      go_ret
      refine ⟨_, rfl, ?_, (HB.out.trans (HS.out.bel.out.mono hwz))⟩
      rw [HE.out]
      have := HS.out.own
      rw [List.take_length] at this
      exact own_mono this hwz
end Go.Proofs.YtolfgomlokpopaaDoor
