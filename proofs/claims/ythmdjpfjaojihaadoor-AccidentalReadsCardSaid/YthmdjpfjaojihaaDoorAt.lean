/- Accidentals: the reference's Start and Index. -/
import Derived.Test.YthmdjpfjaojihaaDoorAr
namespace Go.Proofs.YthmdjpfjaojihaaDoor
open Go.RowKit
set_option linter.unusedVariables false
set_option linter.unusedSimpArgs false

def intsA (l : List Int) : List Value := l.map (Value.int .i64)
theorem intsA_snoc (l : List Int) (x : Int) : intsA (l ++ [x]) = intsA l ++ [.int .i64 x] := by simp [intsA]
theorem cell1A_new (w : World) (x : Value) (t : TypeId) (b : Nat) (hb : b = w.heap.size) : ∀ (j : Nat) (u : Value), [x][j]? = some u → (w.alloc (.cells #[x] t)).cell? ((⟨b, 0, none⟩ : Addr).add j) = some u := by
  subst hb
  intro j u hj
  match j, hj with
  | 0, hj => simp at hj; subst hj; simp [Addr.add]
theorem infoI : (Tryd.prog.info? 3).map (fun i => (i.zero, i.size, i.bytes)) = some (some (.int .i64 0), 1, 8) := by kernel_rfl
structure RA (w wr : World) (v : Value) (l : List Int) : Prop where
  bel : Bel w wr
  own : wr.ownsRow w.heap.size 3 1 v l.length (intsA l)
theorem RA.up {w wr w' : World} {v : Value} {l : List Int} (h : RA w wr v l) (hb : Below wr.heap.size wr w') : RA w w' v l := ⟨h.bel.up hb, ownUp h.own hb⟩
def frL (f : Int) (k : Nat) : List Int := (List.range k).map (frI f)
theorem frL_len (f : Int) (k : Nat) : (frL f k).length = k := by simp [frL]
theorem frL_snoc (f : Int) (k : Nat) : frL f (k + 1) = frL f k ++ [frI f k] := by simp [frL, List.range_succ]
theorem frL_at (f : Int) {j n : Nat} (h : j < n) : (frL f n)[j]? = some (frI f j) := by simp [frL, h]
theorem RA.fil {w wr : World} {v : Value} {f : Int} (h : RA w wr v (frL f 77)) : ∃ g cap, v = .slice (some ⟨g, 0, none⟩) 77 cap ∧ w.heap.size ≤ g ∧ Fil wr g 77 (frI f) := by
  obtain ⟨hl, hr⟩ := h.own
  rw [frL_len] at hl hr
  rcases hr with h1 | ⟨g, cap, cur, rfl, hg, hc, hn, _, hs, ht⟩
  · exact absurd h1.2 (by decide)
  · refine ⟨g, cap, rfl, hg, fun j hj => ⟨?_, by simp [World.frozen?, hc]⟩⟩
    have hx : (cur.toList.take (77 * 1))[j]? = some (.int .i64 (frI f j)) := by
      rw [ht]
      simp [intsA, frL_at f hj]
    rw [List.getElem?_take] at hx
    rw [if_pos (by omega)] at hx
    simp at hx
    simp [World.cell?, hc, hx]
set_option maxRecDepth 100000 in
set_option maxHeartbeats 2000000 in
theorem startR_ok (f : Int) (w : World) (h : Sg f) :
    Calls Tryd.prog 23 #[.int .i64 f] w fun e w' => ∃ g cap, e = .returned (.slice (some ⟨g, 0, none⟩) 77 cap) ∧ Fil w' g 77 (frI f) ∧ w.heap.size ≤ g ∧ Below w.heap.size w w' := by
  obtain ⟨i0, hi, hz0, hz1, hz2⟩ := info_parts infoI
  have HP := Lib.hid h
  have HA := Lib.hid (show RA w w (.slice none 0 0) (frL f 0) from ⟨Bel.refl w, World.ownsRow_nil _ _ _ _⟩)
  clear h
  go_enter Tryd.func23, Tryd.ntmps23
  go_wp2_with fail
  go_loopg [3, 4] 77 (fun gm out i wr => ∃ k : Nat, k ≤ 77 ∧ gm = 77 - k ∧ i = .int .i64 (k : Int) ∧ Hid (RA w wr out (frL f k)))
  case atStart => exact ⟨0, by omega, by omega, rfl, HA⟩
  case round =>
    obtain ⟨k, hk, rfl, rfl, HS⟩ := hrel
    clear HA
    by_cases hlt : k < 77
    · go_wp2_with fail
      refine (keyR_ok f ((k : Int) % 7) _ HP.out (by omega) (by omega)).mono ?_
      rintro e w1 ⟨rfl, hb⟩
      have HM := Lib.hid (frL_snoc f k)
      have hfr : frI f k = alI f ((k : Int) % 7) := by unfold frI; rw [Int.natCast_emod]; rfl
      rw [hfr] at HM
      have HS2 := Lib.hid (HS.out.up hb)
      have hl := Lib.hid (show (frL f k).length ≤ 77 by rw [frL_len]; omega)
      have hw : w.heap.size ≤ w1.heap.size := HS2.out.bel.size
      generalize alI f ((k : Int) % 7) = x at *
      clear hb HS hfr
      go_wp2_with (first | (at_builtin; refine wpList_append_own _ rfl _ _ 32 rfl w.heap.size 3 i0 (.int .i64 0) 1 8 Tryd.underlying32 hi hz0 hz1 hz2 rfl (by decide) _ _ _ rfl (HS2.out.own.alloc _) ⟨w1.heap.size, 0, none⟩ 1 1 [.int .i64 x] rfl rfl (cell1A_new _ _ _ _ rfl) (by simp [Value.oneCell']) (by have := hl.out; unfold maxLen; omega) (by have := hl.out; omega) (by simp; omega) ?_; intro v' w2 hown' hgrow _))
      go_roundg (77 - (k + 1))
      case measure => omega
      case rel =>
        refine ⟨k + 1, by omega, rfl, by go_num, Lib.hid ⟨Below.grown (HS2.out.bel.alloc _) hgrow (by simp; omega) (fun r hr => (HS2.out.own.lt r hr).1), ?_⟩⟩
        rw [HM.out, List.length_append, intsA_snoc]
        exact hown'
    · obtain rfl : k = 77 := by omega
      obtain ⟨g, cap, rfl, hg, hF⟩ := HS.out.fil
      go_wp2_with fail
      go_ret
      exact ⟨g, cap, rfl, hF, hg, HS.out.bel.out⟩
set_option maxRecDepth 100000 in
set_option maxHeartbeats 2000000 in
theorem idxR_ok (r o : Int) (w : World) (h : Pos r o) :
    Calls Tryd.prog 24 #[.int .i64 r, .int .i64 o] w fun e w' => e = .returned (.int .i64 (pxI r o)) ∧ Below w.heap.size w w' := by
  obtain ⟨s0, s1, o0, o1⟩ := h
  go_enter Tryd.func24, Tryd.ntmps24
  go_wp2_with fail
  go_ret
  exact ⟨by first | rfl | (unfold pxI; rfl) | (unfold pxI; simp), Below.refl _ _⟩
end Go.Proofs.YthmdjpfjaojihaaDoor
