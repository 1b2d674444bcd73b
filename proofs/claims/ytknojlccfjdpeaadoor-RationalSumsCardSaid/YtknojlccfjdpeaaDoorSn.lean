/- The law on sums at an empty list, and the argument opened. -/
import Derived.Test.YtknojlccfjdpeaaDoorSl
import Derived.Deep.Slices
import Derived.ProofKit
import Derived.OpenShut
import Derived.Lib.SmallJoins
namespace Go.Proofs.YtknojlccfjdpeaaDoor
open Go.RowKit
set_option linter.unusedVariables false
set_option linter.unusedSimpArgs false

set_option maxRecDepth 100000 in
set_option maxHeartbeats 1000000 in
theorem law_RationalSums_none (ao : Option Addr) (cap : Nat) (w : World) (ht : Tab w) :
    Calls Tryd.prog 5 #[.slice ao 0 cap] w fun e w' => e = .returned (.bool true) ∧ Below w.heap.size w w' := by
  have HT := Lib.hid ht
  clear ht
  go_enter Tryd.func5, Tryd.ntmps5
  go_wp2_with fail
  refine wp_loop_rounds 1 ?_
  rw [rounds_succ]
  have T1 := Two.new w (.int .i64 0) (.int .i64 1) 26 w.heap.size rfl
  obtain ⟨s0, s1, s2, s3, s4⟩ := id T1
  have B1 := Lib.hid ((Bel.refl w).alloc (.cells #[.int .i64 0, .int .i64 1] 26))
  go_wp2_with fail
  refine (sum_nil _).mono ?_
  rintro e w2 ⟨rfl, hb⟩
  have B2 := Lib.hid (B1.out.up hb)
  have T2 := T1.up hb
  clear hb T1 s0 s1 s2 s3 s4
  obtain ⟨s0, s1, s2, s3, s4⟩ := id T2
  go_wp2_with fail
  refine (known_any _ (HT.out.below (B2.out.alloc _).out)).mono ?_
  rintro e w3 ⟨rfl, hb⟩
  have B3 := Lib.hid ((B2.out.alloc _).up hb)
  have T3 := (T2.alloc _).up hb
  have X3 := (Two.new _ _ _ _ (w2.heap.size) (by simp)).up hb
  clear hb T2 s0 s1 s2 s3 s4
  obtain ⟨s0, s1, s2, s3, s4⟩ := id T3
  obtain ⟨x0, x1, x2, x3, x4⟩ := id X3
  go_wp2_with fail
  refine (same_okD 0 1 _ Rat1.low01).mono ?_
  rintro e w4 ⟨rfl, hb⟩
  have B4 := Lib.hid (B3.out.up hb)
  go_wp2
  go_ret
  exact ⟨rfl, B4.out.out⟩

theorem lt_of_cell {w : World} {a : Addr} {v : Value} (h : w.cell? a = some v) : a.block < w.heap.size := by
  unfold World.cell? at h
  cases hb : w.heap[a.block]? with
  | none => rw [hb] at h; simp at h
  | some o => exact (Array.getElem?_eq_some_iff.1 hb).1
section
open Go.ChangeShapes Go.WideShapes Go.ChangeAt Go.RowKit Go.Joins Go.Deep
variable {H : Type} {enc : TypeId × Value → H} {P : Program} {w : World} {base : Nat} {spare : Nat → Bool} {held : Bool}
/-- an argument that is a slice of arrays of two ints -/
theorem open_arr2s {r : Reach} {b0 : Nat} {t e f : TypeId} {v : Value} {d : DataW H} {p : List MemPlace} (ht : P.underlying t = some (.slice e)) (he : P.underlying e = some (.array 2 f)) (hf : P.underlying f = some (.int .i64)) (hcf : P.cellsOf f = 1) (hce : P.cellsOf e = 2)
    (hv : Value.okWide P w r b0 t v) (h : DataW.Trod enc P w base spare held t v d p) :
    (∃ ao cap, v = .slice ao 0 cap) ∨ ∃ (b off len cap : Nat) (X Y : Nat → Int), v = .slice (some ⟨b, off, none⟩) len cap ∧ 0 < len ∧ len ≤ 9223372036854775807 ∧ b < w.heap.size ∧
      ∀ k, k < len → w.cell? ⟨b, off + k * 2, none⟩ = some (.int .i64 (X k)) ∧ w.cell? ⟨b, off + k * 2 + 1, none⟩ = some (.int .i64 (Y k)) := by
  obtain ⟨a0, l0, c0, rfl⟩ := okWide_slice ht hv
  obtain ⟨fuel, hf0⟩ := h
  rcases open_slice ht hf0 with ⟨hcs, hx⟩ | ⟨a, len, cap, m, n, D, Pl, hcs, hb, hl, hm, hmm, hx, hi⟩
  · simp [Value.cells] at hcs
    obtain ⟨rfl, rfl, rfl⟩ := hcs
    exact .inl ⟨_, _, rfl⟩
  · simp [Value.cells] at hcs
    obtain ⟨rfl, rfl, rfl⟩ := hcs
    by_cases h0 : l0 = 0
    · subst h0; exact .inl ⟨_, _, rfl⟩
    · right
      have hlm : l0 ≤ m := by rw [hmm]; split <;> omega
      have each : ∀ i, i < l0 → ∃ q : Int × Int, w.cell? (a.add (i * 2)) = some (.int .i64 q.1) ∧ w.cell? (a.add (i * 2 + 1)) = some (.int .i64 q.2) := by
        intro i hil
        obtain ⟨cs', hc, ht'⟩ := hi i (by omega)
        rw [hce] at hc
        obtain ⟨_, hcl, hat⟩ := World.cells?_some hc
        have d0 := hat 0 (by omega)
        have d1 := hat 1 (by omega)
        match cs', hcl with
        | [c0, c1], _ =>
          obtain ⟨xs, mm, _, _, _, hl2, hel⟩ := DataW.trod_array he ht'
          match xs, hl2 with
          | [x0, x1], _ =>
            have g0 := hel 0 (by omega)
            have g1 := hel 1 (by omega)
            rw [hcf] at g0 g1
            obtain ⟨u0, e0, _, _⟩ := DataW.trod_int hf (show DataW.trod enc P w base spare held mm f [c0] = some x0 by simpa using g0)
            obtain ⟨u1, e1, _, _⟩ := DataW.trod_int hf (show DataW.trod enc P w base spare held mm f [c1] = some x1 by simpa using g1)
            simp at e0 e1
            subst e0 e1
            refine ⟨(u0, u1), ?_, ?_⟩
            · simpa [add_add] using d0
            · simpa [add_add] using d1
      obtain ⟨q, hq⟩ := choose_lt each
      obtain ⟨b, off, spot⟩ := a
      have hspot : spot = none := by simpa [Addr.add] using World.cell?_spot (hq 0 (by omega)).1
      subst hspot
      have hbs : b < w.heap.size := by
        have := (hq 0 (by omega)).1
        simp [Addr.add] at this
        exact lt_of_cell this
      refine ⟨b, off, l0, c0, fun k => (q k).1, fun k => (q k).2, rfl, by omega, by unfold maxLen at hm; omega, hbs, fun k hk => ?_⟩
      have := hq k hk
      rw [add_plain, add_plain] at this
      exact this
end
set_option maxRecDepth 100000 in
open Go.ChangeShapes Go.WideShapes Go.ChangeAt in
theorem law_RationalSums {H : Type} {enc : TypeId × Value → H} {base : Nat} {spare : Nat → Bool} {held : Bool} {r : Reach} {b0 : Nat} {v : Value} {d : DataW H} {p : List MemPlace} (w : World)
    (hv : Value.okWide Tryd.prog w r b0 40 v) (h : DataW.Trod enc Tryd.prog w base spare held 40 v d p) (ht : Tab w) :
    Calls Tryd.prog 5 #[v] w fun e w' => e = .returned (.bool true) ∧ Below w.heap.size w w' := by
  rcases open_arr2s Tryd.underlying40 Tryd.underlying22 Tryd.underlying3 (by kernel_rfl) (by kernel_rfl) hv h with ⟨ao, cap, rfl⟩ | ⟨b, off, len, cap, X, Y, rfl, h0, hl, hb, hc⟩
  · exact law_RationalSums_none ao cap w ht
  · exact law_RationalSums_some b off len cap X Y w hb h0 hl ht (Lib.hid hc)
end Go.Proofs.YtknojlccfjdpeaaDoor
