/- Keys: the alterations of the signature of 2, the name of B minor. -/
import Derived.Test.YthdkfeehabpikaaDoorKc
namespace Go.Proofs.YthdkfeehabpikaaDoor
open Go.RowKit
set_option linter.unusedVariables false
set_option linter.unusedSimpArgs false

theorem contains_ok (L : List Int) (g cap : Nat) (v : Int) (w : World) (hl : L.length ≤ 1000) (hr : Row1 w g L) :
    Calls Tryd.prog 35 #[.slice (some ⟨g, 0, none⟩) L.length cap, .int .i64 v] w fun e w' => e = .returned (.bool (decide (v ∈ L))) ∧ Below w.heap.size w w' := by
  have HR := Lib.hid hr
  have B0 := Lib.hid (Bel.refl w)
  clear hr
  go_enter Tryd.func35, Tryd.ntmps35
  go_wp2_with fail
  refine (index_ok L g cap v _ hl HR.out).mono ?_
  rintro e w1 ⟨h, hb⟩
  have B1 := Lib.hid (B0.out.up hb)
  rcases h with ⟨k, hk, rfl⟩ | ⟨hn, rfl⟩
  · have e1 : decide (v ∈ L) = true := by simpa using List.mem_of_getElem? hk
    have E1 := Lib.hid e1
    clear e1 hk hb
    go_wp2_with fail
    go_ret
    exact ⟨by rw [E1.out]; first | done | rfl | simp, B1.out.out⟩
  · have e1 : decide (v ∈ L) = false := by
      simp only [decide_eq_false_iff_not]
      intro hm
      obtain ⟨j, hj, he⟩ := List.getElem_of_mem hm
      exact hn j _ (List.getElem?_eq_getElem hj) he
    have E1 := Lib.hid e1
    clear e1 hn hb
    go_wp2_with fail
    go_ret
    exact ⟨by rw [E1.out]; first | done | rfl | simp, B1.out.out⟩
def al2 (r : Int) : Int := if r ∈ ([3, 0] : List Int) then 1 else 0
set_option maxRecDepth 100000 in
set_option maxHeartbeats 2000000 in
theorem alter_2 (r : Int) (w : World) (hk : KT w) :
    Calls Tryd.prog 20 #[.int .i64 2, .int .i64 r] w fun e w' => e = .returned (.int .i64 (al2 r)) ∧ Below w.heap.size w w' := by
  have B0 := Lib.hid (Bel.refl w)
  have K0 := Lib.hid hk
  go_enter Tryd.func20, Tryd.ntmps20
  go_wp2_with fail
  refine (sig_2 _ K0.out).mono ?_
  rintro e w1 ⟨b, rfl, c0, c1, hb⟩
  have G1 := Lib.hid (show Row1 w1 b [3, 0] from fun k x hx => by
    match k, hx with
    | 0, hx => simp at hx; subst hx; exact c0
    | 1, hx => simp at hx; subst hx; exact c1)
  have B1 := Lib.hid (B0.out.up hb)
  have K1 := Lib.hid (K0.out.below hb)
  clear hb B0 K0 
  go_wp2_with fail
  refine (contains_ok [3, 0] b 7 r _ (by decide) G1.out).mono ?_
  rintro e w2 ⟨rfl, hb⟩
  have B2 := Lib.hid (B1.out.up hb)
  clear hb
  by_cases h : r ∈ ([3, 0] : List Int)
  · have E : Hid (al2 r = 1) := by unfold Hid al2; rw [if_pos h]
    rw [show decide (r ∈ ([3, 0] : List Int)) = true by simpa using h]
    go_wp2_with fail
    go_ret
    exact ⟨by rw [E.out]; first | done | rfl, B2.out.out⟩
  · have E : Hid (al2 r = 0) := by unfold Hid al2; rw [if_neg h]
    rw [show decide (r ∈ ([3, 0] : List Int)) = false by simpa using h]
    go_wp2_with fail
    go_ret
    exact ⟨by rw [E.out]; first | done | rfl, B2.out.out⟩
set_option maxRecDepth 100000 in
set_option maxHeartbeats 2000000 in
theorem name_known  (w : World) (hk : KT w) :
    Calls Tryd.prog 12 #[.int .i64 2, .bool true] w fun e w' => e = .returned (.tuple #[.string ⟨#[66, 32, 109, 105, 110, 111, 114]⟩, .int .i64 0]) ∧ Below w.heap.size w w' := by
  have B0 := Lib.hid (Bel.refl w)
  have K0 := Lib.hid hk
  go_enter Tryd.func12, Tryd.ntmps12
  go_wp2_with fail
  refine (checkK_ok 2 _ (by decide)).mono ?_
  rintro e w1 ⟨rfl, hb⟩
  have B1 := Lib.hid (B0.out.up hb)
  have K1 := Lib.hid (K0.out.below hb)
  clear hb B0 K0 
  go_wp2_with fail
  refine (tonic_y 2 _ (by decide) K1.out).mono ?_
  rintro e w2 ⟨rfl, hb⟩
  rw [show shI ((2 + 3 + 1) % 7) = 6 from by decide, show ((2 + 3 + 1 : Int) / 7) = 0 from by decide]
  have B2 := Lib.hid (B1.out.up hb)
  have K2 := Lib.hid (K1.out.below hb)
  clear hb B1 K1 
  obtain ⟨s0, s1, s2, s3, s4, s5, s6, g0, g1, g2⟩ := id K2.out
  go_wp2_with fail
  refine Qt.regionAll (by kernel_rfl) (by kernel_rfl) ?_
  intro T f F hne
  have RB := Lib.hid (fun g => B2.out.up (F.below g))
  have a1 := fun g => cell_up (F.below g) g1
  repeat (go_big_quiet_step (first | (go_at_call 25; exact F.call (word_y _))))
  refine wpQuiet_nil ?_
  rintro _ ⟨g, rfl⟩
  have B3 := Lib.hid (RB.out g)
  go_wp2_with fail
  go_ret2
  exact ⟨by first | rfl | decide, B3.out.out⟩
set_option maxRecDepth 100000 in
set_option maxHeartbeats 2000000 in
theorem sigK_known  (w : World) (hk : KT w) :
    Calls Tryd.prog 21 #[.int .i64 2] w fun e w' => ∃ b, e = .returned (.tuple #[.slice (some ⟨b, 0, none⟩) 2 7, .int .i64 0]) ∧ w'.cell? ⟨b, 0, none⟩ = some (.int .i64 3) ∧ w'.cell? ⟨b, 1, none⟩ = some (.int .i64 0) ∧ Below w.heap.size w w' := by
  have B0 := Lib.hid (Bel.refl w)
  have K0 := Lib.hid hk
  go_enter Tryd.func21, Tryd.ntmps21
  go_wp2_with fail
  refine (checkK_ok 2 _ (by decide)).mono ?_
  rintro e w1 ⟨rfl, hb⟩
  have B1 := Lib.hid (B0.out.up hb)
  have K1 := Lib.hid (K0.out.below hb)
  clear hb B0 K0 
  go_wp2_with fail
  refine (sig_2 _ K1.out).mono ?_
  rintro e w2 ⟨b, rfl, c0, c1, hb⟩
  have B2 := Lib.hid (B1.out.up hb)
  have K2 := Lib.hid (K1.out.below hb)
  clear hb B1 K1 
  go_wp2_with fail
  go_ret2
  exact ⟨b, rfl, c0, c1, B2.out.out⟩
theorem infoP : (Tryd.prog.info? 33).map (fun i => (i.zero, i.size, i.bytes)) = some (some (.agg #[.int .i64 0, .int .i64 0, .int .i64 0]), 3, 24) := by kernel_rfl
theorem getD_some {l : List Value} {j : Nat} (h : j < l.length) : l[j]? = some ((l[j]?).getD undef) := by rw [List.getElem?_eq_getElem h]; rfl
/-- twenty-one cells of a block -/
def Cel (w : World) (b : Nat) (vs : Nat → Value) : Prop := ∀ j : Nat, j < 21 → w.cell? ⟨b, j, none⟩ = some (vs j) ∧ w.frozen? ⟨b, j, none⟩ = false
theorem Cel.lt {w : World} {b : Nat} {vs : Nat → Value} (h : Cel w b vs) : b < w.heap.size := lt_of_cell (h 0 (by omega)).1
theorem Cel.up {w w' : World} {b : Nat} {vs : Nat → Value} (h : Cel w b vs) (hb : Below w.heap.size w w') : Cel w' b vs :=
  fun j hj => ⟨cell_up hb (h j hj).1, (hb.frozen (p := ⟨b, j, none⟩) h.lt).trans (h j hj).2⟩
theorem Cel.set {w : World} {b : Nat} {vs : Nat → Value} (h : Cel w b vs) (i : Nat) (hi : i < 21) (u : Value) : Cel (w.setCell ⟨b, i, none⟩ u) b (fun j => if j = i then u else vs j) := by
  intro j hj
  have hi' := h i hi
  have hj' := h j hj
  by_cases e : j = i
  · subst e
    simp [go_sem, hi'.1, hi'.2]
  · have e' : i ≠ j := fun h => e h.symm
    simp [go_sem, hj'.1, hj'.2, e, e']
set_option maxRecDepth 100000 in
set_option maxHeartbeats 2000000 in
theorem scale_known  (w : World) (hk : KT w) :
    Calls Tryd.prog 7 #[.int .i64 2, .bool false, .int .i64 4] w fun e w' => ∃ b, e = .returned (.tuple #[.slice (some ⟨b, 0, none⟩) 7 7, .int .i64 0]) ∧ w'.cell? ⟨b, 18, none⟩ = some (.int .i64 0) ∧ w'.cell? ⟨b, 19, none⟩ = some (.int .i64 1) ∧ w'.cell? ⟨b, 20, none⟩ = some (.int .i64 5) ∧ Below w.heap.size w w' := by
  obtain ⟨i0, hi, hz0, hz1, hz2⟩ := info_parts infoP
  have B0 := Lib.hid (Bel.refl w)
  have K0 := Lib.hid hk
  have HK := Lib.hid hk
  go_enter Tryd.func7, Tryd.ntmps7
  go_wp2_with fail
  refine (checkK_ok 2 _ (by decide)).mono ?_
  rintro e w1 ⟨rfl, hb⟩
  have B1 := Lib.hid (B0.out.up hb)
  have K1 := Lib.hid (K0.out.below hb)
  clear hb B0 K0 
  go_wp2_with fail
  refine (tonic_n 2 _ (by decide) K1.out).mono ?_
  rintro e w2 ⟨rfl, hb⟩
  rw [show shI ((2 + 1) % 7) = 1 from by decide, show ((2 + 1 : Int) / 7) = 0 from by decide]
  have B2 := Lib.hid (B1.out.up hb)
  have K2 := Lib.hid (K1.out.below hb)
  clear hb B1 K1 
  have hsz : w.heap.size ≤ w2.heap.size := B2.out.size
  go_wp2_with (first | (at_make; refine wpList_make_full _ rfl _ _ 22 rfl w.heap.size 33 i0 (.agg #[.int .i64 0, .int .i64 0, .int .i64 0]) 3 Tryd.underlying22 hi hz0 hz1 .i64 .i64 7 7 7 rfl rfl rfl rfl (by rw [hz2]; omega) (by unfold maxLen; omega) hsz ?_; intro w3 hown hgrow))
  have C3 := Lib.hid (show Cel w3 w2.heap.size (fun j => ((madeCells (Value.agg #[Value.int IntKind.i64 0, Value.int IntKind.i64 0, Value.int IntKind.i64 0]).cells (7 * 3)).toList[j]?).getD undef) from fun j hj => ⟨by rw [hown.cellAt j (by omega)]; exact getD_some (by rw [hown.1]; omega), hown.frozenAt j⟩)
  have B3 := Lib.hid (show Bel w w3 from Below.grown B2.out hgrow hsz (fun k hk => by cases hk))
  have hwz : w.heap.size ≤ w2.heap.size := hsz
  clear hown hgrow hsz B2 K2 hi hz0 hz1 hz2
  go_loopg [43] 7 (fun gm i wr => ∃ k : Nat, k ≤ 7 ∧ gm = 7 - k ∧ i = .int .i64 (k : Int) ∧ ∃ vs : Nat → Value, Hid (7 ≤ k → vs 18 = .int .i64 0 ∧ vs 19 = .int .i64 1 ∧ vs 20 = .int .i64 5) ∧ Hid (Cel wr w2.heap.size vs) ∧ Hid (Bel w wr))
  case atStart => exact ⟨0, by omega, by omega, rfl, _, Lib.hid (fun h => absurd h (by omega)), C3, B3⟩
  case round =>
    obtain ⟨k, hk7, rfl, rfl, vs, HV, HC, HB⟩ := hrel
    clear C3 B3
    by_cases hlt : k < 7
    · obtain ⟨c0, g0⟩ := HC.out (k * 3) (by omega)
      obtain ⟨c1, g1⟩ := HC.out (k * 3 + 1) (by omega)
      obtain ⟨c2, g2⟩ := HC.out (k * 3 + 2) (by omega)
      by_cases h6 : k = 6
      · subst h6
        go_wp2_with fail
        refine (alter_2 0 _ (HK.out.below HB.out.out)).mono ?_
        rintro e w4 ⟨rfl, hb⟩
        rw [show al2 0 = 1 from by decide]
        have C4 := HC.out.up hb
        have B4 := HB.out.up hb
        clear hb HC HB c0 c1 c2 g0 g1 g2
        obtain ⟨c0, g0⟩ := C4 18 (by omega)
        obtain ⟨c1, g1⟩ := C4 19 (by omega)
        obtain ⟨c2, g2⟩ := C4 20 (by omega)
        have C5 := Lib.hid (((C4.set 18 (by omega) (.int .i64 0)).set 19 (by omega) (.int .i64 1)).set 20 (by omega) (.int .i64 5))
        have B5 := Lib.hid (((B4.set hwz 18 (.int .i64 0)).set hwz 19 (.int .i64 1)).set hwz 20 (.int .i64 5))
        clear C4 B4
        go_wp2_with fail
        go_roundg 0
        case measure => omega
        case rel => exact ⟨7, by omega, rfl, by go_num, _, Lib.hid (fun _ => ⟨by simp, by simp, by simp⟩), C5, B5⟩
      · have hk5 : k ≤ 5 := by omega
        go_wp2_with fail
        refine (alter_2 ((1 + (k : Int)) % 7) _ (HK.out.below HB.out.out)).mono ?_
        rintro e w4 ⟨rfl, hb⟩
        have C4 := HC.out.up hb
        have B4 := HB.out.up hb
        clear hb HC HB c0 c1 c2 g0 g1 g2
        obtain ⟨c0, g0⟩ := C4 (k * 3) (by omega)
        obtain ⟨c1, g1⟩ := C4 (k * 3 + 1) (by omega)
        obtain ⟨c2, g2⟩ := C4 (k * 3 + 2) (by omega)
        have q0 : 0 ≤ (1 + (k : Int)) / 7 ∧ (1 + (k : Int)) / 7 ≤ 1 := by omega
        obtain ⟨q0, q1⟩ := q0
        have C5 := Lib.hid (((C4.set (k * 3) (by omega) (.int .i64 ((1 + (k : Int)) % 7))).set (k * 3 + 1) (by omega) (.int .i64 (al2 ((1 + (k : Int)) % 7)))).set (k * 3 + 2) (by omega) (.int .i64 (4 + (1 + (k : Int)) / 7)))
        have B5 := Lib.hid (((B4.set hwz (k * 3) (.int .i64 ((1 + (k : Int)) % 7))).set hwz (k * 3 + 1) (.int .i64 (al2 ((1 + (k : Int)) % 7)))).set hwz (k * 3 + 2) (.int .i64 (4 + (1 + (k : Int)) / 7)))
        clear C4 B4
        go_wp2_with fail
        go_roundg (7 - (k + 1))
        case measure => omega
        case rel => exact ⟨k + 1, by omega, rfl, by go_num, _, Lib.hid (fun h => absurd h (by omega)), C5, B5⟩
    · obtain rfl : k = 7 := by omega
      obtain ⟨v0, v1, v2⟩ := HV.out (Nat.le_refl _)
      have c0 := (HC.out 18 (by omega)).1
      have c1 := (HC.out 19 (by omega)).1
      have c2 := (HC.out 20 (by omega)).1
      rw [v0] at c0
      rw [v1] at c1
      rw [v2] at c2
      go_wp2_with fail
      go_ret2
      exact ⟨w2.heap.size, rfl, c0, c1, c2, HB.out.out⟩
end Go.Proofs.YthdkfeehabpikaaDoor
