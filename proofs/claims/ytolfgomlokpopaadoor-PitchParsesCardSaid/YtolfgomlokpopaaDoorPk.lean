/- Pitches: the walk of the chapter's examples. -/
import Derived.Test.YtolfgomlokpopaaDoorPh
namespace Go.Proofs.YtolfgomlokpopaaDoor
open Go.RowKit
set_option linter.unusedVariables false
set_option linter.unusedSimpArgs false

theorem enh61 : enhL 61 = [(6, 2, 3), (0, 1, 4), (1, -1, 4)] := by decide
theorem find60 : findD (enhL (numP 0 0 4)) (diaP 0 4 + -1) = some (6, 1, 3) := by decide
theorem no_sharp : ∀ a o : Int, -2 ≤ a → a ≤ 2 → -1 ≤ o → o ≤ 9 → ([35] : List UInt8) ≠ signL a ++ Lib.itoa o := by
  intro a o a0 a1 o0 o1 h
  have ht := trim_name a0 a1 o0 o1
  rw [← h, itoa_oct o0 o1] at ht
  obtain ⟨c, r, he, hc⟩ := oct_head o0 o1
  rw [he] at ht
  have : trimT [35] = [] := by decide
  rw [this] at ht
  cases ht
theorem parse_known (w : World) (ht : PW w) :
    Calls Tryd.prog 27 #[.string ⟨#[67, 35]⟩] w fun e w' => e = .returned (.tuple #[.agg #[.int .i64 0, .int .i64 0, .int .i64 0], .int .i64 1, .int .i64 3]) ∧ Below w.heap.size w w' := by
  refine (parse_any ⟨#[67, 35]⟩ w (by decide) ht).mono ?_
  rintro e w' ⟨h, hb⟩
  refine ⟨?_, hb⟩
  rcases h with ⟨h, _⟩ | ⟨_, h, _⟩ | ⟨_, _, a, o, a0, a1, o0, o1, h, _⟩ | ⟨_, _, _, h⟩
  · exact absurd h (by decide)
  · exact absurd h (by decide)
  · exact absurd h (no_sharp a o a0 a1 o0 o1)
  · exact h
theorem name63 : nameB 6 1 3 = ⟨#[66, 98, 51]⟩ := by
  unfold nameB itoaB
  rw [itoa_oct (by omega) (by omega)]
  decide
theorem name_known (w : World) (ht : PW w) :
    Calls Tryd.prog 26 #[.agg #[.int .i64 6, .int .i64 (-1), .int .i64 3]] w fun e w' => e = .returned (.tuple #[.string ⟨#[66, 98, 51]⟩, .int .i64 0]) ∧ Below w.heap.size w w' := by
  have h := name_ok 6 1 3 w (by decide) ht
  rw [name63] at h
  exact h
theorem respell_known (w : World) (ht : PT w) :
    Calls Tryd.prog 22 #[.agg #[.int .i64 0, .int .i64 0, .int .i64 4], .int .i64 (-1)] w fun e w' => e = .returned (.tuple #[.agg #[.int .i64 6, .int .i64 1, .int .i64 3], .int .i64 0]) ∧ Below w.heap.size w w' := by
  refine (respell_ok 0 0 4 (-1) w (by decide) (by omega) (by omega) ht).mono ?_
  rintro e w' (⟨q, hq, rfl, hb⟩ | ⟨hq, _⟩)
  · rw [find60] at hq
    cases hq
    exact ⟨rfl, hb⟩
  · rw [find60] at hq
    cases hq
theorem number_known (w : World) (ht : PT w) :
    Calls Tryd.prog 10 #[.agg #[.int .i64 0, .int .i64 1, .int .i64 4]] w fun e w' => e = .returned (.tuple #[.int .i64 61, .int .i64 0]) ∧ Below w.heap.size w w' := by
  have h := number2_ok 0 1 4 w (by decide) ht
  rw [show numP 0 1 4 = 61 from by decide] at h
  exact h

set_option maxRecDepth 100000 in
set_option maxHeartbeats 2000000 in
theorem known_any (w : World) (ht : PW w) :
    Calls Tryd.prog 13 #[] w fun e w' => e = .returned (.bool true) ∧ Below w.heap.size w w' := by
  have HT := Lib.hid ht
  clear ht
  go_enter Tryd.func13, Tryd.ntmps13
  go_wp2_with fail
  refine (number_known _ HT.out.t).mono ?_
  rintro e w1 ⟨rfl, hb⟩
  have B1 := Lib.hid ((Bel.refl w).up hb)
  have T1 := Lib.hid (HT.out.below hb)
  clear hb HT
  go_wp2_with fail
  refine (enh_ok 61 _ (by omega) (by omega) T1.out.t).mono ?_
  rintro e w2 ⟨v, rfl, hown, _, hb⟩
  have B2 := Lib.hid (B1.out.up hb)
  have T2 := Lib.hid (T1.out.below hb)
  clear hb B1 T1
  rw [enh61] at hown
  obtain ⟨g, cap, rfl, hg, hrow⟩ := rows_of_own hown (by simp)
  obtain ⟨c0, c1, c2⟩ := hrow 0 _ rfl
  clear hown hrow
  go_wp2_with fail
  refine (respell_known _ T2.out.t).mono ?_
  rintro e w3 ⟨rfl, hb⟩
  have B3 := Lib.hid (B2.out.up hb)
  have T3 := Lib.hid (T2.out.below hb)
  replace c0 := cell_up hb c0
  replace c1 := cell_up hb c1
  replace c2 := cell_up hb c2
  clear hb B2 T2
  go_wp2_with fail
  refine (parse_known _ (T3.out.alloc _)).mono ?_
  rintro e w4 ⟨rfl, hb⟩
  have B4 := Lib.hid ((B3.out.alloc _).up hb)
  have T4 := Lib.hid ((T3.out.alloc _).below hb)
  have X4 := (Tri.new _ _ _ _ _ w3.heap.size rfl).up hb
  replace c0 := cell_up hb (cell_up ((Below.refl _ _).alloc (Nat.le_refl _) _) c0)
  replace c1 := cell_up hb (cell_up ((Below.refl _ _).alloc (Nat.le_refl _) _) c1)
  replace c2 := cell_up hb (cell_up ((Below.refl _ _).alloc (Nat.le_refl _) _) c2)
  clear hb B3 T3
  go_wp2_with fail
  refine (name_known _ (T4.out.alloc _)).mono ?_
  rintro e w5 ⟨rfl, hb⟩
  have B5 := Lib.hid ((B4.out.alloc _).up hb)
  have X5 := (X4.alloc _).up hb
  replace c0 := cell_up hb (cell_up ((Below.refl _ _).alloc (Nat.le_refl _) _) c0)
  replace c1 := cell_up hb (cell_up ((Below.refl _ _).alloc (Nat.le_refl _) _) c1)
  replace c2 := cell_up hb (cell_up ((Below.refl _ _).alloc (Nat.le_refl _) _) c2)
  clear hb B4 T4 X4
  obtain ⟨x0, x1, x2, x3, x4, x5, x6⟩ := id X5
  go_wp2_with fail
  go_ret
  exact ⟨rfl, B5.out.out⟩
end Go.Proofs.YtolfgomlokpopaaDoor
