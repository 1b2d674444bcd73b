/- Note values: Decompose of the example, Ticks. -/
import Derived.Test.YtoobfcekgfgipaaDoorDi
import Derived.Outline
namespace Go.Proofs.YtoobfcekgfgipaaDoor
open Go.RowKit
set_option linter.unusedVariables false
set_option linter.unusedSimpArgs false

theorem first_d0 (mb : Nat) (w : World) : Calls Tryd.prog 32 #[.map (some mb), .agg #[.int .i64 2419200, .int .i64 0]] w fun e w' => e = .returned (.agg #[.int .i64 0, .int .i64 0, .bool false]) ∧ Below w.heap.size w w' := first_0 2419200 (.map (some mb)) w
theorem first_d1 (mb : Nat) (w : World) : Calls Tryd.prog 32 #[.map (some mb), .agg #[.int .i64 2419200, .int .i64 1]] w fun e w' => e = .returned (.agg #[.int .i64 0, .int .i64 0, .bool false]) ∧ Below w.heap.size w w' := first_1n 2419200 (.map (some mb)) w (by decide +kernel)
set_option maxRecDepth 100000 in
set_option maxHeartbeats 4000000 in
theorem decompose_k (w : World) :
    Calls Tryd.prog 26 #[.int .i64 2419200] w fun e w' => ∃ g cap, e = .returned (.tuple #[.slice (some ⟨g, 0, none⟩) 2 cap, .int .i64 0]) ∧ (w'.cell? ⟨g, 0, none⟩ = some (.int .i64 0) ∧ w'.cell? ⟨g, 1, none⟩ = some (.int .i64 0) ∧ w'.cell? ⟨g, 2, none⟩ = some (.int .i64 2) ∧ w'.cell? ⟨g, 3, none⟩ = some (.int .i64 0)) ∧ Below w.heap.size w w' := by
  have HB0 := Lib.hid ((Bel.refl w).alloc (.map #[] 0))
  have HM0 := Lib.hid (World.alloc_heap_new w (.map #[] 0))
  have hf1 := fld1
  go_enter Tryd.func26, Tryd.ntmps26
  have hmk := @run_makeMap Tryd.prog
  go_wp2_with fail
  generalize (w.alloc (.map #[] 0)) = W0 at *
  go_loopg [5] 3 (fun gm i wr => ∃ k : Nat, k ≤ 2 ∧ gm = 3 - k ∧ i = .int .i64 (k : Int) ∧ Hid (Bel w wr) ∧ Hid (wr.heap[w.heap.size]? = some (.map #[] 0)))
  case atStart => exact ⟨0, by omega, by omega, rfl, HB0, HM0⟩
  case round =>
    obtain ⟨k, hk, rfl, rfl, HB, HM⟩ := hrel
    clear HB0 HM0
    rcases (show k = 0 ∨ k = 1 ∨ k = 2 by omega) with rfl | rfl | rfl
    · go_wp2_with fail
      refine (first_d0 _ _).mono ?_
      rintro e w1 ⟨rfl, hb⟩
      have HB1 := Lib.hid (HB.out.up hb)
      have HM1 := Lib.hid (map_below HM.out hb)
      clear hb
      go_wp2_with fail
      go_roundg (3 - (0 + 1))
      case measure => omega
      case rel => exact ⟨1, by omega, rfl, rfl, HB1, HM1⟩
    · go_wp2_with fail
      refine (first_d1 _ _).mono ?_
      rintro e w1 ⟨rfl, hb⟩
      have HB1 := Lib.hid (HB.out.up hb)
      have HM1 := Lib.hid (map_below HM.out hb)
      clear hb
      go_wp2_with fail
      go_roundg (3 - (1 + 1))
      case measure => omega
      case rel => exact ⟨2, by omega, rfl, rfl, HB1, HM1⟩
    · go_wp2_with fail
      refine (first_2m _ _ HM.out).mono ?_
      rintro e w1 ⟨rfl, hm, hg⟩
      have HB1 := Lib.hid (show Bel w w1 from Below.grown HB.out.out hg HB.out.size (fun r e => by cases e; exact Nat.le_refl _))
      have HM1 := Lib.hid hm
      clear hm hg
      go_wp2_with fail
      refine (values_2 _ _ HM1.out).mono ?_
      rintro e w2 ⟨g, cap, rfl, hc, hb⟩
      have HB2 := Lib.hid (HB1.out.up hb)
      have HC := Lib.hid hc
      clear hc hb
      go_wp2_with fail
      go_ret2
      exact ⟨g, cap, rfl, HC.out, HB2.out.out⟩
set_option maxRecDepth 100000 in
set_option maxHeartbeats 1000000 in
theorem ticks_y (l d : Int) (w : World) (h : Va l d) :
    Calls Tryd.prog 9 #[.agg #[.int .i64 l, .int .i64 d]] w fun e w' => e = .returned (.tuple #[.int .i64 (lenV l d), .int .i64 0]) ∧ Below w.heap.size w w' := by
  have B0 := Lib.hid ((Bel.refl w).alloc (.cells #[.int .i64 l, .int .i64 d] 23))
  have D0 := Lib.hid (Duo.new w (.int .i64 l) (.int .i64 d) 23 w.heap.size rfl)
  have H := Lib.hid h
  clear h
  go_enter Tryd.func9, Tryd.ntmps9
  go_wp2_with fail
  refine (check_y l d _ H.out).mono ?_
  rintro e w1 ⟨rfl, hb⟩
  have B1 := Lib.hid (B0.out.up hb)
  obtain ⟨_, c0, c1, _, _⟩ := D0.out.up hb
  clear hb
  go_wp2_with fail
  refine (length_ok l d _ H.out).mono ?_
  rintro e w2 ⟨rfl, hb⟩
  have B2 := Lib.hid (B1.out.up hb)
  clear hb
  go_wp2_with fail
  go_ret2
  exact ⟨rfl, B2.out.out⟩
set_option maxRecDepth 100000 in
set_option maxHeartbeats 1000000 in
theorem ticks_n (l d : Int) (w : World) (h : ¬ Va l d) :
    Calls Tryd.prog 9 #[.agg #[.int .i64 l, .int .i64 d]] w fun e w' => e = .returned (.tuple #[.int .i64 0, .int .i64 17]) ∧ Below w.heap.size w w' := by
  have B0 := Lib.hid ((Bel.refl w).alloc (.cells #[.int .i64 l, .int .i64 d] 23))
  have H := Lib.hid h
  clear h
  go_enter Tryd.func9, Tryd.ntmps9
  go_wp2_with fail
  refine (check_n l d _ H.out).mono ?_
  rintro e w1 ⟨rfl, hb⟩
  have B1 := Lib.hid (B0.out.up hb)
  clear hb
  go_wp2_with fail
  go_ret2
  exact ⟨rfl, B1.out.out⟩
end Go.Proofs.YtoobfcekgfgipaaDoor
