/- Intervals: the reference's list of the pitches with a number. -/
import Derived.Test.YtfbogakmhaiddaaDoorIl
namespace Go.Proofs.YtfbogakmhaiddaaDoor
open Go.RowKit
set_option linter.unusedVariables false
set_option linter.unusedSimpArgs false

set_option maxRecDepth 100000 in
set_option maxHeartbeats 2000000 in
theorem refAll_any (n : Int) (w : World) (n0 : -1000 ≤ n) (n1 : n ≤ 1000) :
    Calls Tryd.prog 29 #[.int .i64 n] w fun e w' => ∃ v, e = .returned v ∧ w'.ownsRow w.heap.size 41 3 v (refA n 77).length (cells3 (refA n 77)) ∧ Below w.heap.size w w' := by
  obtain ⟨i0, hi, hz0, hz1, hz2⟩ := info_parts infoP
  have HA := Lib.hid (show RA w w (.slice none 0 0) n 0 from ⟨Bel.refl w, World.ownsRow_nil _ _ _ _⟩)
  go_enter Tryd.func29, Tryd.ntmps29
  go_wp2_with fail
  go_loopg [3, 4] 11 (fun gm out o wr => ∃ i : Nat, i ≤ 11 ∧ gm = 11 - i ∧ o = .int .i64 ((i : Int) - 1) ∧ Hid (RA w wr out n (7 * i)))
  case atStart => exact ⟨0, by omega, by omega, rfl, HA⟩
  case round =>
    obtain ⟨i, hi', rfl, rfl, HS⟩ := hrel
    clear HA
    by_cases hlt : i < 11
    · go_wp2_with fail
      rw [show decide ((i : Int) - 1 ≤ 9) = true from by simp; omega]
      go_loopg [3, 5] 7 (fun gm out s wr => ∃ j : Nat, j ≤ 7 ∧ gm = 7 - j ∧ s = .int .i64 (j : Int) ∧ Hid (RA w wr out n (7 * i + j)))
      case atStart => exact ⟨0, by omega, by omega, rfl, HS⟩
      case round =>
        obtain ⟨j, hj', rfl, rfl, HS⟩ := hrel
        by_cases hlt2 : j < 7
        · have e := allA_at n i j hlt2
          have sb := step_bd (s := (j : Int)) (by omega) (by omega)
          go_wp2_with fail
          refine (base_any (j : Int) _ (by omega) (by omega)).mono ?_
          rintro e' w1 ⟨rfl, hb⟩
          have HS2 := Lib.hid (HS.out.up hb)
          clear hb HS
          generalize stepI (j : Int) = S at *
          by_cases hc : -2 ≤ n - 12 * (i : Int) - S ∧ n - 12 * (i : Int) - S ≤ 2 ∧ 0 ≤ n ∧ n ≤ 127
          · rw [if_pos hc] at e
            have HM := Lib.hid (refA_hit e)
            obtain ⟨c0, c1, c2, c3⟩ := hc
            have hlen := refA_len n (7 * i + j)
            have hw : w.heap.size ≤ w1.heap.size := HS2.out.bel.size
            clear e
            go_wp2_with (first | (at_builtin; refine wpList_append_own _ rfl _ _ 51 rfl w.heap.size 41 i0 (.agg #[.int .i64 0, .int .i64 0, .int .i64 0]) 3 24 Tryd.underlying51 hi hz0 hz1 hz2 rfl (by decide) _ _ _ rfl (HS2.out.own.alloc _) ⟨w1.heap.size, 0, none⟩ 1 1 [.int .i64 (j : Int), .int .i64 (n - 12 * (i : Int) - S), .int .i64 ((i : Int) - 1)] rfl rfl (cell3_new _ _ _ _ _ _ rfl) (by simp [Value.oneCell']) (by unfold maxLen; omega) (by omega) (by simp; omega) ?_; intro v' w2 hown' hgrow _))
            go_roundg (7 - (j + 1))
            case measure => omega
            case rel =>
              refine ⟨j + 1, by omega, rfl, by go_num, Lib.hid ?_⟩
              refine ⟨Below.grown (HS2.out.bel.alloc _) hgrow (by simp; omega) (fun r hr => (HS2.out.own.lt r hr).1), ?_⟩
              show w2.ownsRow w.heap.size 41 3 v' (refA n (7 * i + j + 1)).length (cells3 (refA n (7 * i + j + 1)))
              rw [HM.out, List.length_append, cells3_snoc]
              exact hown'
          · rw [if_neg hc] at e
            have HM := Lib.hid (refA_miss e)
            have hd : n - 12 * (i : Int) - S < -2 ∨ -2 ≤ n - 12 * (i : Int) - S ∧ (2 < n - 12 * (i : Int) - S ∨ n - 12 * (i : Int) - S ≤ 2 ∧ (n < 0 ∨ 0 ≤ n ∧ 127 < n)) := by omega
            clear e hc
            have HN := Lib.hid (show RA w w1 u3 n (7 * i + j + 1) from ⟨HS2.out.bel, by rw [HM.out]; exact HS2.out.own⟩)
            rcases hd with h | ⟨c0, h | ⟨c1, h | ⟨c2, h⟩⟩⟩
            all_goals
              go_wp2_with fail
              go_roundg (7 - (j + 1))
              case measure => omega
              case rel => exact ⟨j + 1, by omega, rfl, by go_num, HN⟩
        · obtain rfl : j = 7 := by omega
          go_wp2_with fail
          go_roundg (11 - (i + 1))
          case measure => omega
          case rel => exact ⟨i + 1, by omega, rfl, by go_num, HS⟩
    · obtain rfl : i = 11 := by omega
      go_wp2_with fail
      go_ret
      exact ⟨_, rfl, HS.out.own, HS.out.bel.out⟩
end Go.Proofs.YtfbogakmhaiddaaDoor
