/- The reference's list of all pitches. -/
import Derived.Test.YtolfgomlokpopaaDoorQa
namespace Go.Proofs.YtolfgomlokpopaaDoor
open Go.RowKit
set_option linter.unusedVariables false
set_option linter.unusedSimpArgs false

/-- the k-th of all triples, if it is a pitch -/
def allK (k : Nat) : Option (Int × Int × Int) :=
  if Pit (((k % 35 / 5 : Nat) : Int)) (((k % 5 : Nat) : Int) - 2) (((k / 35 : Nat) : Int) - 1) then some ((((k % 35 / 5 : Nat) : Int)), (((k % 5 : Nat) : Int) - 2), (((k / 35 : Nat) : Int) - 1)) else none
def allN (n : Nat) : List (Int × Int × Int) := (List.range n).filterMap allK
theorem allN_hit {n : Nat} {p : Int × Int × Int} (h : allK n = some p) : allN (n + 1) = allN n ++ [p] := by simp [allN, List.range_succ, h]
theorem allN_miss {n : Nat} (h : allK n = none) : allN (n + 1) = allN n := by simp [allN, List.range_succ, h]
theorem allN_len (n : Nat) : (allN n).length ≤ n := by have := List.length_filterMap_le allK (List.range n); simpa [allN] using this
theorem allK_at (i j k : Nat) (hj : j < 7) (hk : k < 5) (s a o : Int) (hs : s = j) (ha : a = (k : Int) - 2) (ho : o = (i : Int) - 1) : allK (35 * i + 5 * j + k) = if Pit s a o then some (s, a, o) else none := by
  have e1 : (35 * i + 5 * j + k) % 35 / 5 = j := by omega
  have e2 : (35 * i + 5 * j + k) % 5 = k := by omega
  have e3 : (35 * i + 5 * j + k) / 35 = i := by omega
  subst hs ha ho
  unfold allK
  rw [e1, e2, e3]
/-- what the loops of All keep -/
structure AL (w wr : World) (v : Value) (n : Nat) : Prop where
  bel : Bel w wr
  own : wr.ownsRow w.heap.size 23 3 v (allN n).length (cells3 (allN n))
theorem AL.up {w wr w' : World} {v : Value} {n : Nat} (h : AL w wr v n) (hb : Below wr.heap.size wr w') : AL w w' v n := ⟨h.bel.up hb, ownUp h.own hb⟩
set_option maxRecDepth 100000 in
set_option maxHeartbeats 2000000 in
theorem refAll_any (w : World) :
    Calls Tryd.prog 36 #[] w fun e w' => ∃ v, e = .returned v ∧ w'.ownsRow w.heap.size 23 3 v (allN 385).length (cells3 (allN 385)) ∧ Below w.heap.size w w' := by
  obtain ⟨i0, hi, hz0, hz1, hz2⟩ := info_parts infoP
  have HA := Lib.hid (show AL w w (.slice none 0 0) 0 from ⟨Bel.refl w, World.ownsRow_nil _ _ _ _⟩)
  go_enter Tryd.func36, Tryd.ntmps36
  go_wp2_with fail
  go_loopg [1, 2] 11 (fun gm out o wr => ∃ i : Nat, i ≤ 11 ∧ gm = 11 - i ∧ o = .int .i64 ((i : Int) - 1) ∧ Hid (AL w wr out (35 * i)))
  case atStart => exact ⟨0, by omega, by omega, rfl, HA⟩
  case round =>
    obtain ⟨i, hi', rfl, rfl, HS⟩ := hrel
    clear HA
    by_cases hlt : i < 11
    · go_wp2_with fail
      rw [show decide ((i : Int) - 1 ≤ 9) = true from by simp; omega]
      go_loopg [1, 3] 7 (fun gm out s wr => ∃ j : Nat, j ≤ 7 ∧ gm = 7 - j ∧ s = .int .i64 (j : Int) ∧ Hid (AL w wr out (35 * i + 5 * j)))
      case atStart => exact ⟨0, by omega, by omega, rfl, HS⟩
      case round =>
        obtain ⟨j, hj', rfl, rfl, HS⟩ := hrel
        by_cases hlt2 : j < 7
        · go_wp2_with fail
          rw [show decide ((j : Int) ≤ 6) = true from by simp; omega]
          go_loopg [1, 4] 5 (fun gm out a wr => ∃ k : Nat, k ≤ 5 ∧ gm = 5 - k ∧ a = .int .i64 ((k : Int) - 2) ∧ Hid (AL w wr out (35 * i + 5 * j + k)))
          case atStart => exact ⟨0, by omega, by omega, rfl, HS⟩
          case round =>
            obtain ⟨k, hk', rfl, rfl, HS⟩ := hrel
            by_cases hlt3 : k < 5
            · have e := allK_at i j k hlt2 hlt3 _ _ _ rfl rfl rfl
              by_cases hp : Pit (j : Int) ((k : Int) - 2) ((i : Int) - 1)
              · rw [if_pos hp] at e
                have HM := Lib.hid (allN_hit e)
                have HP := Lib.hid hp
                clear hp e
                go_wp2_with fail
                have HS1 := HS.out.up ((Below.refl _ _).alloc (Nat.le_refl _) (.cells #[.int .i64 (j : Int), .int .i64 ((k : Int) - 2), .int .i64 ((i : Int) - 1)] 23))
                have X1 := Tri.new wr (.int .i64 (j : Int)) (.int .i64 ((k : Int) - 2)) (.int .i64 ((i : Int) - 1)) 23 wr.heap.size rfl
                refine (exists_yes _ _ _ _ HP.out).mono ?_
                rintro e w1 ⟨rfl, hb⟩
                have HS2 := Lib.hid (HS1.up hb)
                have X2 := X1.up hb
                obtain ⟨x0, x1, x2, x3, x4, x5, x6⟩ := id X2
                have hw : w.heap.size ≤ w1.heap.size := HS2.out.bel.size
                clear HS1 X1 hb HS
                have hlen := allN_len (35 * i + 5 * j + k)
                go_wp2_with (first | (at_builtin; refine wpList_append_own _ rfl _ _ 34 rfl w.heap.size 23 i0 (.agg #[.int .i64 0, .int .i64 0, .int .i64 0]) 3 24 Tryd.underlying34 hi hz0 hz1 hz2 rfl (by decide) _ _ _ rfl (HS2.out.own.alloc _) ⟨w1.heap.size, 0, none⟩ 1 1 [.int .i64 (j : Int), .int .i64 ((k : Int) - 2), .int .i64 ((i : Int) - 1)] rfl rfl (cell3_new _ _ _ _ _ _ rfl) (by simp [Value.oneCell']) (by unfold maxLen; omega) (by omega) (by simp; omega) ?_; intro v' w2 hown' hgrow _))
                go_roundg (5 - (k + 1))
                case measure => omega
                case rel =>
                  refine ⟨k + 1, by omega, rfl, by go_num, Lib.hid ?_⟩
                  have hlt' : ∀ r, u1.ownBlock = some r → w.heap.size ≤ r := fun r hr => (HS2.out.own.lt r hr).1
                  refine ⟨Below.grown (HS2.out.bel.alloc _) hgrow (by simp; omega) hlt', ?_⟩
                  show w2.ownsRow w.heap.size 23 3 v' (allN (35 * i + 5 * j + k + 1)).length (cells3 (allN (35 * i + 5 * j + k + 1)))
                  rw [HM.out, List.length_append, cells3_snoc]
                  exact hown'
              · rw [if_neg hp] at e
                have HM := Lib.hid (allN_miss e)
                have HP := Lib.hid hp
                clear hp e
                go_wp2_with fail
                refine (exists_no _ _ _ _ HP.out).mono ?_
                rintro e w1 ⟨rfl, hb⟩
                have HS2 := Lib.hid ((HS.out.up ((Below.refl _ _).alloc (Nat.le_refl _) (.cells #[.int .i64 (j : Int), .int .i64 ((k : Int) - 2), .int .i64 ((i : Int) - 1)] 23))).up hb)
                clear hb HS
                go_wp2_with fail
                go_roundg (5 - (k + 1))
                case measure => omega
                case rel => exact ⟨k + 1, by omega, rfl, by go_num, Lib.hid ⟨HS2.out.bel, by show World.ownsRow _ _ _ _ _ (allN (35 * i + 5 * j + k + 1)).length (cells3 (allN (35 * i + 5 * j + k + 1))); rw [HM.out]; exact HS2.out.own⟩⟩
            · obtain rfl : k = 5 := by omega
              go_wp2_with fail
              go_roundg (7 - (j + 1))
              case measure => omega
              case rel => exact ⟨j + 1, by omega, rfl, by go_num, HS⟩
        · obtain rfl : j = 7 := by omega
          go_wp2_with fail
          go_roundg (11 - (i + 1))
          case measure => omega
          case rel => exact ⟨i + 1, by omega, rfl, by go_num, HS⟩
    · obtain rfl : i = 11 := by omega
      go_wp2_with fail
      go_ret
      exact ⟨_, rfl, HS.out.own, HS.out.bel.out⟩
end Go.Proofs.YtolfgomlokpopaaDoor
