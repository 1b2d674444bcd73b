/- The walks of the scanner of a text's numbers. -/
import Derived.Test.YtknojlccfjdpeaaDoorRf
import Derived.Test.YtknojlccfjdpeaaDoorPm
namespace Go.Proofs.YtknojlccfjdpeaaDoor
open Go.RowKit Go.Sort
set_option linter.unusedVariables false


set_option maxHeartbeats 400000 in
theorem isDigit_any (c : UInt8) (w : World) :
    Calls Tryd.prog 40 #[.int .u8 c.toNat] w fun e w' => e = .returned (.bool (Rat1.isD c)) ∧ w = w' := by
  have e : Rat1.isD c = (decide ((48 : Int) ≤ c.toNat) && decide ((c.toNat : Int) ≤ 57)) := by
    unfold Rat1.isD
    congr 1 <;> (rw [decide_eq_decide]; simp [UInt8.le_iff_toNat_le]; omega)
  rw [e]
  by_cases h1 : (48 : Int) ≤ c.toNat
  · by_cases h2 : (c.toNat : Int) ≤ 57
    · go_enter Tryd.func40, Tryd.ntmps40
      go_wp2
      go_ret
      exact ⟨by simp [h1, h2], rfl⟩
    · go_enter Tryd.func40, Tryd.ntmps40
      go_wp2
      go_ret
      exact ⟨by simp [h2], rfl⟩
  · go_enter Tryd.func40, Tryd.ntmps40
    go_wp2
    go_ret
    exact ⟨by rw [show decide ((48 : Int) ≤ c.toNat) = false by simpa using h1]; rfl, rfl⟩

theorem drop_get (s : ByteArray) (b k : Nat) (h : b + k < s.size) : (s.data.toList.drop b)[k]? = some s[b + k] := by
  rw [List.getElem?_drop, List.getElem?_eq_getElem (by simpa using h)]
  rfl

set_option maxHeartbeats 400000 in
theorem skip_any (s : ByteArray) (b : Nat) (w : World) (hb : b ≤ s.size) (hs : s.size ≤ 1000000) :
    Calls Tryd.prog 33 #[.string s, .int .i64 b] w fun e w' => e = .returned (.tuple #[.int .i64 (Rat1.skipE s.data.toList b), .int .i64 (Rat1.skipA s.data.toList b), .int .i64 (Rat1.skipX s.data.toList b)]) ∧ w = w' := by
  have hd := Rat1.digs_le (s.data.toList.drop b)
  have hlen : s.data.toList.length = s.size := by simp
  simp only [List.length_drop] at hd
  rw [hlen] at hd
  have hlt := Lib.hid (Rat1.digs_lt (s.data.toList.drop b))
  have hat := Lib.hid (Rat1.digs_at (s.data.toList.drop b))
  have HL := Lib.hid hlen
  have hE : Hid (Rat1.skipE s.data.toList b = if 10 < Rat1.digs (s.data.toList.drop b) then 0 else if 0 < Rat1.digs (s.data.toList.drop b) then b + Rat1.digs (s.data.toList.drop b) else 0) := rfl
  have hA : Hid (Rat1.skipA s.data.toList b = if 10 < Rat1.digs (s.data.toList.drop b) then b else if 0 < Rat1.digs (s.data.toList.drop b) then 0 else b) := rfl
  have hX : Hid (Rat1.skipX s.data.toList b = if 10 < Rat1.digs (s.data.toList.drop b) then 5 else if 0 < Rat1.digs (s.data.toList.drop b) then 0 else if b = s.data.toList.length then 4 else 6) := rfl
  clear hlen
  generalize Rat1.digs (s.data.toList.drop b) = D at *
  go_enter Tryd.func33, Tryd.ntmps33
  go_wp2_with fail
  go_loop [4, 7] (fun e d => ∃ k : Nat, k ≤ D ∧ e = .int .i64 (b + k : Nat) ∧ d = .int .i64 k) (fun e _ => s.size - (intOf e).toNat)
  case atStart => exact ⟨0, by omega, rfl, rfl⟩
  case round =>
    obtain ⟨k, hk, rfl, rfl⟩ := hrel
    by_cases hkd : k < D
    · have h1 : b + k < s.size := by omega
      have hdig : Hid (Rat1.isD s[b + k] = true) := by
        obtain ⟨c, c1, c2⟩ := hlt.out k hkd
        rw [drop_get s b k h1] at c1
        injection c1 with c1
        rw [Hid, c1]; exact c2
      go_wp2_with fail
      refine (isDigit_any _ _).mono ?_
      rintro e w1 ⟨rfl, rfl⟩
      rw [hdig.out]
      go_wp2
      go_round
      case rel => exact ⟨k + 1, by omega, by go_num, by go_num⟩
      case measure => simp [intOf]; omega
    · obtain rfl : k = D := by omega
      clear hkd hk hlt
      have fin : ∀ (x y z : Nat), Rat1.skipE s.data.toList b = x → Rat1.skipA s.data.toList b = y → Rat1.skipX s.data.toList b = z → Ending.returned (.tuple #[.int .i64 x, .int .i64 y, .int .i64 z]) = .returned (.tuple #[.int .i64 (Rat1.skipE s.data.toList b), .int .i64 (Rat1.skipA s.data.toList b), .int .i64 (Rat1.skipX s.data.toList b)]) := by
        rintro x y z rfl rfl rfl
        rfl
      have FIN := Lib.hid fin
      clear fin
      by_cases h1 : b + k < s.size
      · have hdig : Hid (Rat1.isD s[b + k] = false) := hat.out _ (drop_get s b k h1)
        by_cases h2 : 10 < k
        · go_wp2_with fail
          refine (isDigit_any _ _).mono ?_
          rintro e w1 ⟨rfl, rfl⟩
          rw [hdig.out]
          go_wp2
          go_ret3
          have F := FIN.out (0) (b) (5) (by rw [hE.out]; simp [*]; try omega) (by rw [hA.out]; simp [*]; try omega) (by rw [hX.out, HL.out]; simp [*]; try omega)
          simp only [Int.cast_ofNat_Int] at F
          exact ⟨F, rfl⟩
        · by_cases h3 : 0 < k
          · go_wp2_with fail
            refine (isDigit_any _ _).mono ?_
            rintro e w1 ⟨rfl, rfl⟩
            rw [hdig.out]
            go_wp2
            go_ret3
            have F := FIN.out (b + k) (0) (0) (by rw [hE.out]; simp [*]; try omega) (by rw [hA.out]; simp [*]; try omega) (by rw [hX.out, HL.out]; simp [*]; try omega)
            simp only [Int.natCast_add, Int.cast_ofNat_Int] at F
            exact ⟨F, rfl⟩
          · obtain rfl : k = 0 := by omega
            simp only [Nat.add_zero] at hdig
            go_wp2_with fail
            refine (isDigit_any _ _).mono ?_
            rintro e w1 ⟨rfl, rfl⟩
            rw [hdig.out]
            go_wp2
            go_ret3
            have F := FIN.out (0) (b) (6) (by rw [hE.out]; simp [*]; try omega) (by rw [hA.out]; simp [*]; try omega) (by rw [hX.out, HL.out]; simp [*]; try omega)
            simp only [Int.cast_ofNat_Int] at F
            exact ⟨F, rfl⟩
      · by_cases h2 : 10 < k
        · go_wp2
          go_ret3
          have F := FIN.out (0) (b) (5) (by rw [hE.out]; simp [*]; try omega) (by rw [hA.out]; simp [*]; try omega) (by rw [hX.out, HL.out]; simp [*]; try omega)
          simp only [Int.cast_ofNat_Int] at F
          exact ⟨F, rfl⟩
        · by_cases h3 : 0 < k
          · go_wp2
            go_ret3
            have F := FIN.out (b + k) (0) (0) (by rw [hE.out]; simp [*]; try omega) (by rw [hA.out]; simp [*]; try omega) (by rw [hX.out, HL.out]; simp [*]; try omega)
            simp only [Int.natCast_add, Int.cast_ofNat_Int] at F
            exact ⟨F, rfl⟩
          · obtain rfl : k = 0 := by omega
            obtain rfl : b = s.size := by omega
            go_wp2
            go_ret3
            have F := FIN.out (0) (s.size) (4) (by rw [hE.out]; simp [*]; try omega) (by rw [hA.out]; simp [*]; try omega) (by rw [hX.out, HL.out]; simp [*]; try omega)
            simp only [Int.cast_ofNat_Int] at F
            exact ⟨F, rfl⟩
end Go.Proofs.YtknojlccfjdpeaaDoor
