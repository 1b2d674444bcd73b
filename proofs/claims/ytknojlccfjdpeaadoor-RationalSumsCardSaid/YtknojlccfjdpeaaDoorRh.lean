/- The walks of split. -/
import Derived.Test.YtknojlccfjdpeaaDoorRg
namespace Go.Proofs.YtknojlccfjdpeaaDoor
open Go.RowKit Go.Sort
set_option linter.unusedVariables false
set_option linter.unusedSimpArgs false

theorem skip_call (s : ByteArray) (b : Int) (w : World) (b0 : 0 ≤ b) (hb : b ≤ s.size) (hs : s.size ≤ 1000000) :
    Calls Tryd.prog 33 #[.string s, .int .i64 b] w fun e w' => e = .returned (.tuple #[.int .i64 (Rat1.skipE s.data.toList b.toNat), .int .i64 (Rat1.skipA s.data.toList b.toNat), .int .i64 (Rat1.skipX s.data.toList b.toNat)]) ∧ w = w' := by
  obtain ⟨n, rfl⟩ := Int.eq_ofNat_of_zero_le b0
  exact skip_any s n w (by omega) hs

set_option maxHeartbeats 1000000 in
theorem split_err1 (s : ByteArray) (pb : Bool) (b : Int) (w : World) (hs : s.size ≤ 1000) (hp : Lib.hasPrefix s.data.toList [45] = pb) (hb : pb = true ∧ b = 1 ∨ pb = false ∧ b = 0) (hbs : b ≤ s.size)
    (A1 E1 X1 : Int) (H1 : Hid ((Ending.returned (.tuple #[.int .i64 (Rat1.skipE s.data.toList (b).toNat), .int .i64 (Rat1.skipA s.data.toList (b).toNat), .int .i64 (Rat1.skipX s.data.toList (b).toNat)])) = .returned (.tuple #[.int .i64 E1, .int .i64 A1, .int .i64 X1]))) (hx : (X1 == 0) = false) :
    Calls Tryd.prog 17 #[.string s] w fun e w' => e = .returned (.tuple #[.int .i64 0, .int .i64 0, .int .i64 A1, .int .i64 X1]) ∧ Below w.heap.size w w' := by
  have HP := Lib.hid hp
  clear hp
  rcases hb with ⟨rfl, rfl⟩ | ⟨rfl, rfl⟩
  all_goals
    go_enter Tryd.func17, Tryd.ntmps17
    go_wp2_with fail
    refine (Tryd.strings_HasPrefix _ _ _).mono ?_
    rintro e w1 ⟨rfl, rfl⟩
    rw [HP.out]
    go_wp2_with fail
    refine (skip_call s _ _ (by omega) (by omega) (by omega)).mono ?_
    rintro e w1 ⟨rfl, rfl⟩
    rw [H1.out]
    go_wp2
    exact bodyPost_ret (v := .tuple #[.int .i64 _, .int .i64 _, .int .i64 _, .int .i64 _]) (by simp [results, Tryd.results17, go_sem]) rfl ⟨rfl, Below.refl _ _⟩
set_option maxHeartbeats 1000000 in
theorem split_whole (s : ByteArray) (pb : Bool) (b : Int) (w : World) (hs : s.size ≤ 1000) (hp : Lib.hasPrefix s.data.toList [45] = pb) (hb : pb = true ∧ b = 1 ∨ pb = false ∧ b = 0) (hbs : b ≤ s.size)
    (E1 : Nat) (n1 : Int) (A1 : Hid ((s.extract 0 E1).size ≤ 18 ∧ Lib.atoi (s.extract 0 E1).data.toList = some n1)) (H1 : Hid ((Ending.returned (.tuple #[.int .i64 (Rat1.skipE s.data.toList (b).toNat), .int .i64 (Rat1.skipA s.data.toList (b).toNat), .int .i64 (Rat1.skipX s.data.toList (b).toNat)])) = .returned (.tuple #[.int .i64 E1, .int .i64 0, .int .i64 0]))) (he : E1 = s.size) :
    Calls Tryd.prog 17 #[.string s] w fun e w' => e = .returned (.tuple #[.int .i64 n1, .int .i64 1, .int .i64 0, .int .i64 0]) ∧ Below w.heap.size w w' := by
  have HP := Lib.hid hp
  clear hp
  rcases hb with ⟨rfl, rfl⟩ | ⟨rfl, rfl⟩
  all_goals
    go_enter Tryd.func17, Tryd.ntmps17
    go_wp2_with fail
    refine (Tryd.strings_HasPrefix _ _ _).mono ?_
    rintro e w1 ⟨rfl, rfl⟩
    rw [HP.out]
    go_wp2_with fail
    refine (skip_call s _ _ (by omega) (by omega) (by omega)).mono ?_
    rintro e w1 ⟨rfl, rfl⟩
    rw [H1.out]
    have he1 : E1 ≤ s.size := by omega
    have he2 : ((E1 : Int) == (s.size : Int)) = true := by simp; omega
    clear he
    go_wp2_with fail
    refine (atoi_call _ _ A1.out.1 A1.out.2 _).mono ?_
    rintro e w1 ⟨rfl, hb1⟩
    go_wp2
    exact bodyPost_ret (v := .tuple #[.int .i64 _, .int .i64 _, .int .i64 _, .int .i64 _]) (by simp [results, Tryd.results17, go_sem]) rfl ⟨rfl, hb1⟩
set_option maxHeartbeats 1000000 in
theorem split_byte1 (s : ByteArray) (pb : Bool) (b : Int) (w : World) (hs : s.size ≤ 1000) (hp : Lib.hasPrefix s.data.toList [45] = pb) (hb : pb = true ∧ b = 1 ∨ pb = false ∧ b = 0) (hbs : b ≤ s.size)
    (E1 : Nat) (n1 : Int) (A1 : Hid ((s.extract 0 E1).size ≤ 18 ∧ Lib.atoi (s.extract 0 E1).data.toList = some n1)) (H1 : Hid ((Ending.returned (.tuple #[.int .i64 (Rat1.skipE s.data.toList (b).toNat), .int .i64 (Rat1.skipA s.data.toList (b).toNat), .int .i64 (Rat1.skipX s.data.toList (b).toNat)])) = .returned (.tuple #[.int .i64 E1, .int .i64 0, .int .i64 0]))) (he : E1 < s.size) (hc : ((s[E1].toNat : Int) == 47) = false) :
    Calls Tryd.prog 17 #[.string s] w fun e w' => e = .returned (.tuple #[.int .i64 0, .int .i64 0, .int .i64 E1, .int .i64 6]) ∧ Below w.heap.size w w' := by
  have HP := Lib.hid hp
  clear hp
  rcases hb with ⟨rfl, rfl⟩ | ⟨rfl, rfl⟩
  all_goals
    go_enter Tryd.func17, Tryd.ntmps17
    go_wp2_with fail
    refine (Tryd.strings_HasPrefix _ _ _).mono ?_
    rintro e w1 ⟨rfl, rfl⟩
    rw [HP.out]
    go_wp2_with fail
    refine (skip_call s _ _ (by omega) (by omega) (by omega)).mono ?_
    rintro e w1 ⟨rfl, rfl⟩
    rw [H1.out]
    go_wp2_with fail
    refine (atoi_call _ _ A1.out.1 A1.out.2 _).mono ?_
    rintro e w1 ⟨rfl, hb1⟩
    go_wp2
    exact bodyPost_ret (v := .tuple #[.int .i64 _, .int .i64 _, .int .i64 _, .int .i64 _]) (by simp [results, Tryd.results17, go_sem]) rfl ⟨rfl, hb1⟩
set_option maxHeartbeats 1000000 in
theorem split_err2 (s : ByteArray) (pb : Bool) (b : Int) (w : World) (hs : s.size ≤ 1000) (hp : Lib.hasPrefix s.data.toList [45] = pb) (hb : pb = true ∧ b = 1 ∨ pb = false ∧ b = 0) (hbs : b ≤ s.size)
    (E1 : Nat) (E2 A2 X2 : Int) (n1 : Int) (A1 : Hid ((s.extract 0 E1).size ≤ 18 ∧ Lib.atoi (s.extract 0 E1).data.toList = some n1)) (H1 : Hid ((Ending.returned (.tuple #[.int .i64 (Rat1.skipE s.data.toList (b).toNat), .int .i64 (Rat1.skipA s.data.toList (b).toNat), .int .i64 (Rat1.skipX s.data.toList (b).toNat)])) = .returned (.tuple #[.int .i64 E1, .int .i64 0, .int .i64 0]))) (he : E1 < s.size) (hc : s[E1].toNat = 47) (H2 : Hid ((Ending.returned (.tuple #[.int .i64 (Rat1.skipE s.data.toList ((E1 : Int) + 1).toNat), .int .i64 (Rat1.skipA s.data.toList ((E1 : Int) + 1).toNat), .int .i64 (Rat1.skipX s.data.toList ((E1 : Int) + 1).toNat)])) = .returned (.tuple #[.int .i64 E2, .int .i64 A2, .int .i64 X2]))) (hx : (X2 == 0) = false) :
    Calls Tryd.prog 17 #[.string s] w fun e w' => e = .returned (.tuple #[.int .i64 0, .int .i64 0, .int .i64 A2, .int .i64 X2]) ∧ Below w.heap.size w w' := by
  have HP := Lib.hid hp
  clear hp
  rcases hb with ⟨rfl, rfl⟩ | ⟨rfl, rfl⟩
  all_goals
    go_enter Tryd.func17, Tryd.ntmps17
    go_wp2_with fail
    refine (Tryd.strings_HasPrefix _ _ _).mono ?_
    rintro e w1 ⟨rfl, rfl⟩
    rw [HP.out]
    go_wp2_with fail
    refine (skip_call s _ _ (by omega) (by omega) (by omega)).mono ?_
    rintro e w1 ⟨rfl, rfl⟩
    rw [H1.out]
    go_wp2_with fail
    refine (atoi_call _ _ A1.out.1 A1.out.2 _).mono ?_
    rintro e w1 ⟨rfl, hb1⟩
    go_wp2_with fail
    refine (skip_call s _ _ (by omega) (by omega) (by omega)).mono ?_
    rintro e w1 ⟨rfl, rfl⟩
    rw [H2.out]
    go_wp2
    exact bodyPost_ret (v := .tuple #[.int .i64 _, .int .i64 _, .int .i64 _, .int .i64 _]) (by simp [results, Tryd.results17, go_sem]) rfl ⟨rfl, hb1⟩
set_option maxHeartbeats 1000000 in
theorem split_byte2 (s : ByteArray) (pb : Bool) (b : Int) (w : World) (hs : s.size ≤ 1000) (hp : Lib.hasPrefix s.data.toList [45] = pb) (hb : pb = true ∧ b = 1 ∨ pb = false ∧ b = 0) (hbs : b ≤ s.size)
    (E1 E2 : Nat) (n1 : Int) (A1 : Hid ((s.extract 0 E1).size ≤ 18 ∧ Lib.atoi (s.extract 0 E1).data.toList = some n1)) (H1 : Hid ((Ending.returned (.tuple #[.int .i64 (Rat1.skipE s.data.toList (b).toNat), .int .i64 (Rat1.skipA s.data.toList (b).toNat), .int .i64 (Rat1.skipX s.data.toList (b).toNat)])) = .returned (.tuple #[.int .i64 E1, .int .i64 0, .int .i64 0]))) (he : E1 < s.size) (hc : s[E1].toNat = 47) (H2 : Hid ((Ending.returned (.tuple #[.int .i64 (Rat1.skipE s.data.toList ((E1 : Int) + 1).toNat), .int .i64 (Rat1.skipA s.data.toList ((E1 : Int) + 1).toNat), .int .i64 (Rat1.skipX s.data.toList ((E1 : Int) + 1).toNat)])) = .returned (.tuple #[.int .i64 E2, .int .i64 0, .int .i64 0]))) (he2 : E2 < s.size) :
    Calls Tryd.prog 17 #[.string s] w fun e w' => e = .returned (.tuple #[.int .i64 0, .int .i64 0, .int .i64 E2, .int .i64 6]) ∧ Below w.heap.size w w' := by
  have HP := Lib.hid hp
  clear hp
  rcases hb with ⟨rfl, rfl⟩ | ⟨rfl, rfl⟩
  all_goals
    go_enter Tryd.func17, Tryd.ntmps17
    go_wp2_with fail
    refine (Tryd.strings_HasPrefix _ _ _).mono ?_
    rintro e w1 ⟨rfl, rfl⟩
    rw [HP.out]
    go_wp2_with fail
    refine (skip_call s _ _ (by omega) (by omega) (by omega)).mono ?_
    rintro e w1 ⟨rfl, rfl⟩
    rw [H1.out]
    go_wp2_with fail
    refine (atoi_call _ _ A1.out.1 A1.out.2 _).mono ?_
    rintro e w1 ⟨rfl, hb1⟩
    go_wp2_with fail
    refine (skip_call s _ _ (by omega) (by omega) (by omega)).mono ?_
    rintro e w1 ⟨rfl, rfl⟩
    rw [H2.out]
    go_wp2
    exact bodyPost_ret (v := .tuple #[.int .i64 _, .int .i64 _, .int .i64 _, .int .i64 _]) (by simp [results, Tryd.results17, go_sem]) rfl ⟨rfl, hb1⟩
set_option maxHeartbeats 1000000 in
theorem split_both (s : ByteArray) (pb : Bool) (b : Int) (w : World) (hs : s.size ≤ 1000) (hp : Lib.hasPrefix s.data.toList [45] = pb) (hb : pb = true ∧ b = 1 ∨ pb = false ∧ b = 0) (hbs : b ≤ s.size)
    (E1 E2 : Nat) (n1 : Int) (A1 : Hid ((s.extract 0 E1).size ≤ 18 ∧ Lib.atoi (s.extract 0 E1).data.toList = some n1)) (n2 : Int) (A2 : Hid ((s.extract (E1 + 1) s.size).size ≤ 18 ∧ Lib.atoi (s.extract (E1 + 1) s.size).data.toList = some n2)) (H1 : Hid ((Ending.returned (.tuple #[.int .i64 (Rat1.skipE s.data.toList (b).toNat), .int .i64 (Rat1.skipA s.data.toList (b).toNat), .int .i64 (Rat1.skipX s.data.toList (b).toNat)])) = .returned (.tuple #[.int .i64 E1, .int .i64 0, .int .i64 0]))) (he : E1 < s.size) (hc : s[E1].toNat = 47) (H2 : Hid ((Ending.returned (.tuple #[.int .i64 (Rat1.skipE s.data.toList ((E1 : Int) + 1).toNat), .int .i64 (Rat1.skipA s.data.toList ((E1 : Int) + 1).toNat), .int .i64 (Rat1.skipX s.data.toList ((E1 : Int) + 1).toNat)])) = .returned (.tuple #[.int .i64 E2, .int .i64 0, .int .i64 0]))) (he2 : E2 = s.size) :
    Calls Tryd.prog 17 #[.string s] w fun e w' => e = .returned (.tuple #[.int .i64 n1, .int .i64 n2, .int .i64 0, .int .i64 0]) ∧ Below w.heap.size w w' := by
  have HP := Lib.hid hp
  clear hp
  rcases hb with ⟨rfl, rfl⟩ | ⟨rfl, rfl⟩
  all_goals
    go_enter Tryd.func17, Tryd.ntmps17
    go_wp2_with fail
    refine (Tryd.strings_HasPrefix _ _ _).mono ?_
    rintro e w1 ⟨rfl, rfl⟩
    rw [HP.out]
    go_wp2_with fail
    refine (skip_call s _ _ (by omega) (by omega) (by omega)).mono ?_
    rintro e w1 ⟨rfl, rfl⟩
    rw [H1.out]
    go_wp2_with fail
    refine (atoi_call _ _ A1.out.1 A1.out.2 _).mono ?_
    rintro e w1 ⟨rfl, hb1⟩
    go_wp2_with fail
    refine (skip_call s _ _ (by omega) (by omega) (by omega)).mono ?_
    rintro e w1 ⟨rfl, rfl⟩
    rw [H2.out]
    have he3 : ((E2 : Int) < (s.size : Int)) = False := by simp; omega
    clear he2
    go_wp2_with fail
    refine (atoi_call _ _ A2.out.1 A2.out.2 _).mono ?_
    rintro e w2 ⟨rfl, hb2⟩
    go_wp2
    exact bodyPost_ret (v := .tuple #[.int .i64 _, .int .i64 _, .int .i64 _, .int .i64 _]) (by simp [results, Tryd.results17, go_sem]) rfl ⟨rfl, hb1.trans (hb2.mono hb1.size)⟩
end Go.Proofs.YtknojlccfjdpeaaDoor
