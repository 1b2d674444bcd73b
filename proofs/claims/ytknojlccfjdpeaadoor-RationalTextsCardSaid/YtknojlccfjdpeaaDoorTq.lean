/- The walks of the reference's Parse. -/
import Derived.Test.YtknojlccfjdpeaaDoorTv
namespace Go.Proofs.YtknojlccfjdpeaaDoor
open Go.RowKit Go.Sort
set_option linter.unusedVariables false
set_option linter.unusedSimpArgs false

theorem empty_yes {s : ByteArray} (h : s.size = 0) : s.toList.isEmpty = true := by
  rw [Go.ByteArray.toList_eq]
  have : s.data.toList.length = 0 := by rw [← size_list]; exact h
  simp only [List.isEmpty_iff_length_eq_zero]; exact this
theorem empty_no {s : ByteArray} (h : 0 < s.size) : s.toList.isEmpty = false := by
  rw [Go.ByteArray.toList_eq]
  have : s.data.toList.length = s.size := by rw [← size_list]
  cases hl : s.data.toList with
  | nil => rw [hl] at this; simp at this; omega
  | cons => rfl
theorem byte_no {n k : Nat} (h : n ≠ k) : ((n : Int) == (k : Int)) = false := by
  simp only [beq_eq_false_iff_ne, ne_eq]; omega
theorem ofRef_as (x n d : Int) (w : World) (h : Hid (x = n)) (n0 : -9223372036854775808 ≤ n) (n1 : n ≤ 9223372036854775807) (d0 : -9223372036854775808 ≤ d) (d1 : d ≤ 9223372036854775807) :
    Calls Tryd.prog 16 #[.int .i64 x, .int .i64 d] w fun e w' => e = .returned (.tuple #[.agg #[.int .i64 (Rat1.ofN n d), .int .i64 (Rat1.ofD n d)], .int .i64 (Rat1.ofE n d)]) ∧ Below w.heap.size w w' := by
  have h' : x = n := h
  rw [h']
  exact ofRef_call n d w n0 n1 d0 d1
set_option maxRecDepth 100000 in
set_option maxHeartbeats 2000000 in
theorem refp_err1 (s : ByteArray) (b sgn : Int) (N1 E1 X1 A1 : Int) (w : World) (hs : s.size ≤ 1000) (hb : (b = 1 ∧ sgn = -1 ∧ ∃ h : 0 < s.size, s[0].toNat = 45) ∨ (b = 0 ∧ sgn = 1 ∧ ∀ h : 0 < s.size, s[0].toNat ≠ 45)) (hx : (X1 != 0) = true) (h1 : ∀ w : World, Calls Tryd.prog 27 #[.string s, .int .i64 b] w fun e w' => e = .returned (.tuple #[.int .i64 N1, .int .i64 E1, .int .i64 X1, .int .i64 A1]) ∧ w = w') :
    Calls Tryd.prog 11 #[.string s] w fun e w' => e = .returned (.tuple #[.agg #[.int .i64 0, .int .i64 1], .int .i64 A1, .int .i64 X1]) ∧ Below w.heap.size w w' := by
  have H1 := Lib.hid h1
  clear h1
  rcases hb with ⟨rfl, rfl, h0, h45⟩ | ⟨rfl, rfl, h45⟩
  rotate_left
  rcases (show s.size = 0 ∨ 0 < s.size by omega) with h0 | h0
  have hne := empty_yes h0
  rotate_left
  have hne := empty_no h0
  have h45 : ((s[0].toNat : Int) == 45) = false := byte_no (h45 h0)
  rotate_left
  have hne := empty_no h0
  have h45 : ((s[0].toNat : Int) == 45) = true := by rw [h45]; rfl
  all_goals
    try clear h0
    go_enter Tryd.func11, Tryd.ntmps11
    go_wp2_with fail
    refine (H1.out _).mono ?_
    rintro e w1 ⟨rfl, rfl⟩
    go_wp2_with fail
    exact bodyPost_ret (v := .tuple #[.agg #[.int .i64 0, .int .i64 1], .int .i64 A1, .int .i64 X1]) (by simp [results, Tryd.results11, go_sem]) rfl ⟨rfl, (show Bel w _ from ((Bel.refl w).alloc _).alloc _)⟩
set_option maxRecDepth 100000 in
set_option maxHeartbeats 2000000 in
theorem refp_byte1 (s : ByteArray) (b sgn : Int) (N1 : Int) (E1 : Nat) (w : World) (hs : s.size ≤ 1000) (hb : (b = 1 ∧ sgn = -1 ∧ ∃ h : 0 < s.size, s[0].toNat = 45) ∨ (b = 0 ∧ sgn = 1 ∧ ∀ h : 0 < s.size, s[0].toNat ≠ 45)) (n0 : 0 ≤ N1) (n1 : N1 ≤ 10000000000) (he : E1 < s.size) (hc : ((s[E1].toNat : Int) == 47) = false) (h1 : ∀ w : World, Calls Tryd.prog 27 #[.string s, .int .i64 b] w fun e w' => e = .returned (.tuple #[.int .i64 N1, .int .i64 E1, .int .i64 0, .int .i64 0]) ∧ w = w') :
    Calls Tryd.prog 11 #[.string s] w fun e w' => e = .returned (.tuple #[.agg #[.int .i64 0, .int .i64 1], .int .i64 E1, .int .i64 6]) ∧ Below w.heap.size w w' := by
  have H1 := Lib.hid h1
  clear h1
  rcases hb with ⟨rfl, rfl, h0, h45⟩ | ⟨rfl, rfl, h45⟩
  rotate_left
  rcases (show s.size = 0 ∨ 0 < s.size by omega) with h0 | h0
  have hne := empty_yes h0
  rotate_left
  have hne := empty_no h0
  have h45 : ((s[0].toNat : Int) == 45) = false := byte_no (h45 h0)
  rotate_left
  have hne := empty_no h0
  have h45 : ((s[0].toNat : Int) == 45) = true := by rw [h45]; rfl
  all_goals
    try clear h0
    go_enter Tryd.func11, Tryd.ntmps11
    go_wp2_with fail
    refine (H1.out _).mono ?_
    rintro e w1 ⟨rfl, rfl⟩
    go_wp2_with fail
    exact bodyPost_ret (v := .tuple #[.agg #[.int .i64 0, .int .i64 1], .int .i64 E1, .int .i64 6]) (by simp [results, Tryd.results11, go_sem]) rfl ⟨rfl, (show Bel w _ from ((Bel.refl w).alloc _).alloc _)⟩
set_option maxRecDepth 100000 in
set_option maxHeartbeats 2000000 in
theorem refp_err2 (s : ByteArray) (b sgn : Int) (N1 N2 E2 X2 A2 : Int) (E1 : Nat) (w : World) (hs : s.size ≤ 1000) (hb : (b = 1 ∧ sgn = -1 ∧ ∃ h : 0 < s.size, s[0].toNat = 45) ∨ (b = 0 ∧ sgn = 1 ∧ ∀ h : 0 < s.size, s[0].toNat ≠ 45)) (n0 : 0 ≤ N1) (n1 : N1 ≤ 10000000000) (he : E1 < s.size) (hc : ((s[E1].toNat : Int) == 47) = true) (h1 : ∀ w : World, Calls Tryd.prog 27 #[.string s, .int .i64 b] w fun e w' => e = .returned (.tuple #[.int .i64 N1, .int .i64 E1, .int .i64 0, .int .i64 0]) ∧ w = w') (hx : (X2 != 0) = true) (h2 : ∀ w : World, Calls Tryd.prog 27 #[.string s, .int .i64 ((E1 : Int) + 1)] w fun e w' => e = .returned (.tuple #[.int .i64 N2, .int .i64 E2, .int .i64 X2, .int .i64 A2]) ∧ w = w') :
    Calls Tryd.prog 11 #[.string s] w fun e w' => e = .returned (.tuple #[.agg #[.int .i64 0, .int .i64 1], .int .i64 A2, .int .i64 X2]) ∧ Below w.heap.size w w' := by
  have H1 := Lib.hid h1
  have H2 := Lib.hid h2
  clear h1 h2
  rcases hb with ⟨rfl, rfl, h0, h45⟩ | ⟨rfl, rfl, h45⟩
  rotate_left
  rcases (show s.size = 0 ∨ 0 < s.size by omega) with h0 | h0
  have hne := empty_yes h0
  rotate_left
  have hne := empty_no h0
  have h45 : ((s[0].toNat : Int) == 45) = false := byte_no (h45 h0)
  rotate_left
  have hne := empty_no h0
  have h45 : ((s[0].toNat : Int) == 45) = true := by rw [h45]; rfl
  all_goals
    try clear h0
    go_enter Tryd.func11, Tryd.ntmps11
    go_wp2_with fail
    refine (H1.out _).mono ?_
    rintro e w1 ⟨rfl, rfl⟩
    go_wp2_with fail
    refine (H2.out _).mono ?_
    rintro e w1 ⟨rfl, rfl⟩
    go_wp2_with fail
    exact bodyPost_ret (v := .tuple #[.agg #[.int .i64 0, .int .i64 1], .int .i64 A2, .int .i64 X2]) (by simp [results, Tryd.results11, go_sem]) rfl ⟨rfl, (show Bel w _ from ((Bel.refl w).alloc _).alloc _)⟩
set_option maxRecDepth 100000 in
set_option maxHeartbeats 2000000 in
theorem refp_byte2 (s : ByteArray) (b sgn : Int) (N1 N2 : Int) (E1 E2 : Nat) (w : World) (hs : s.size ≤ 1000) (hb : (b = 1 ∧ sgn = -1 ∧ ∃ h : 0 < s.size, s[0].toNat = 45) ∨ (b = 0 ∧ sgn = 1 ∧ ∀ h : 0 < s.size, s[0].toNat ≠ 45)) (n0 : 0 ≤ N1) (n1 : N1 ≤ 10000000000) (he : E1 < s.size) (hc : ((s[E1].toNat : Int) == 47) = true) (h1 : ∀ w : World, Calls Tryd.prog 27 #[.string s, .int .i64 b] w fun e w' => e = .returned (.tuple #[.int .i64 N1, .int .i64 E1, .int .i64 0, .int .i64 0]) ∧ w = w') (he2 : E2 < s.size) (h2 : ∀ w : World, Calls Tryd.prog 27 #[.string s, .int .i64 ((E1 : Int) + 1)] w fun e w' => e = .returned (.tuple #[.int .i64 N2, .int .i64 E2, .int .i64 0, .int .i64 0]) ∧ w = w') :
    Calls Tryd.prog 11 #[.string s] w fun e w' => e = .returned (.tuple #[.agg #[.int .i64 0, .int .i64 1], .int .i64 E2, .int .i64 6]) ∧ Below w.heap.size w w' := by
  have H1 := Lib.hid h1
  have H2 := Lib.hid h2
  clear h1 h2
  rcases hb with ⟨rfl, rfl, h0, h45⟩ | ⟨rfl, rfl, h45⟩
  rotate_left
  rcases (show s.size = 0 ∨ 0 < s.size by omega) with h0 | h0
  have hne := empty_yes h0
  rotate_left
  have hne := empty_no h0
  have h45 : ((s[0].toNat : Int) == 45) = false := byte_no (h45 h0)
  rotate_left
  have hne := empty_no h0
  have h45 : ((s[0].toNat : Int) == 45) = true := by rw [h45]; rfl
  all_goals
    try clear h0
    go_enter Tryd.func11, Tryd.ntmps11
    go_wp2_with fail
    refine (H1.out _).mono ?_
    rintro e w1 ⟨rfl, rfl⟩
    go_wp2_with fail
    refine (H2.out _).mono ?_
    rintro e w1 ⟨rfl, rfl⟩
    go_wp2_with fail
    exact bodyPost_ret (v := .tuple #[.agg #[.int .i64 0, .int .i64 1], .int .i64 E2, .int .i64 6]) (by simp [results, Tryd.results11, go_sem]) rfl ⟨rfl, (show Bel w _ from ((Bel.refl w).alloc _).alloc _)⟩
end Go.Proofs.YtknojlccfjdpeaaDoor
