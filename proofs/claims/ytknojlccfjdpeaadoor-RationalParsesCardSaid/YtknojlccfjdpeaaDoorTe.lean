/- The walks of the reference's Parse where the numbers are read. -/
import Derived.Test.YtknojlccfjdpeaaDoorTq
namespace Go.Proofs.YtknojlccfjdpeaaDoor
open Go.RowKit Go.Sort
set_option linter.unusedVariables false
set_option linter.unusedSimpArgs false

set_option maxRecDepth 100000 in
set_option maxHeartbeats 2000000 in
theorem refp_whole_bad (s : ByteArray) (b sgn : Int) (N1 : Int) (E1 : Nat) (n : Int) (w : World) (hs : s.size ≤ 1000) (hb : (b = 1 ∧ sgn = -1 ∧ ∃ h : 0 < s.size, s[0].toNat = 45) ∨ (b = 0 ∧ sgn = 1 ∧ ∀ h : 0 < s.size, s[0].toNat ≠ 45)) (n0 : -10000000000 ≤ n) (n1 : n ≤ 10000000000) (hn : Hid (sgn * N1 = n)) (p0 : 0 ≤ N1) (p1 : N1 ≤ 10000000000) (he : ((E1 : Int) < (s.size : Int)) = False) (h1 : ∀ w : World, Calls Tryd.prog 27 #[.string s, .int .i64 b] w fun e w' => e = .returned (.tuple #[.int .i64 N1, .int .i64 E1, .int .i64 0, .int .i64 0]) ∧ w = w') (hE : (Rat1.ofE n 1 != 0) = true) :
    Calls Tryd.prog 11 #[.string s] w fun e w' => e = .returned (.tuple #[.agg #[.int .i64 0, .int .i64 1], .int .i64 0, .int .i64 3]) ∧ Below w.heap.size w w' := by
  have H1 := Lib.hid h1
  clear h1
  rcases hb with ⟨rfl, rfl, h0, h45⟩ | ⟨rfl, rfl, h45⟩
  rotate_left
  rcases (show s.size = 0 ∨ 0 < s.size by omega) with h0 | h0
  have hne := empty_yes h0
  rotate_left
  have hne := empty_no h0
  have h45 : ((s[0].toNat : Int) == 45) = false := byte_no (h45 h0)
  rotate_left
  have hne := empty_no h0
  have h45 : ((s[0].toNat : Int) == 45) = true := by rw [h45]; rfl
  all_goals
    try clear h0
    go_enter Tryd.func11, Tryd.ntmps11
    go_wp2_with fail
    refine (H1.out _).mono ?_
    rintro e w1 ⟨rfl, rfl⟩
    go_wp2_with fail
    refine (ofRef_as _ n 1 _ (by have h := hn.out; unfold Hid; omega) (by omega) (by omega) (by omega) (by omega)).mono ?_
    rintro e w2 ⟨rfl, hb⟩
    have B1 := Lib.hid ((((Bel.refl w).alloc _).alloc _).up hb)
    have Tr1 := ((Two.new w (.int .i64 0) (.int .i64 0) 26 w.heap.size rfl).alloc (.cells #[.int .i64 0, .int .i64 1] 26)).up hb
    have Tz1 := (Two.new (w.alloc (.cells #[.int .i64 0, .int .i64 0] 26)) (.int .i64 0) (.int .i64 1) 26 (w.heap.size + 1) (by simp)).up hb
    clear hb
    obtain ⟨r0, r1, r2, r3, r4⟩ := id Tr1
    obtain ⟨z0, z1, z2, z3, z4⟩ := id Tz1
    go_wp2_with fail
    have Tf := (Tr1.store (u := .int .i64 0) (v := .int .i64 1)).alloc (.cells #[.int .i64 (Rat1.ofN n 1), .int .i64 (Rat1.ofD n 1)] 26)
    exact bodyPost_ret (v := .tuple #[.agg #[.int .i64 0, .int .i64 1], .int .i64 0, .int .i64 3]) (by simp [results, Tryd.results11, go_sem, Tf.c0, Tf.c1]) rfl ⟨rfl, (show Bel w _ by repeat (first | exact B1.out | refine Bel.set ?_ (Nat.le_refl _) _ _ | refine Bel.alloc ?_ _))⟩
set_option maxRecDepth 100000 in
set_option maxHeartbeats 2000000 in
theorem refp_whole_other (s : ByteArray) (b sgn : Int) (N1 : Int) (E1 : Nat) (n : Int) (w : World) (hs : s.size ≤ 1000) (hb : (b = 1 ∧ sgn = -1 ∧ ∃ h : 0 < s.size, s[0].toNat = 45) ∨ (b = 0 ∧ sgn = 1 ∧ ∀ h : 0 < s.size, s[0].toNat ≠ 45)) (n0 : -10000000000 ≤ n) (n1 : n ≤ 10000000000) (hn : Hid (sgn * N1 = n)) (p0 : 0 ≤ N1) (p1 : N1 ≤ 10000000000) (he : ((E1 : Int) < (s.size : Int)) = False) (h1 : ∀ w : World, Calls Tryd.prog 27 #[.string s, .int .i64 b] w fun e w' => e = .returned (.tuple #[.int .i64 N1, .int .i64 E1, .int .i64 0, .int .i64 0]) ∧ w = w') (hE : (Rat1.ofE n 1 != 0) = false) (hT : ((textB (Rat1.ofN n 1) (Rat1.ofD n 1)).toList == s.toList) = false) :
    Calls Tryd.prog 11 #[.string s] w fun e w' => e = .returned (.tuple #[.agg #[.int .i64 0, .int .i64 1], .int .i64 0, .int .i64 3]) ∧ Below w.heap.size w w' := by
  have H1 := Lib.hid h1
  clear h1
  rcases hb with ⟨rfl, rfl, h0, h45⟩ | ⟨rfl, rfl, h45⟩
  rotate_left
  rcases (show s.size = 0 ∨ 0 < s.size by omega) with h0 | h0
  have hne := empty_yes h0
  rotate_left
  have hne := empty_no h0
  have h45 : ((s[0].toNat : Int) == 45) = false := byte_no (h45 h0)
  rotate_left
  have hne := empty_no h0
  have h45 : ((s[0].toNat : Int) == 45) = true := by rw [h45]; rfl
  all_goals
    try clear h0
    go_enter Tryd.func11, Tryd.ntmps11
    go_wp2_with fail
    refine (H1.out _).mono ?_
    rintro e w1 ⟨rfl, rfl⟩
    go_wp2_with fail
    refine (ofRef_as _ n 1 _ (by have h := hn.out; unfold Hid; omega) (by omega) (by omega) (by omega) (by omega)).mono ?_
    rintro e w2 ⟨rfl, hb⟩
    have B1 := Lib.hid ((((Bel.refl w).alloc _).alloc _).up hb)
    have Tr1 := ((Two.new w (.int .i64 0) (.int .i64 0) 26 w.heap.size rfl).alloc (.cells #[.int .i64 0, .int .i64 1] 26)).up hb
    have Tz1 := (Two.new (w.alloc (.cells #[.int .i64 0, .int .i64 0] 26)) (.int .i64 0) (.int .i64 1) 26 (w.heap.size + 1) (by simp)).up hb
    clear hb
    obtain ⟨r0, r1, r2, r3, r4⟩ := id Tr1
    obtain ⟨z0, z1, z2, z3, z4⟩ := id Tz1
    go_wp2_with fail
    refine (textR_any _ _ _ (low_of n 1)).mono ?_
    rintro e w3 ⟨rfl, hb⟩
    have B2 := Lib.hid (((B1.out).alloc _).up hb)
    have Tr2 := (Tr1.alloc (.cells #[.int .i64 (Rat1.ofN n 1), .int .i64 (Rat1.ofD n 1)] 26)).up hb
    have Tz2 := (Tz1.alloc (.cells #[.int .i64 (Rat1.ofN n 1), .int .i64 (Rat1.ofD n 1)] 26)).up hb
    have Tq2 := (Two.new w2 (.int .i64 (Rat1.ofN n 1)) (.int .i64 (Rat1.ofD n 1)) 26 (w2.heap.size) rfl).up hb
    clear hb Tr1 Tz1 r0 r1 r2 r3 r4 z0 z1 z2 z3 z4
    obtain ⟨r0, r1, r2, r3, r4⟩ := id Tr2
    obtain ⟨z0, z1, z2, z3, z4⟩ := id Tz2
    obtain ⟨q0, q1, q2, q3, q4⟩ := id Tq2
    go_wp2_with fail
    have Tf := Tr2.store (u := .int .i64 0) (v := .int .i64 1)
    exact bodyPost_ret (v := .tuple #[.agg #[.int .i64 0, .int .i64 1], .int .i64 0, .int .i64 3]) (by simp [results, Tryd.results11, go_sem, Tf.c0, Tf.c1]) rfl ⟨rfl, (show Bel w _ by repeat (first | exact B2.out | refine Bel.set ?_ (Nat.le_refl _) _ _ | refine Bel.alloc ?_ _))⟩
set_option maxRecDepth 100000 in
set_option maxHeartbeats 2000000 in
theorem refp_whole_same (s : ByteArray) (b sgn : Int) (N1 : Int) (E1 : Nat) (n : Int) (w : World) (hs : s.size ≤ 1000) (hb : (b = 1 ∧ sgn = -1 ∧ ∃ h : 0 < s.size, s[0].toNat = 45) ∨ (b = 0 ∧ sgn = 1 ∧ ∀ h : 0 < s.size, s[0].toNat ≠ 45)) (n0 : -10000000000 ≤ n) (n1 : n ≤ 10000000000) (hn : Hid (sgn * N1 = n)) (p0 : 0 ≤ N1) (p1 : N1 ≤ 10000000000) (he : ((E1 : Int) < (s.size : Int)) = False) (h1 : ∀ w : World, Calls Tryd.prog 27 #[.string s, .int .i64 b] w fun e w' => e = .returned (.tuple #[.int .i64 N1, .int .i64 E1, .int .i64 0, .int .i64 0]) ∧ w = w') (hE : (Rat1.ofE n 1 != 0) = false) (hT : ((textB (Rat1.ofN n 1) (Rat1.ofD n 1)).toList == s.toList) = true) :
    Calls Tryd.prog 11 #[.string s] w fun e w' => e = .returned (.tuple #[.agg #[.int .i64 (Rat1.ofN n 1), .int .i64 (Rat1.ofD n 1)], .int .i64 0, .int .i64 0]) ∧ Below w.heap.size w w' := by
  have H1 := Lib.hid h1
  clear h1
  rcases hb with ⟨rfl, rfl, h0, h45⟩ | ⟨rfl, rfl, h45⟩
  rotate_left
  rcases (show s.size = 0 ∨ 0 < s.size by omega) with h0 | h0
  have hne := empty_yes h0
  rotate_left
  have hne := empty_no h0
  have h45 : ((s[0].toNat : Int) == 45) = false := byte_no (h45 h0)
  rotate_left
  have hne := empty_no h0
  have h45 : ((s[0].toNat : Int) == 45) = true := by rw [h45]; rfl
  all_goals
    try clear h0
    go_enter Tryd.func11, Tryd.ntmps11
    go_wp2_with fail
    refine (H1.out _).mono ?_
    rintro e w1 ⟨rfl, rfl⟩
    go_wp2_with fail
    refine (ofRef_as _ n 1 _ (by have h := hn.out; unfold Hid; omega) (by omega) (by omega) (by omega) (by omega)).mono ?_
    rintro e w2 ⟨rfl, hb⟩
    have B1 := Lib.hid ((((Bel.refl w).alloc _).alloc _).up hb)
    have Tr1 := ((Two.new w (.int .i64 0) (.int .i64 0) 26 w.heap.size rfl).alloc (.cells #[.int .i64 0, .int .i64 1] 26)).up hb
    have Tz1 := (Two.new (w.alloc (.cells #[.int .i64 0, .int .i64 0] 26)) (.int .i64 0) (.int .i64 1) 26 (w.heap.size + 1) (by simp)).up hb
    clear hb
    obtain ⟨r0, r1, r2, r3, r4⟩ := id Tr1
    obtain ⟨z0, z1, z2, z3, z4⟩ := id Tz1
    go_wp2_with fail
    refine (textR_any _ _ _ (low_of n 1)).mono ?_
    rintro e w3 ⟨rfl, hb⟩
    have B2 := Lib.hid (((B1.out).alloc _).up hb)
    have Tr2 := (Tr1.alloc (.cells #[.int .i64 (Rat1.ofN n 1), .int .i64 (Rat1.ofD n 1)] 26)).up hb
    have Tz2 := (Tz1.alloc (.cells #[.int .i64 (Rat1.ofN n 1), .int .i64 (Rat1.ofD n 1)] 26)).up hb
    have Tq2 := (Two.new w2 (.int .i64 (Rat1.ofN n 1)) (.int .i64 (Rat1.ofD n 1)) 26 (w2.heap.size) rfl).up hb
    clear hb Tr1 Tz1 r0 r1 r2 r3 r4 z0 z1 z2 z3 z4
    obtain ⟨r0, r1, r2, r3, r4⟩ := id Tr2
    obtain ⟨z0, z1, z2, z3, z4⟩ := id Tz2
    obtain ⟨q0, q1, q2, q3, q4⟩ := id Tq2
    go_wp2_with fail
    have Tf := Tr2.store (u := .int .i64 (Rat1.ofN n 1)) (v := .int .i64 (Rat1.ofD n 1))
    exact bodyPost_ret (v := .tuple #[.agg #[.int .i64 (Rat1.ofN n 1), .int .i64 (Rat1.ofD n 1)], .int .i64 0, .int .i64 0]) (by simp [results, Tryd.results11, go_sem, Tf.c0, Tf.c1]) rfl ⟨rfl, (show Bel w _ by repeat (first | exact B2.out | refine Bel.set ?_ (Nat.le_refl _) _ _ | refine Bel.alloc ?_ _))⟩
end Go.Proofs.YtknojlccfjdpeaaDoor
