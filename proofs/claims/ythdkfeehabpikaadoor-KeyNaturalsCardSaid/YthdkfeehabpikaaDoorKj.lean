/- Keys: Degree, Diatonic; the reference's Place and Tonic. -/
import Derived.Test.YthdkfeehabpikaaDoorKh
import Derived.Deep.RegionWith
namespace Go.Proofs.YthdkfeehabpikaaDoor
open Go.RowKit
set_option linter.unusedVariables false
set_option linter.unusedSimpArgs false

structure Cls (s a : Int) : Prop where
  s0 : 0 ≤ s
  s1 : s ≤ 6
  a0 : -2 ≤ a
  a1 : a ≤ 2
theorem alI_bd (f r : Int) : -1 ≤ alI f r ∧ alI f r ≤ 1 := by
  unfold alI
  split
  · split <;> omega
  · omega
theorem shI_bd (r : Int) : 0 ≤ shI r ∧ shI r ≤ 6 := by unfold shI; repeat' split <;> omega
set_option maxRecDepth 100000 in
set_option maxHeartbeats 2000000 in
theorem isClass_y (s a : Int) (w : World) (h : Cls s a) :
    Calls Tryd.prog 38 #[.int .i64 s, .int .i64 a] w fun e w' => e = .returned (.bool true) ∧ Below w.heap.size w w' := by
  have B0 := Lib.hid (Bel.refl w)
  obtain ⟨s0, s1, a0, a1⟩ := h
  go_enter Tryd.func38, Tryd.ntmps38
  go_wp2_with fail
  refine (isStep_y s _ s0 s1).mono ?_
  rintro e w1 ⟨rfl, hb⟩
  have B1 := Lib.hid (B0.out.up hb)
  clear hb B0  
  go_wp2_with fail
  go_ret
  exact ⟨by first | rfl | (simp; done) | (simp; omega), B1.out.out⟩
set_option maxRecDepth 100000 in
set_option maxHeartbeats 2000000 in
theorem isClass_s (s a : Int) (w : World) (h : s < 0 ∨ 6 < s) :
    Calls Tryd.prog 38 #[.int .i64 s, .int .i64 a] w fun e w' => e = .returned (.bool false) ∧ Below w.heap.size w w' := by
  have B0 := Lib.hid (Bel.refl w)
  have HQ := Lib.hid h
  clear h
  go_enter Tryd.func38, Tryd.ntmps38
  go_wp2_with fail
  refine (isStep_n s _ HQ.out).mono ?_
  rintro e w1 ⟨rfl, hb⟩
  have B1 := Lib.hid (B0.out.up hb)
  clear hb B0  
  go_wp2_with fail
  go_ret
  exact ⟨by first | rfl | (simp; done) | (simp; omega), B1.out.out⟩
set_option maxRecDepth 100000 in
set_option maxHeartbeats 2000000 in
theorem isClass_lo (s a : Int) (w : World) (s0 : 0 ≤ s) (s1 : s ≤ 6) (h : a < -2) :
    Calls Tryd.prog 38 #[.int .i64 s, .int .i64 a] w fun e w' => e = .returned (.bool false) ∧ Below w.heap.size w w' := by
  have B0 := Lib.hid (Bel.refl w)
  go_enter Tryd.func38, Tryd.ntmps38
  go_wp2_with fail
  refine (isStep_y s _ s0 s1).mono ?_
  rintro e w1 ⟨rfl, hb⟩
  have B1 := Lib.hid (B0.out.up hb)
  clear hb B0  
  go_wp2_with fail
  go_ret
  exact ⟨by first | rfl | (simp; done) | (simp; omega), B1.out.out⟩
set_option maxRecDepth 100000 in
set_option maxHeartbeats 2000000 in
theorem isClass_hi (s a : Int) (w : World) (s0 : 0 ≤ s) (s1 : s ≤ 6) (a0 : -2 ≤ a) (h : 2 < a) :
    Calls Tryd.prog 38 #[.int .i64 s, .int .i64 a] w fun e w' => e = .returned (.bool false) ∧ Below w.heap.size w w' := by
  have B0 := Lib.hid (Bel.refl w)
  go_enter Tryd.func38, Tryd.ntmps38
  go_wp2_with fail
  refine (isStep_y s _ s0 s1).mono ?_
  rintro e w1 ⟨rfl, hb⟩
  have B1 := Lib.hid (B0.out.up hb)
  clear hb B0  
  go_wp2_with fail
  go_ret
  exact ⟨by first | rfl | (simp; done) | (simp; omega), B1.out.out⟩
theorem isClass_n (s a : Int) (w : World) (h : ¬ Cls s a) : Calls Tryd.prog 38 #[.int .i64 s, .int .i64 a] w fun e w' => e = .returned (.bool false) ∧ Below w.heap.size w w' := by
  by_cases h0 : s < 0 ∨ 6 < s
  · exact isClass_s s a w h0
  · by_cases h1 : a < -2
    · exact isClass_lo s a w (by omega) (by omega) h1
    · by_cases h2 : 2 < a
      · exact isClass_hi s a w (by omega) (by omega) (by omega) h2
      · exact absurd ⟨by omega, by omega, by omega, by omega⟩ h
end Go.Proofs.YthdkfeehabpikaaDoor
