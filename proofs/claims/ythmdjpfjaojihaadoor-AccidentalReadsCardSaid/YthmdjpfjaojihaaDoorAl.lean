/- Accidentals: law AccidentalKinds. -/
import Derived.Test.YthmdjpfjaojihaaDoorAj
namespace Go.Proofs.YthmdjpfjaojihaaDoor
open Go.RowKit
set_option linter.unusedVariables false
set_option linter.unusedSimpArgs false

set_option maxRecDepth 100000 in
set_option maxHeartbeats 2000000 in
theorem isKind_y (k : Int) (w : World) (h0 : 1 ≤ k) (h1 : k ≤ 5) :
    Calls Tryd.prog 35 #[.int .i64 k] w fun e w' => e = .returned (.bool true) ∧ Below w.heap.size w w' := by
  have B0 := Lib.hid (Bel.refl w)
  go_enter Tryd.func35, Tryd.ntmps35
  go_wp2_with fail
  go_ret
  exact ⟨by first | rfl | (simp; done) | (simp [go_sem]; done) | (simp [go_sem]; omega), B0.out.out⟩
set_option maxRecDepth 100000 in
set_option maxHeartbeats 2000000 in
theorem isKind_lo (k : Int) (w : World) (h : k < 0) :
    Calls Tryd.prog 35 #[.int .i64 k] w fun e w' => e = .returned (.bool false) ∧ Below w.heap.size w w' := by
  have B0 := Lib.hid (Bel.refl w)
  go_enter Tryd.func35, Tryd.ntmps35
  go_wp2_with fail
  go_ret
  exact ⟨by first | rfl | (simp; done) | (simp [go_sem]; done) | (simp [go_sem]; omega), B0.out.out⟩
set_option maxRecDepth 100000 in
set_option maxHeartbeats 2000000 in
theorem isKind_hi (k : Int) (w : World) (h0 : 0 ≤ k) (h : 5 < k) :
    Calls Tryd.prog 35 #[.int .i64 k] w fun e w' => e = .returned (.bool false) ∧ Below w.heap.size w w' := by
  have B0 := Lib.hid (Bel.refl w)
  go_enter Tryd.func35, Tryd.ntmps35
  go_wp2_with fail
  go_ret
  exact ⟨by first | rfl | (simp; done) | (simp [go_sem]; done) | (simp [go_sem]; omega), B0.out.out⟩
set_option maxRecDepth 100000 in
set_option maxHeartbeats 2000000 in
theorem alter_y (k : Int) (w : World) (h0 : 1 ≤ k) (h1 : k ≤ 5) :
    Calls Tryd.prog 28 #[.int .i64 k] w fun e w' => e = .returned (.tuple #[.int .i64 (k - 3), .int .i64 0]) ∧ Below w.heap.size w w' := by
  have B0 := Lib.hid (Bel.refl w)
  go_enter Tryd.func28, Tryd.ntmps28
  go_wp2_with fail
  refine (isKind_y k _ h0 h1).mono ?_
  rintro e w1 ⟨rfl, hb⟩
  have B1 := Lib.hid (B0.out.up hb)
  clear hb
  go_wp2_with fail
  exact bodyPost_ret (v := .tuple #[.int .i64 (k - 3), .int .i64 0]) (by first | (simp [results, Tryd.results28, go_sem]; done) | (simp [results, Tryd.results28, go_sem]; omega)) rfl ⟨rfl, B1.out.out⟩
set_option maxRecDepth 100000 in
set_option maxHeartbeats 2000000 in
theorem alter_lo (k : Int) (w : World) (h : k < 0) :
    Calls Tryd.prog 28 #[.int .i64 k] w fun e w' => e = .returned (.tuple #[.int .i64 0, .int .i64 11]) ∧ Below w.heap.size w w' := by
  have B0 := Lib.hid (Bel.refl w)
  go_enter Tryd.func28, Tryd.ntmps28
  go_wp2_with fail
  refine (isKind_lo k _ h).mono ?_
  rintro e w1 ⟨rfl, hb⟩
  have B1 := Lib.hid (B0.out.up hb)
  clear hb
  go_wp2_with fail
  exact bodyPost_ret (v := .tuple #[.int .i64 0, .int .i64 11]) (by first | (simp [results, Tryd.results28, go_sem]; done) | (simp [results, Tryd.results28, go_sem]; omega)) rfl ⟨rfl, B1.out.out⟩
set_option maxRecDepth 100000 in
set_option maxHeartbeats 2000000 in
theorem alter_hi (k : Int) (w : World) (h : 5 < k) :
    Calls Tryd.prog 28 #[.int .i64 k] w fun e w' => e = .returned (.tuple #[.int .i64 0, .int .i64 11]) ∧ Below w.heap.size w w' := by
  have B0 := Lib.hid (Bel.refl w)
  go_enter Tryd.func28, Tryd.ntmps28
  go_wp2_with fail
  refine (isKind_hi k _ (by omega) h).mono ?_
  rintro e w1 ⟨rfl, hb⟩
  have B1 := Lib.hid (B0.out.up hb)
  clear hb
  go_wp2_with fail
  exact bodyPost_ret (v := .tuple #[.int .i64 0, .int .i64 11]) (by first | (simp [results, Tryd.results28, go_sem]; done) | (simp [results, Tryd.results28, go_sem]; omega)) rfl ⟨rfl, B1.out.out⟩
set_option maxRecDepth 100000 in
set_option maxHeartbeats 2000000 in
theorem alter_0 (k : Int) (w : World) (h0 : k = 0) :
    Calls Tryd.prog 28 #[.int .i64 k] w fun e w' => e = .returned (.tuple #[.int .i64 0, .int .i64 11]) ∧ Below w.heap.size w w' := by
  have B0 := Lib.hid (Bel.refl w)
  subst h0
  go_enter Tryd.func28, Tryd.ntmps28
  go_wp2_with fail
  exact bodyPost_ret (v := .tuple #[.int .i64 0, .int .i64 11]) (by first | (simp [results, Tryd.results28, go_sem]; done) | (simp [results, Tryd.results28, go_sem]; omega)) rfl ⟨rfl, B0.out.out⟩
theorem alter_n (k : Int) (w : World) (h : k < 1 ∨ 5 < k) : Calls Tryd.prog 28 #[.int .i64 k] w fun e w' => e = .returned (.tuple #[.int .i64 0, .int .i64 11]) ∧ Below w.heap.size w w' := by
  rcases h with h | h
  · rcases (show k < 0 ∨ k = 0 by omega) with h | h
    · exact alter_lo k w h
    · exact alter_0 k w h
  · exact alter_hi k w h
end Go.Proofs.YthmdjpfjaojihaaDoor
