/- The walks of Int and of the comparison with the reference. -/
import Derived.Test.YtknojlccfjdpeaaDoorRd
namespace Go.Proofs.YtknojlccfjdpeaaDoor
open Go.RowKit
set_option linter.unusedVariables false

set_option maxHeartbeats 400000 in
theorem same_err (e f : Int) (N D : Int) (w : World) (hf : (f == 0) = false) (he : e = f) :
    Calls Tryd.prog 12 #[.agg #[.int .i64 0, .int .i64 0], .int .i64 e, .agg #[.int .i64 N, .int .i64 D], .int .i64 f] w fun e w' => e = .returned (.bool true) ∧ Below w.heap.size w w' := by
  subst he
  have hf2 : (e != 0) = true := by simpa using hf
  go_enter Tryd.func12, Tryd.ntmps12
  go_wp2
  go_ret
  exact ⟨rfl, ((Below.refl _ _).alloc (Nat.le_refl _) _).alloc (by simp) _⟩
set_option maxHeartbeats 400000 in
theorem same_ok (a m : Int) (w : World) (h0 : 0 ≤ m) (h1 : m ≤ 1073741823) :
    Calls Tryd.prog 12 #[.agg #[.int .i64 a, .int .i64 m], .int .i64 0, .agg #[.int .i64 a, .int .i64 (m + 1)], .int .i64 0] w fun e w' => e = .returned (.bool true) ∧ Below w.heap.size w w' := by
  go_enter Tryd.func12, Tryd.ntmps12
  go_wp2
  refine Qt.regionAll (by kernel_rfl) (by kernel_rfl) ?_
  intro T f F hne
  have hc := F.cell
  have hf := F.frozen
  repeat (go_big_quiet_step (first | (go_at_call 21; exact F.call (num_any _ _ _)) | (go_at_call 19; exact F.call (den_any _ _ _ h0 h1))))
  refine wpQuiet_nil ?_
  rintro _ ⟨t, rfl⟩
  go_wp2
  go_ret
  exact ⟨rfl, Below.trans (((Below.refl _ _).alloc (Nat.le_refl _) _).alloc (by simp) _) ((F.below t).mono (by simp; omega))⟩
end Go.Proofs.YtknojlccfjdpeaaDoor
