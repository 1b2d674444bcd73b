/- Spans: the example. -/
import Derived.Test.YtabafabebodojaaDoorSk
namespace Go.Proofs.YtabafabebodojaaDoor
open Go.RowKit
set_option linter.unusedVariables false
set_option linter.unusedSimpArgs false

def kS : Nat → Sp := fun k => if k = 0 then ⟨1, ⟨0, 0, 0, 0⟩, ⟨2, 0, 0, 0⟩⟩ else if k = 1 then ⟨1, ⟨2, 0, 0, 0⟩, ⟨3, 0, 0, 0⟩⟩ else ⟨1, ⟨1, 0, 0, 0⟩, ⟨3, 0, 0, 0⟩⟩
set_option maxRecDepth 100000 in
theorem kS2 : fst kS 2 0 = (-1, 0) := by decide +kernel
set_option maxRecDepth 100000 in
theorem kS3 : fst kS 3 0 = (2, 26) := by decide +kernel
theorem kS2_at (w : World) (q : Nat) (hq : q = w.heap.size) : SpAt (w.alloc (.cells #[.int .i64 1, .int .i64 0, .int .i64 0, .int .i64 0, .int .i64 0, .int .i64 2, .int .i64 0, .int .i64 0, .int .i64 0, .int .i64 1, .int .i64 2, .int .i64 0, .int .i64 0, .int .i64 0, .int .i64 3, .int .i64 0, .int .i64 0, .int .i64 0] 31)) (some ⟨q, 0, none⟩) 2 kS := fun k hk => by
  subst hq
  match k, hk with
  | 0, _ => exact ⟨_, _, rfl, by simp [go_sem, kS], by simp [go_sem, kS], by simp [go_sem, kS], by simp [go_sem, kS], by simp [go_sem, kS], by simp [go_sem, kS], by simp [go_sem, kS], by simp [go_sem, kS], by simp [go_sem, kS]⟩
  | 1, _ => exact ⟨_, _, rfl, by simp [go_sem, kS], by simp [go_sem, kS], by simp [go_sem, kS], by simp [go_sem, kS], by simp [go_sem, kS], by simp [go_sem, kS], by simp [go_sem, kS], by simp [go_sem, kS], by simp [go_sem, kS]⟩
theorem kS3_at (w : World) (q : Nat) (hq : q = w.heap.size) : SpAt (w.alloc (.cells #[.int .i64 1, .int .i64 0, .int .i64 0, .int .i64 0, .int .i64 0, .int .i64 2, .int .i64 0, .int .i64 0, .int .i64 0, .int .i64 1, .int .i64 2, .int .i64 0, .int .i64 0, .int .i64 0, .int .i64 3, .int .i64 0, .int .i64 0, .int .i64 0, .int .i64 1, .int .i64 1, .int .i64 0, .int .i64 0, .int .i64 0, .int .i64 3, .int .i64 0, .int .i64 0, .int .i64 0] 31)) (some ⟨q, 0, none⟩) 3 kS := fun k hk => by
  subst hq
  match k, hk with
  | 0, _ => exact ⟨_, _, rfl, by simp [go_sem, kS], by simp [go_sem, kS], by simp [go_sem, kS], by simp [go_sem, kS], by simp [go_sem, kS], by simp [go_sem, kS], by simp [go_sem, kS], by simp [go_sem, kS], by simp [go_sem, kS]⟩
  | 1, _ => exact ⟨_, _, rfl, by simp [go_sem, kS], by simp [go_sem, kS], by simp [go_sem, kS], by simp [go_sem, kS], by simp [go_sem, kS], by simp [go_sem, kS], by simp [go_sem, kS], by simp [go_sem, kS], by simp [go_sem, kS]⟩
  | 2, _ => exact ⟨_, _, rfl, by simp [go_sem, kS], by simp [go_sem, kS], by simp [go_sem, kS], by simp [go_sem, kS], by simp [go_sem, kS], by simp [go_sem, kS], by simp [go_sem, kS], by simp [go_sem, kS], by simp [go_sem, kS]⟩
end Go.Proofs.YtabafabebodojaaDoor
