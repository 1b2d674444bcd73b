/- Tuplets: Clone. -/
import Derived.Test.YtidggmfgbcmklaaVb
namespace Go.Proofs.Ytidggmfgbcmklaa
open Go.RowKit
set_option linter.unusedVariables false
set_option linter.unusedSimpArgs false

set_option maxRecDepth 100000 in
set_option maxHeartbeats 4000000 in
theorem clone_pos (f : Nat → Tp) (n cap : Nat) (ad : Option Addr) (w : World) (hn : 0 < n) (hn2 : n ≤ 1048576) (h : TsAt w ad n f) :
    Calls Try.prog 39 #[.slice ad n cap] w fun e w' => ∃ g c, e = .returned (.slice (some ⟨g, 0, none⟩) n c) ∧ Below w.heap.size w w' ∧ w.heap.size ≤ g ∧ FilT w' g n f := by
  obtain ⟨i0, hinf, hz0, hz1, hz2⟩ := info_parts infoT
  obtain ⟨b, off, rfl, _⟩ := h 0 hn
  have HC := Lib.hid (flatT_cells h)
  have he : ∀ u : World, (binOp .eql 22 (.slice (some ⟨b, off, none⟩) n cap) (.slice none 0 0)).run Try.prog u = .ok (.bool false) u := fun _ => rfl
  have B0 := Lib.hid (Bel.refl w)
  clear h
  go_enter Try.func39, Try.ntmps39
  go_wp2_with (first | (at_builtin; refine wpList_append_own _ rfl _ _ 22 rfl w.heap.size 52 i0 (.agg #[.int .i64 0, .int .i64 0, .int .i64 0, .int .i64 0]) 4 32 Try.underlying22 hinf hz0 hz1 hz2 rfl (by decide) (.slice (some ⟨w.heap.size, 0, none⟩) 0 0) 0 (flatT f 0) rfl (World.ownsRow_made w #[] 0 (Nat.le_refl _) (by simp [maxLen]) rfl) ⟨b, off, none⟩ n cap (flatT f n) rfl (flatT_len f n) (fun j u hj => cell_up ((Below.refl _ _).alloc (Nat.le_refl _) _) (HC.out j u hj)) (flatT_one f n) (by unfold maxLen; omega) (by omega) (by simp) ?_; intro v' w9 hown' hgrow _))
  go_ret
  rw [Nat.zero_add] at hown'
  obtain ⟨g, c, rfl, hg, hF⟩ := FilT.own (h := f) (show OwnT w9 w.heap.size v' n f from hown') hn
  exact ⟨g, c, rfl, Below.grown (B0.out.alloc _) hgrow (by simp) (fun r e => by cases e; exact Nat.le_refl _), hg, hF⟩
theorem clone_nil (cap : Nat) (ad : Option Addr) (w : World) :
    Calls Try.prog 39 #[.slice ad 0 cap] w fun e w' => ∃ ao c, e = .returned (.slice ao 0 c) ∧ Below w.heap.size w w' := by
  obtain ⟨i0, hinf, hz0, hz1, hz2⟩ := info_parts infoT
  have B0 := Lib.hid (Bel.refl w)
  cases ad with
  | none =>
    have he : ∀ u : World, (binOp .eql 22 (.slice none 0 cap) (.slice none 0 0)).run Try.prog u = .ok (.bool true) u := fun _ => rfl
    go_enter Try.func39, Try.ntmps39
    go_wp2_with fail
    go_ret
    exact ⟨_, _, rfl, B0.out.out⟩
  | some a =>
    obtain ⟨b, off, sp⟩ := a
    have he : ∀ u : World, (binOp .eql 22 (.slice (some ⟨b, off, sp⟩) 0 cap) (.slice none 0 0)).run Try.prog u = .ok (.bool false) u := fun _ => rfl
    go_enter Try.func39, Try.ntmps39
    go_wp2_with (first | (at_builtin; refine wpList_append_own _ rfl _ _ 22 rfl w.heap.size 52 i0 (.agg #[.int .i64 0, .int .i64 0, .int .i64 0, .int .i64 0]) 4 32 Try.underlying22 hinf hz0 hz1 hz2 rfl (by decide) (.slice (some ⟨w.heap.size, 0, none⟩) 0 0) 0 [] rfl (World.ownsRow_made w #[] 0 (Nat.le_refl _) (by simp [maxLen]) rfl) ⟨b, off, sp⟩ 0 cap [] rfl rfl (fun j u hj => by simp at hj) (fun u hu => by simp at hu) (by unfold maxLen; omega) (by omega) (by simp) ?_; intro v' w9 hown' hgrow _))
    go_ret
    obtain ⟨ao, c, rfl⟩ := own_shape hown'
    exact ⟨⟨ao, c, rfl⟩, Below.grown (B0.out.alloc _) hgrow (by simp) (fun r e => by cases e; exact Nat.le_refl _)⟩
end Go.Proofs.Ytidggmfgbcmklaa
