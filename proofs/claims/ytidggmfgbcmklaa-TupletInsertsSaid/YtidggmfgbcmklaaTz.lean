/- Tuplets: known. -/
import Derived.Test.YtidggmfgbcmklaaTy
namespace Go.Proofs.Ytidggmfgbcmklaa
open Go.RowKit
set_option linter.unusedVariables false
set_option linter.unusedSimpArgs false

/-- the example of the document -/
def k0T : Nat → Tp := fun k => if k = 0 then ⟨0, 5, 3, 2⟩ else ⟨1, 3, 3, 2⟩
def k0W : Nat → Int := fun k => if k = 0 then 241920 else if k = 4 then 241920 else 120960
set_option maxRecDepth 100000 in
theorem k0E : lsE k0T 2 k0W ((5 : Nat) : Int).toNat = 0 := by decide +kernel
theorem k0V : lsV k0T 2 k0W 0 = 161280 ∧ lsV k0T 2 k0W 1 = 53760 ∧ lsV k0T 2 k0W 4 = 161280 := by decide +kernel
set_option maxRecDepth 100000 in
set_option maxHeartbeats 4000000 in
theorem known_ok (w : World) : Calls Try.prog 13 #[] w fun e w' => e = .returned (.bool true) ∧ Below w.heap.size w w' := by
  have B0 := Lib.hid (Bel.refl w)
  have B1 := Lib.hid ((B0.out.alloc (.cells #[.int .i64 0, .int .i64 5, .int .i64 3, .int .i64 2, .int .i64 1, .int .i64 3, .int .i64 3, .int .i64 2] 52)).alloc (.cells #[.int .i64 241920, .int .i64 120960, .int .i64 120960, .int .i64 120960, .int .i64 241920] 3))
  have T1 : TsAt ((w.alloc (.cells #[.int .i64 0, .int .i64 5, .int .i64 3, .int .i64 2, .int .i64 1, .int .i64 3, .int .i64 3, .int .i64 2] 52)).alloc (.cells #[.int .i64 241920, .int .i64 120960, .int .i64 120960, .int .i64 120960, .int .i64 241920] 3)) (some ⟨w.heap.size, 0, none⟩) 2 k0T := fun k hk => by
    match k, hk with
    | 0, _ => exact ⟨_, _, rfl, by simp [go_sem, k0T], by simp [go_sem, k0T], by simp [go_sem, k0T], by simp [go_sem, k0T]⟩
    | 1, _ => exact ⟨_, _, rfl, by simp [go_sem, k0T], by simp [go_sem, k0T], by simp [go_sem, k0T], by simp [go_sem, k0T]⟩
  have I1 : IsAt ((w.alloc (.cells #[.int .i64 0, .int .i64 5, .int .i64 3, .int .i64 2, .int .i64 1, .int .i64 3, .int .i64 3, .int .i64 2] 52)).alloc (.cells #[.int .i64 241920, .int .i64 120960, .int .i64 120960, .int .i64 120960, .int .i64 241920] 3)) (some ⟨w.heap.size + 1, 0, none⟩) 5 k0W := fun k hk => by
    match k, hk with
    | 0, _ => exact ⟨_, _, rfl, by simp [go_sem, k0W]⟩
    | 1, _ => exact ⟨_, _, rfl, by simp [go_sem, k0W]⟩
    | 2, _ => exact ⟨_, _, rfl, by simp [go_sem, k0W]⟩
    | 3, _ => exact ⟨_, _, rfl, by simp [go_sem, k0W]⟩
    | 4, _ => exact ⟨_, _, rfl, by simp [go_sem, k0W]⟩
  replace T1 := Lib.hid T1
  replace I1 := Lib.hid I1
  clear B0
  go_enter Try.func13, Try.ntmps13
  go_wp2_with fail
  refine (lengths_ok k0T 2 2 _ k0W 5 5 _ _ T1.out I1.out (by omega)).mono ?_
  rintro e w1 ⟨v, rfl, hb, hv⟩
  have hE : lsE k0T 2 k0W 5 = 0 := k0E
  rw [hE] at hv ⊢
  obtain ⟨b, rfl, hbw, hF⟩ := hv.1 rfl
  have B2 := Lib.hid (B1.out.up hb)
  have q0 := (hF 0 (by omega)).1
  have q1 := (hF 1 (by omega)).1
  have q4 := (hF 4 (by omega)).1
  rw [k0V.1] at q0
  rw [k0V.2.1] at q1
  rw [k0V.2.2] at q4
  clear hb hv hF B1 T1 I1 hE hbw
  go_wp2_with fail
  go_ret
  exact ⟨rfl, B2.out.out⟩
end Go.Proofs.Ytidggmfgbcmklaa
