/- Tuplets: same. -/
import Derived.Test.YtidggmfgbcmklaaVb
namespace Go.Proofs.Ytidggmfgbcmklaa
open Go.RowKit
set_option linter.unusedVariables false
set_option linter.unusedSimpArgs false

set_option maxRecDepth 100000 in
set_option maxHeartbeats 4000000 in
theorem same_ok (F : Nat → Tp) (m c1 c2 : Nat) (a1 a2 : Option Addr) (w : World) (h1 : TsAt w a1 m F) (h2 : TsAt w a2 m F) (hm : m ≤ 1048576) :
    Calls Try.prog 18 #[.slice a1 m c1, .slice a2 m c2] w fun e w' => e = .returned (.bool true) ∧ Below w.heap.size w w' := by
  have H1 := Lib.hid h1
  have H2 := Lib.hid h2
  have B0 := Lib.hid (Bel.refl w)
  clear h1 h2
  go_enter Try.func18, Try.ntmps18
  go_wp2_with fail
  go_loopg [5] m (fun gm i wr => ∃ k : Nat, k ≤ m ∧ gm = m - k ∧ i = .int .i64 (k : Int) ∧ Hid (Bel w wr))
  case atStart => exact ⟨0, by omega, by omega, rfl, B0⟩
  case round =>
    clear B0
    obtain ⟨k, hk, rfl, rfl, B0⟩ := hrel
    obtain ⟨W0, hW0, B0⟩ : ∃ W0, W0 = _ ∧ Hid (Bel w W0) := ⟨_, rfl, B0⟩
    subst hW0
    by_cases hlt : k < m
    · obtain ⟨b1, o1, rfl, q0, q1, q2, q3⟩ := H1.out.up B0.out.out k hlt
      obtain ⟨b2, o2, rfl, p0, p1, p2, p3⟩ := H2.out.up B0.out.out k hlt
      generalize F k = X at *
      go_wp2_with fail
      refine Qt.regionAll (by kernel_rfl) (by kernel_rfl) ?_
      intro T f_ F hne
      have RB := Lib.hid (fun g => B0.out.up (F.below g))
      have R_q0 := fun g => cell_up (F.below g) q0
      have R_q1 := fun g => cell_up (F.below g) q1
      have R_q2 := fun g => cell_up (F.below g) q2
      have R_q3 := fun g => cell_up (F.below g) q3
      have R_p0 := fun g => cell_up (F.below g) p0
      have R_p1 := fun g => cell_up (F.below g) p1
      have R_p2 := fun g => cell_up (F.below g) p2
      have R_p3 := fun g => cell_up (F.below g) p3
      repeat (go_big_quiet_step (fail))
      refine wpQuiet_nil ?_
      rintro _ ⟨gT, rfl⟩
      have B1 := Lib.hid (RB.out gT)
      have n_q0 := R_q0 gT
      have n_q1 := R_q1 gT
      have n_q2 := R_q2 gT
      have n_q3 := R_q3 gT
      have n_p0 := R_p0 gT
      have n_p1 := R_p1 gT
      have n_p2 := R_p2 gT
      have n_p3 := R_p3 gT
      clear F RB hne B0 R_q0 q0 R_q1 q1 R_q2 q2 R_q3 q3 R_p0 p0 R_p1 p1 R_p2 p2 R_p3 p3
      generalize f_ gT = w1 at *
      clear f_
      have q0 := n_q0
      clear n_q0
      have q1 := n_q1
      clear n_q1
      have q2 := n_q2
      clear n_q2
      have q3 := n_q3
      clear n_q3
      have p0 := n_p0
      clear n_p0
      have p1 := n_p1
      clear n_p1
      have p2 := n_p2
      clear n_p2
      have p3 := n_p3
      clear n_p3
      go_wp2_with fail
      go_roundg (m - (k + 1))
      case measure => omega
      case rel => exact ⟨k + 1, by omega, rfl, by go_num, B1⟩
    · obtain rfl : k = m := by omega
      go_wp2_with fail
      go_ret
      exact ⟨rfl, B0.out.out⟩
end Go.Proofs.Ytidggmfgbcmklaa
