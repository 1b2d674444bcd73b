/- Tuplets: numbers; what Lengths hands back. -/
import Derived.Test.YtidggmfgbcmklaaTrl
namespace Go.Proofs.Ytidggmfgbcmklaa
open Go.RowKit
set_option linter.unusedVariables false
set_option linter.unusedSimpArgs false

/-- how many lengths are handed back -/
def lsM (f : Nat → Tp) (n : Nat) (g : Nat → Int) (m : Nat) : Nat := if lsE f n g m = 0 then m else 0
theorem lsM_le (f : Nat → Tp) (n : Nat) (g : Nat → Int) (m : Nat) : lsM f n g m ≤ m := by unfold lsM; split <;> omega
theorem lsE_zero_chk {f : Nat → Tp} {n m : Nat} {g : Nat → Int} (h : lsE f n g m = 0) : chk f n m = 0 := by
  by_cases e : chk f n m = 0
  · exact e
  · rw [lsE_chk e] at h; exact absurd h e
theorem lsM_V {f : Nat → Tp} {n m : Nat} {g : Nat → Int} (k : Nat) (hk : k < lsM f n g m) : 0 ≤ lsV f n g k ∧ lsV f n g k ≤ 253671505920 := by
  unfold lsM at hk
  split at hk
  · rename_i h; exact lsV_bd (lsE_zero_chk h) g k
  · omega
theorem sumF_bdM {h : Nat → Int} (c : Int) : ∀ k : Nat, (∀ j, j < k → 0 ≤ h j ∧ h j ≤ c) → 0 ≤ sumF h k ∧ sumF h k ≤ c * (k : Int) := by
  intro k
  induction k with
  | zero => intro _; simp [sumF]
  | succ k ih =>
    intro hh
    have h1 := hh k (by omega)
    have h2 := ih (fun j hj => hh j (by omega))
    unfold sumF
    rw [show c * ((k + 1 : Nat) : Int) = c * (k : Int) + c by rw [Int.natCast_add, Int.mul_add]; simp]
    omega
theorem lengths_u (f : Nat → Tp) (n cap : Nat) (ad : Option Addr) (g : Nat → Int) (m cap2 : Nat) (aw : Option Addr) (w : World) (h : TsAt w ad n f) (hw : IsAt w aw m g) (hm : m ≤ 1048576) : Calls Try.prog 24 #[.slice ad n cap, .slice aw m cap2] w fun e w' => ∃ ao co, e = .returned (.tuple #[.slice ao (lsM f n g m) co, .int .i64 (lsE f n g m)]) ∧ Below w.heap.size w w' ∧ IsAt w' ao (lsM f n g m) (lsV f n g) ∧ lsM f n g m ≤ co := by
  refine (lengths_ok f n cap ad g m cap2 aw w h hw hm).mono ?_
  rintro e w' ⟨v, rfl, hb, hv⟩
  by_cases hE : lsE f n g m = 0
  · rw [show lsM f n g m = m from if_pos hE]
    obtain ⟨b, rfl, _, hF⟩ := hv.1 hE
    exact ⟨_, _, rfl, hb, hF.is, by omega⟩
  · rw [show lsM f n g m = 0 from if_neg hE, hv.2 hE]
    exact ⟨none, 0, rfl, hb, fun k hk => by omega, by omega⟩
theorem rlengths_u (f : Nat → Tp) (n cap : Nat) (ad : Option Addr) (g : Nat → Int) (m cap2 : Nat) (aw : Option Addr) (w : World) (h : TsAt w ad n f) (hw : IsAt w aw m g) (hm : m ≤ 1048576) : Calls Try.prog 25 #[.slice ad n cap, .slice aw m cap2] w fun e w' => ∃ ao co, e = .returned (.tuple #[.slice ao (lsM f n g m) co, .int .i64 (lsE f n g m)]) ∧ Below w.heap.size w w' ∧ IsAt w' ao (lsM f n g m) (lsV f n g) := by
  refine (rlengths_ok f n cap ad g m cap2 aw w h hw hm).mono ?_
  rintro e w' ⟨v, rfl, hb, hv⟩
  by_cases hE : lsE f n g m = 0
  · rw [show lsM f n g m = m from if_pos hE]
    obtain ⟨a2, c2, rfl, hI⟩ := hv.1 hE
    exact ⟨_, _, rfl, hb, hI⟩
  · rw [show lsM f n g m = 0 from if_neg hE, hv.2 hE]
    exact ⟨none, 0, rfl, hb, fun k hk => by omega⟩
theorem sum_u (f : Nat → Tp) (n cap : Nat) (ad : Option Addr) (g : Nat → Int) (m cap2 : Nat) (aw : Option Addr) (w : World) (h : TsAt w ad n f) (hw : IsAt w aw m g) (hm : m ≤ 1048576) : Calls Try.prog 26 #[.slice ad n cap, .slice aw m cap2] w fun e w' => e = .returned (.tuple #[.int .i64 (sumF (lsV f n g) (lsM f n g m)), .int .i64 (lsE f n g m)]) ∧ Below w.heap.size w w' := by
  by_cases hE : lsE f n g m = 0
  · rw [show lsM f n g m = m from if_pos hE, hE]; exact sum_y f n cap ad g m cap2 aw w h hw hm hE
  · rw [show lsM f n g m = 0 from if_neg hE]; exact sum_n f n cap ad g m cap2 aw w h hw hm hE
set_option maxRecDepth 100000 in
set_option maxHeartbeats 4000000 in
theorem numbers_ok (F : Nat → Int) (m c1 c2 : Nat) (a1 a2 : Option Addr) (w : World) (h1 : IsAt w a1 m F) (h2 : IsAt w a2 m F) (hm : m ≤ 1048576) :
    Calls Try.prog 27 #[.slice a1 m c1, .slice a2 m c2] w fun e w' => e = .returned (.bool true) ∧ Below w.heap.size w w' := by
  have H1 := Lib.hid h1
  have H2 := Lib.hid h2
  have B0 := Lib.hid (Bel.refl w)
  clear h1 h2
  go_enter Try.func27, Try.ntmps27
  go_wp2_with fail
  go_loopg [5] m (fun gm i wr => ∃ k : Nat, k ≤ m ∧ gm = m - k ∧ i = .int .i64 (k : Int) ∧ Hid (Bel w wr))
  case atStart => exact ⟨0, by omega, by omega, rfl, B0⟩
  case round =>
    clear B0
    obtain ⟨k, hk, rfl, rfl, B0⟩ := hrel
    obtain ⟨W0, hW0, B0⟩ : ∃ W0, W0 = _ ∧ Hid (Bel w W0) := ⟨_, rfl, B0⟩
    subst hW0
    by_cases hlt : k < m
    · obtain ⟨b1, o1, rfl, q1⟩ := H1.out.up B0.out.out k hlt
      obtain ⟨b2, o2, rfl, q2⟩ := H2.out.up B0.out.out k hlt
      generalize F k = X at *
      go_wp2_with fail
      refine Qt.regionAll (by kernel_rfl) (by kernel_rfl) ?_
      intro T f_ F hne
      have RB := Lib.hid (fun g => B0.out.up (F.below g))
      have R_q1 := fun g => cell_up (F.below g) q1
      have R_q2 := fun g => cell_up (F.below g) q2
      repeat (go_big_quiet_step (fail))
      refine wpQuiet_nil ?_
      rintro _ ⟨gT, rfl⟩
      have B1 := Lib.hid (RB.out gT)
      have n_q1 := R_q1 gT
      have n_q2 := R_q2 gT
      clear F RB hne B0 R_q1 q1 R_q2 q2
      generalize f_ gT = w1 at *
      clear f_
      have q1 := n_q1
      clear n_q1
      have q2 := n_q2
      clear n_q2
      go_wp2_with fail
      go_roundg (m - (k + 1))
      case measure => omega
      case rel => exact ⟨k + 1, by omega, rfl, by go_num, B1⟩
    · obtain rfl : k = m := by omega
      go_wp2_with fail
      go_ret
      exact ⟨rfl, B0.out.out⟩
end Go.Proofs.Ytidggmfgbcmklaa
