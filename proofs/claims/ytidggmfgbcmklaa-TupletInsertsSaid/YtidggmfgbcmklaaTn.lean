/- Tuplets: Tree and Check. -/
import Derived.Test.YtidggmfgbcmklaaTk
import Derived.Test.YtidggmfgbcmklaaTl
import Derived.Test.YtidggmfgbcmklaaTm
namespace Go.Proofs.Ytidggmfgbcmklaa
open Go.RowKit
set_option linter.unusedVariables false
set_option linter.unusedSimpArgs false

theorem tree_any (f : Nat → Tp) (n cap : Nat) (ad : Option Addr) (ev : Int) (w : World) (h : TsAt w ad n f) : Calls Try.prog 30 #[.slice ad n cap, .int .i64 ev] w fun e w' => ∃ v, e = .returned (.tuple #[v, .int .i64 (chk f n ev)]) ∧ Below w.heap.size w w' ∧ trV f n (chk f n ev) w' v := by
  by_cases a : ev < 0
  · rw [show chk f n ev = 2 from if_pos (.inl a)]; exact tree_lo f n cap ad ev w a
  · by_cases b : 128 < ev
    · rw [show chk f n ev = 2 from if_pos (.inr b)]; exact tree_hi f n cap ad ev w (by omega) b
    · have hab : ¬ (ev < 0 ∨ 128 < ev) := by omega
      by_cases c : 16 < n
      · rw [show chk f n ev = 9 from by unfold chk; rw [if_neg hab, if_pos c]]; exact tree_many f n cap ad ev w (by omega) (by omega) c
      · rcases first_bad (f := f) (ev := ev) n with hg | ⟨j, hj, hg, hb⟩
        · rw [chk_ok hab c hg]; exact tree_ok f n cap ad ev w (by omega) (by omega) (by omega) hg h
        · rw [chk_bad hab c hj hg hb]
          by_cases hr : (f j).inR ev
          · by_cases ho : 0 < j ∧ (f j).after (f (j - 1))
            · rw [show err1 f ev j = 25 from by unfold err1; rw [if_neg (fun g => g hr), if_pos ho]]
              exact tree_o f n cap ad ev w (by omega) (by omega) (by omega) j hj hg hr ho h
            · have hp : ¬ okP f j := fun hp => hb (by unfold err1; rw [if_neg (fun g => g hr), if_neg ho, if_neg (fun g => g hp)])
              rw [show err1 f ev j = 21 from by unfold err1; rw [if_neg (fun g => g hr), if_neg ho, if_pos hp]]
              exact tree_p f n cap ad ev w (by omega) (by omega) (by omega) j hj hg hr ho hp h
          · rw [show err1 f ev j = 2 from by unfold err1; rw [if_pos hr]]
            exact tree_r f n cap ad ev w (by omega) (by omega) (by omega) j hj hg hr h
theorem err1_bd (f : Nat → Tp) (ev : Int) (i : Nat) : 0 ≤ err1 f ev i ∧ err1 f ev i ≤ 25 := by
  unfold err1
  split
  · omega
  · split
    · omega
    · split <;> omega
theorem errs_bd (f : Nat → Tp) (ev : Int) : ∀ (m k : Nat), 0 ≤ errs f ev m k ∧ errs f ev m k ≤ 25 := by
  intro m
  induction m with
  | zero => intro k; unfold errs; omega
  | succ m ih =>
    intro k
    unfold errs
    split
    · exact ih (k + 1)
    · exact err1_bd f ev k
theorem chk_bd (f : Nat → Tp) (n : Nat) (ev : Int) : 0 ≤ chk f n ev ∧ chk f n ev ≤ 25 := by
  unfold chk
  split
  · omega
  · split
    · omega
    · exact errs_bd f ev n 0
theorem trV.shape {f : Nat → Tp} {n : Nat} {E : Int} {w : World} {v : Value} (h : trV f n E w v) : ∃ ao l c, v = .slice ao l c := by
  by_cases e : E = 0
  · obtain ⟨g, rfl, _⟩ := h.1 e; exact ⟨_, _, _, rfl⟩
  · rw [h.2 e]; exact ⟨_, _, _, rfl⟩
set_option maxRecDepth 100000 in
set_option maxHeartbeats 2000000 in
theorem check_ok (f : Nat → Tp) (n cap : Nat) (ad : Option Addr) (ev : Int) (w : World) (h : TsAt w ad n f) : Calls Try.prog 14 #[.slice ad n cap, .int .i64 ev] w fun e w' => e = .returned (.int .i64 (chk f n ev)) ∧ Below w.heap.size w w' := by
  have HK := Lib.hid (fun u => tree_any f n cap ad ev u)
  have HT := Lib.hid h
  clear h
  go_enter Try.func14, Try.ntmps14
  go_wp2_with fail
  refine (HK.out _ HT.out).mono ?_
  rintro e w1 ⟨v, rfl, hb, hv⟩
  obtain ⟨ao, l, c, rfl⟩ := hv.shape
  have hE := chk_bd f n ev
  clear hv
  go_wp2_with fail
  go_ret
  exact ⟨rfl, hb⟩
end Go.Proofs.Ytidggmfgbcmklaa
