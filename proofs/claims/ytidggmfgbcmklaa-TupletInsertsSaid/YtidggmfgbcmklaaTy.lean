/- Tuplets: the reference Check. -/
import Derived.Test.YtidggmfgbcmklaaTv
import Derived.Test.YtidggmfgbcmklaaTw
import Derived.Test.YtidggmfgbcmklaaTx
namespace Go.Proofs.Ytidggmfgbcmklaa
open Go.RowKit
set_option linter.unusedVariables false
set_option linter.unusedSimpArgs false

theorem rcheck_ok (f : Nat → Tp) (n cap : Nat) (ad : Option Addr) (ev : Int) (w : World) (h : TsAt w ad n f) : Calls Try.prog 15 #[.slice ad n cap, .int .i64 ev] w fun e w' => e = .returned (.int .i64 (chk f n ev)) ∧ Below w.heap.size w w' := by
  by_cases a : ev < 0
  · rw [show chk f n ev = 2 from if_pos (.inl a)]; exact rchk_lo f n cap ad ev w a
  · by_cases b : 128 < ev
    · rw [show chk f n ev = 2 from if_pos (.inr b)]; exact rchk_hi f n cap ad ev w (by omega) b
    · have hab : ¬ (ev < 0 ∨ 128 < ev) := by omega
      by_cases c : 16 < n
      · rw [show chk f n ev = 9 from by unfold chk; rw [if_neg hab, if_pos c]]; exact rchk_many f n cap ad ev w (by omega) (by omega) c
      · obtain ⟨m, rfl⟩ := Int.eq_ofNat_of_zero_le (show 0 ≤ ev by omega)
        rcases first_bad (f := f) (ev := (m : Int)) n with hg | ⟨j, hj, hg, hb⟩
        · rw [chk_ok hab c hg]; exact rchk_ok f n cap ad m w (by omega) (by omega) hg h
        · rw [chk_bad hab c hj hg hb]
          by_cases hr : (f j).inR m
          · by_cases ho : 0 < j ∧ (f j).after (f (j - 1))
            · rw [show err1 f m j = 25 from by unfold err1; rw [if_neg (fun g => g hr), if_pos ho]]
              exact rchk_o f n cap ad m w (by omega) (by omega) j hj hg hr ho h
            · have hp : ¬ okP f j := fun hp => hb (by unfold err1; rw [if_neg (fun g => g hr), if_neg ho, if_neg (fun g => g hp)])
              rw [show err1 f m j = 21 from by unfold err1; rw [if_neg (fun g => g hr), if_neg ho, if_pos hp]]
              refine rchk_p f n cap ad m w (by omega) (by omega) j hj hg hr ho (fun k hk => ?_) hp h
              have h1 := hg.mono (j := k) (i := j - 1) (by omega) (by omega)
              have h2 : ¬ (f j).after (f (j - 1)) := fun q => ho ⟨by omega, q⟩
              unfold Tp.after at h2
              omega
          · rw [show err1 f m j = 2 from by unfold err1; rw [if_pos hr]]
            exact rchk_r f n cap ad m w (by omega) (by omega) j hj hg hr h
end Go.Proofs.Ytidggmfgbcmklaa
