/- Spans: the law on the limit, reckoned. -/
import Derived.Test.YtabafabebodojaaDoorSa
namespace Go.Proofs.YtabafabebodojaaDoor
open Go
set_option linter.unusedVariables false
set_option linter.unusedSimpArgs false

/-- the spans of the law on the limit -/
def lmS (q : Int) (i : Nat) : Sp := ⟨1 + q, ⟨0, 2 * ((i : Int) / 128), (i : Int) % 128, 0⟩, ⟨0, 2 * ((i : Int) / 128) + 1, (i : Int) % 128, 0⟩⟩
theorem upTo_y {n g : Int} (h0 : 0 ≤ n) (h1 : n ≤ g) : upTo n g = true := by unfold upTo; rw [decide_eq_true h0, decide_eq_true h1]; rfl
theorem isP_y {p : Pl} (a : 0 ≤ p.m) (b : p.m ≤ 1023) (c : 0 ≤ p.a) (d : p.a ≤ 4398046511104) (e : 0 ≤ p.s) (f : p.s ≤ 127) (g : 0 ≤ p.v) (h : p.v ≤ 1) : isP p = true := by
  unfold isP
  rw [upTo_y a b, upTo_y c d, upTo_y e f, upTo_y g h]
  rfl
theorem lm_proper (q : Int) (i : Nat) (h0 : 0 ≤ q) (h1 : q ≤ 6) (hi : i ≤ 4096) : proper (lmS q i) = 0 := by
  have hc : cmpP (lmS q i).f (lmS q i).t < 0 := cmpP_lt.2 (.inr ⟨rfl, by simp only [lmS]; omega⟩)
  have hk : isK (lmS q i).k = true := by
    unfold isK
    rw [decide_eq_true (show 1 ≤ (lmS q i).k from by show (1 : Int) ≤ 1 + q; omega), decide_eq_true (show (lmS q i).k ≤ 7 from by show 1 + q ≤ 7; omega)]
    rfl
  have hf : isP (lmS q i).f = true := isP_y (show (0 : Int) ≤ 0 by omega) (show (0 : Int) ≤ 1023 by omega) (show (0 : Int) ≤ 2 * ((i : Int) / 128) by omega) (show 2 * ((i : Int) / 128) ≤ 4398046511104 by omega) (show (0 : Int) ≤ (i : Int) % 128 by omega) (show (i : Int) % 128 ≤ 127 by omega) (show (0 : Int) ≤ 0 by omega) (show (0 : Int) ≤ 1 by omega)
  have ht : isP (lmS q i).t = true := isP_y (show (0 : Int) ≤ 0 by omega) (show (0 : Int) ≤ 1023 by omega) (show (0 : Int) ≤ 2 * ((i : Int) / 128) + 1 by omega) (show 2 * ((i : Int) / 128) + 1 ≤ 4398046511104 by omega) (show (0 : Int) ≤ (i : Int) % 128 by omega) (show (i : Int) % 128 ≤ 127 by omega) (show (0 : Int) ≤ 0 by omega) (show (0 : Int) ≤ 1 by omega)
  unfold proper
  rw [if_neg (by simp [hk]), if_neg (by simp [hf, ht]), if_neg (by simp [lmS]), if_neg (by omega)]
theorem lm_apart (q : Int) (i j : Nat) (hj : j < i) (hg : grp (lmS q j) = grp (lmS q i)) : exc (lmS q i).k (lmS q j) (lmS q i) = false := by
  have hs : (j : Int) % 128 = (i : Int) % 128 := congrArg Gr.s hg
  have h1 : cmpP (lmS q j).t (lmS q i).f < 0 := cmpP_lt.2 (.inr ⟨rfl, by simp only [lmS]; omega⟩)
  have ho : ovl (lmS q j) (lmS q i) = false := by unfold ovl; rw [decide_eq_false (by omega)]; rfl
  have ht : tch (lmS q j) (lmS q i) = false := by unfold tch; rw [decide_eq_false (by omega)]; rfl
  have he : ent (lmS q j) (lmS q i) = false := by unfold ent; rw [ho]; rfl
  unfold exc
  repeat' split
  all_goals assumption
theorem lm_er (q : Int) (i : Nat) (h0 : 0 ≤ q) (h1 : q ≤ 6) (hi : i ≤ 4096) : er (lmS q) i = 0 := by
  unfold er
  rw [if_neg (by rw [lm_proper q i h0 h1 hi]; omega), if_neg]
  intro h
  unfold cl at h
  obtain ⟨x, hx, he⟩ := List.any_eq_true.1 h
  obtain ⟨j, hj, rfl, hg⟩ := (gl_mem _ i _ x).1 hx
  rw [lm_apart q i j hj hg] at he
  cases he
theorem lm_fst (q : Int) (h0 : 0 ≤ q) (h1 : q ≤ 6) : fst (lmS q) 4096 0 = (-1, 0) := fst_ok 4096 0 (fun k _ hk => lm_er q k h0 h1 (by omega))
end Go.Proofs.YtabafabebodojaaDoor
