/- Spans: what covers a place, reckoned. -/
import Derived.Test.YtabafabebodojaaDoorSl
namespace Go.Proofs.YtabafabebodojaaDoor
open Go
set_option linter.unusedVariables false
set_option linter.unusedSimpArgs false

def cov (s : Sp) (p : Pl) : Bool := decide (s.f.s = p.s) && (!(ofV s.k && decide (s.f.v ≠ p.v)) && (decide (cmpP s.f p ≤ 0) && decide (cmpP p s.t ≤ 0)))
def octK (k : Int) : Bool := decide (k = 4) || decide (k = 5)
def ocn (f : Nat → Sp) (p : Pl) : Nat → Nat
  | 0 => 0
  | k + 1 => ocn f p k + if (octK (f k).k && cov (f k) p) = true then 1 else 0
theorem cov_iff (s : Sp) (p : Pl) : cov s p = true ↔ s.f.s = p.s ∧ (ofV s.k = true → s.f.v = p.v) ∧ cmpP s.f p ≤ 0 ∧ cmpP p s.t ≤ 0 := by
  unfold cov
  cases ofV s.k <;> simp <;> omega
theorem cov_tch {a b : Sp} {p : Pl} (ha : cov a p = true) (hb : cov b p = true) : tch a b = true := by
  obtain ⟨_, _, a1, a2⟩ := (cov_iff a p).1 ha
  obtain ⟨_, _, b1, b2⟩ := (cov_iff b p).1 hb
  have x1 := cmpP_le.1 a1
  have x2 := cmpP_le.1 a2
  have y1 := cmpP_le.1 b1
  have y2 := cmpP_le.1 b2
  have n1 : ¬ cmpP a.t b.f < 0 := fun h => by have := cmpP_lt.1 h; omega
  have n2 : ¬ cmpP b.t a.f < 0 := fun h => by have := cmpP_lt.1 h; omega
  unfold tch
  rw [decide_eq_true (by omega), decide_eq_true (by omega)]
  rfl
theorem oct_cf {a b : Sp} {p : Pl} (ka : octK a.k = true) (kb : octK b.k = true) (ha : cov a p = true) (hb : cov b p = true) : cf a b = true := by
  have h1 : a.k = 4 ∨ a.k = 5 := by simpa [octK] using ka
  have h2 : b.k = 4 ∨ b.k = 5 := by simpa [octK] using kb
  have s1 := ((cov_iff a p).1 ha).1
  have s2 := ((cov_iff b p).1 hb).1
  have ht := cov_tch ha hb
  have hg : grp a = grp b := by rcases h1 with h1 | h1 <;> rcases h2 with h2 | h2 <;> simp [grp, gK, ofV, h1, h2, s1, s2]
  have hk : isK a.k = true := by rcases h1 with h1 | h1 <;> simp [isK, h1]
  have he : exc a.k a b = true := by rcases h1 with h1 | h1 <;> simp [exc, h1, ht]
  simp [cf, hg, hk, he]
theorem ocn_le {f : Nat → Sp} {p : Pl} {n : Nat} (h : ∀ i, i < n → ∀ j, j < i → cf (f i) (f j) = false) : ∀ k, k ≤ n → ocn f p k ≤ 1 ∧ (1 ≤ ocn f p k → ∃ j, j < k ∧ octK (f j).k = true ∧ cov (f j) p = true)
  | 0, _ => ⟨by simp [ocn], by simp [ocn]⟩
  | k + 1, hk => by
    obtain ⟨h1, h2⟩ := ocn_le h k (by omega)
    unfold ocn
    split
    · rename_i hc
      have hc' : octK (f k).k = true ∧ cov (f k) p = true := by simpa using hc
      have h0 : ocn f p k = 0 := by
        rcases Nat.lt_or_ge 0 (ocn f p k) with hp | hp
        · obtain ⟨j, hj, j1, j2⟩ := h2 hp
          have := h k (by omega) j hj
          rw [oct_cf hc'.1 j1 hc'.2 j2] at this
          cases this
        · omega
      exact ⟨by omega, fun _ => ⟨k, by omega, hc'⟩⟩
    · exact ⟨by omega, fun hp => by obtain ⟨j, hj, hh⟩ := h2 (by omega); exact ⟨j, by omega, hh⟩⟩
theorem cf_none {f : Nat → Sp} {n : Nat} (h : ∀ k, k < n → er f k = 0) : ∀ i, i < n → ∀ j, j < i → cf (f i) (f j) = false := fun i hi j hj => by
  obtain ⟨h1, h2⟩ := er_ok (h i hi)
  cases e : cf (f i) (f j)
  · rfl
  · have := (cl_iff f i (ok_grp h1).2).2 ⟨j, hj, e⟩
    rw [h2] at this
    cases this
theorem nest_ok {a b : Sp} {p : Pl} (ka : a.k = 1) (kb : b.k = 1) (ha : cov a p = true) (hb : cov b p = true) (hc : cf a b = false) (a1 : cmpP a.f p < 0) (a2 : cmpP p a.t < 0) (b1 : cmpP b.f p < 0) (b2 : cmpP p b.t < 0) (hw : wth a b = false) : wth b a = true := by
  obtain ⟨s1, v1, _, _⟩ := (cov_iff a p).1 ha
  obtain ⟨s2, v2, _, _⟩ := (cov_iff b p).1 hb
  have v1 := v1 (by simp [ofV, ka])
  have v2 := v2 (by simp [ofV, kb])
  have hg : grp a = grp b := by simp [grp, gK, ofV, ka, kb, s1, s2, v1, v2]
  have x1 := cmpP_lt.1 a1
  have x2 := cmpP_lt.1 a2
  have y1 := cmpP_lt.1 b1
  have y2 := cmpP_lt.1 b2
  have n1 : ¬ cmpP a.t b.f ≤ 0 := fun h => by have := cmpP_le.1 h; omega
  have n2 : ¬ cmpP b.t a.f ≤ 0 := fun h => by have := cmpP_le.1 h; omega
  have ho : ovl a b = true := by unfold ovl; rw [decide_eq_true (by omega), decide_eq_true (by omega)]; rfl
  have hk : isK a.k = true := by simp [isK, ka]
  have he : exc a.k a b = ent a b := by simp [exc, ka]
  simp only [cf, hg, hk, he, ent, ho, hw] at hc
  cases e : wth b a
  · simp [e] at hc
  · rfl
end Go.Proofs.YtabafabebodojaaDoor
