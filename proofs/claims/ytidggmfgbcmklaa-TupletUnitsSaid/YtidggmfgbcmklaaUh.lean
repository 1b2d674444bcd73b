/- Tuplets: what an outermost tuplet lasts. -/
import Derived.Test.YtidggmfgbcmklaaUg
namespace Go.Proofs.Ytidggmfgbcmklaa
open Go.RowKit
set_option linter.unusedVariables false
set_option linter.unusedSimpArgs false

theorem pN_add {f : Nat → Tp} {x : Int} {a : Nat} : ∀ k, pN f x (a + k) = pN f x a * pN (sh f a) x k := by
  intro k
  induction k with
  | zero => simp [pN]
  | succ k ih =>
    rw [show a + (k + 1) = (a + k) + 1 from rfl]
    by_cases h : (f (a + k)).has x
    · rw [pN_has h, ih, pN_has (f := sh f a) (k := k) h, Nat.mul_assoc]; rfl
    · rw [pN_not h, ih, pN_not (f := sh f a) (k := k) h]
theorem pA_add {f : Nat → Tp} {x : Int} {a : Nat} : ∀ k, pA f x (a + k) = pA f x a * pA (sh f a) x k := by
  intro k
  induction k with
  | zero => simp [pA]
  | succ k ih =>
    rw [show a + (k + 1) = (a + k) + 1 from rfl]
    by_cases h : (f (a + k)).has x
    · rw [pA_has h, ih, pA_has (f := sh f a) (k := k) h, Nat.mul_assoc]; rfl
    · rw [pA_not h, ih, pA_not (f := sh f a) (k := k) h]
theorem p_none {f : Nat → Tp} {x : Int} : ∀ k, (∀ j, j < k → ¬ (f j).has x) → pN f x k = 1 ∧ pA f x k = 1 := by
  intro k
  induction k with
  | zero => intro _; exact ⟨rfl, rfl⟩
  | succ k ih =>
    intro h
    have := ih (fun j hj => h j (by omega))
    rw [pN_not (h k (by omega)), pA_not (h k (by omega))]
    exact this
/-- no tuplet contains the i-th -/
def outF (f : Nat → Tp) (i : Nat) : Nat → Bool
  | 0 => true
  | k + 1 => outF f i k && !decide (wi (f i) (f k))
theorem outF_true {f : Nat → Tp} {i : Nat} : ∀ k, outF f i k = true → ∀ j, j < k → ¬ wi (f i) (f j) := by
  intro k
  induction k with
  | zero => intro _ j hj; omega
  | succ k ih =>
    intro h j hj
    simp only [outF, Bool.and_eq_true, Bool.not_eq_true', decide_eq_false_iff_not] at h
    by_cases e : j = k
    · subst e; exact h.2
    · exact ih h.1 j (by omega)
theorem sumH_scale {v u : Nat → Int} {t : Tp} {a b : Int} (K : Nat) (h : ∀ e, e < K → t.has e → v e * a = u e * b) : ∀ k, k ≤ K → sumH v t k * a = sumH u t k * b := by
  intro k
  induction k with
  | zero => intro _; simp [sumH]
  | succ k ih =>
    intro hk
    by_cases hx : t.has k
    · rw [sumH_has hx, sumH_has hx, Int.add_mul, Int.add_mul, ih (by omega), h k (by omega) hx]
    · rw [sumH_not hx, sumH_not hx, ih (by omega)]
theorem sc_exact {f : Nat → Tp} {n : Nat} (h : Gd f n) {x t : Int} (hE : lenE f n x t = 0) : lenV f n x t * (pA f x n : Int) = t * (pN f x n : Int) := by
  obtain ⟨t0, t1⟩ := lenE_zero hE
  have hb := sc_lenE h t0 t1 (x := x)
  rw [hE] at hb
  have hv := sc_lenV h t0 hE
  rw [← hv]
  unfold scV
  unfold scB at hb
  have hz : t * (pN f x n : Int) % (pA f x n : Int) = 0 := by simpa using hb
  exact Int.ediv_mul_cancel (Int.dvd_of_emod_eq_zero hz)
theorem units_len {f : Nat → Tp} {n K i : Nat} {g : Nat → Int} (hg : good f K n) (hK : (K : Int) ≤ 128) (hi : i < n) (ho : outF f i i = true) {e : Nat} (hx : (f i).has e) (h1 : lenE f n e (g e) = 0) (h2 : lenE (sh f (i + 1)) (n - (i + 1)) e (g e) = 0) :
    lenV f n e (g e) * (f i).A = lenV (sh f (i + 1)) (n - (i + 1)) e (g e) * (f i).N := by
  have hG := Gd.of hg hK
  have hGs : Gd (sh f (i + 1)) (n - (i + 1)) := Gd.sh (f := f) (a := i + 1) (by rw [show i + 1 + (n - (i + 1)) = n by omega]; exact hG)
  have hno : ∀ j, j < i → ¬ (f j).has e := fun j hj hjx => by
    refine outF_true i ho j hj ⟨hg.mono (by omega) hi, ?_⟩
    have := (hg.parts hi).2.2.2 j (mem_opn.2 ⟨hj, by unfold Tp.e; unfold Tp.has at hx hjx; omega⟩)
    exact this
  obtain ⟨q1, q2⟩ := p_none i hno
  have e1 := sc_exact hG h1
  have e2 := sc_exact hGs h2
  have en : pN f e n = (f i).N.toNat * pN (sh f (i + 1)) e (n - (i + 1)) := by
    have := pN_add (f := f) (x := (e : Int)) (a := i + 1) (n - (i + 1))
    rw [show i + 1 + (n - (i + 1)) = n by omega, pN_has hx, q1, Nat.one_mul] at this
    exact this
  have ea : pA f e n = (f i).A.toNat * pA (sh f (i + 1)) e (n - (i + 1)) := by
    have := pA_add (f := f) (x := (e : Int)) (a := i + 1) (n - (i + 1))
    rw [show i + 1 + (n - (i + 1)) = n by omega, pA_has hx, q2, Nat.one_mul] at this
    exact this
  obtain ⟨a0, _, n0, _⟩ := hG.rg i hi
  have hp := (p_bd hGs (e : Int) (Nat.le_refl _)).2.2.1
  rw [en, ea] at e1
  rw [Int.natCast_mul, Int.natCast_mul, Int.toNat_of_nonneg (by omega), Int.toNat_of_nonneg (by omega)] at e1
  generalize lenV f n e (g e) = V at *
  generalize lenV (sh f (i + 1)) (n - (i + 1)) e (g e) = V2 at *
  generalize (f i).A = A at *
  generalize (f i).N = Nn at *
  have hq : (1 : Int) ≤ (pA (sh f (i + 1)) e (n - (i + 1)) : Int) := by omega
  generalize (pA (sh f (i + 1)) e (n - (i + 1)) : Int) = Q at *
  generalize (pN (sh f (i + 1)) e (n - (i + 1)) : Int) = P at *
  refine Int.eq_of_mul_eq_mul_right (show Q ≠ 0 by omega) ?_
  rw [Int.mul_assoc, e1, Int.mul_right_comm, e2, Int.mul_assoc, Int.mul_comm P, Int.mul_comm Nn P]
theorem units_sum {f : Nat → Tp} {n K i j : Nat} {g : Nat → Int} (hE : lsE f n g K = 0) (hi : i < n) (ho : outF f i i = true) (hu : UnitOf f n g K i j) : sumH (lsV f n g) (f i) K = uu j * (f i).N := by
  obtain ⟨hc, hall⟩ := lsE_all hE
  have hz := chk_zero hc
  have h1 := sumH_scale (v := lsV f n g) (u := fun e => lenV (sh f (i + 1)) (n - (i + 1)) e (g e)) (t := f i) (a := (f i).A) (b := (f i).N) K (fun e he hx => units_len hz.2.2.2 hz.2.1 hi ho hx (hall e he) (hu.wh e he hx)) K (Nat.le_refl K)
  have h2 : sumH (fun e => lenV (sh f (i + 1)) (n - (i + 1)) e (g e)) (f i) K = uu j * (f i).A := hu.eq.symm
  rw [h2] at h1
  obtain ⟨a0, _, _, _⟩ := (Gd.chk hc).rg i hi
  refine Int.eq_of_mul_eq_mul_right (show (f i).A ≠ 0 by omega) ?_
  rw [h1, Int.mul_right_comm]
end Go.Proofs.Ytidggmfgbcmklaa
