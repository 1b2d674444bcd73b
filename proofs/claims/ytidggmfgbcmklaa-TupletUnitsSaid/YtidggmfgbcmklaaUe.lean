/- Tuplets: units. -/
import Derived.Test.YtidggmfgbcmklaaUd
import Derived.Test.YtidggmfgbcmklaaLx
namespace Go.Proofs.Ytidggmfgbcmklaa
open Go.RowKit
set_option linter.unusedVariables false
set_option linter.unusedSimpArgs false

/-- the lengths of a tuplet's events within it are whole; their sum -/
def whU (f : Nat → Tp) (n : Nat) (g : Nat → Int) (K i : Nat) : Prop := ∀ e, e < K → (f i).has e → lenE (sh f (i + 1)) (n - (i + 1)) e (g e) = 0
def smU (f : Nat → Tp) (n : Nat) (g : Nat → Int) (K i : Nat) : Int := sumH (fun e => lenV (sh f (i + 1)) (n - (i + 1)) e (g e)) (f i) K
/-- the unit of a tuplet -/
structure UnitOf (f : Nat → Tp) (n : Nat) (g : Nat → Int) (K i j : Nat) : Prop where
  wh : whU f n g K i
  lt : j < 10
  eq : uu j * (f i).A = smU f n g K i
  le : ∀ q, q < j → uu q * (f i).A ≠ smU f n g K i
theorem first_nat {P : Nat → Prop} : ∀ m : Nat, (∀ i, i < m → P i) ∨ ∃ z, z < m ∧ (∀ i, i < z → P i) ∧ ¬ P z := by
  intro m
  induction m with
  | zero => exact .inl (fun i hi => by omega)
  | succ m ih =>
    rcases ih with h | ⟨z, hz, h1, h2⟩
    · by_cases e : P m
      · exact .inl (fun i hi => by by_cases q : i = m; (subst q; exact e); exact h i (by omega))
      · exact .inr ⟨m, by omega, h, e⟩
    · exact .inr ⟨z, by omega, h1, h2⟩
/-- there is a unit, or what stands against it -/
theorem unit_cases (f : Nat → Tp) (n : Nat) (g : Nat → Int) (K i : Nat) : (∃ j, UnitOf f n g K i j) ∨ (∃ z, z < K ∧ (f i).has z ∧ lenE (sh f (i + 1)) (n - (i + 1)) z (g z) ≠ 0 ∧ ∀ e, e < z → (f i).has e → lenE (sh f (i + 1)) (n - (i + 1)) e (g e) = 0) ∨ (whU f n g K i ∧ ∀ q, q < 10 → uu q * (f i).A ≠ smU f n g K i) := by
  rcases first_nat (P := fun e => (f i).has e → lenE (sh f (i + 1)) (n - (i + 1)) e (g e) = 0) K with h | ⟨z, hz, h1, h2⟩
  · rcases first_nat (P := fun q => uu q * (f i).A ≠ smU f n g K i) 10 with h3 | ⟨j, hj, h3, h4⟩
    · exact .inr (.inr ⟨h, h3⟩)
    · exact .inl ⟨j, h, hj, Decidable.not_not.1 h4, h3⟩
  · refine .inr (.inl ⟨z, hz, ?_, ?_, h1⟩)
    · exact Decidable.not_not.1 (fun h => h2 (fun h3 => absurd h3 h))
    · exact fun h => h2 (fun _ => h)
theorem TsAt.drop {w : World} {b off n a : Nat} {f : Nat → Tp} (h : TsAt w (some ⟨b, off, none⟩) n f) (ha : a ≤ n) : TsAt w (some ⟨b, off + a * 4, none⟩) (n - a) (sh f a) := fun k hk => by
  obtain ⟨b', o', e, h0, h1, h2, h3⟩ := h (a + k) (by omega)
  cases e
  refine ⟨b, off + a * 4, rfl, ?_, ?_, ?_, ?_⟩ <;> (rw [show off + a * 4 + k * 4 = off + (a + k) * 4 by omega]; assumption)
theorem TsAt.dropIf {w : World} {b off n a cap : Nat} {f : Nat → Tp} (h : TsAt w (some ⟨b, off, none⟩) n f) (hc : n ≤ cap) (ha : a ≤ n) : TsAt w (if cap = a then some ⟨b, off, none⟩ else some ⟨b, off + a * 4, none⟩) (n - a) (sh f a) := by
  by_cases e : cap = a
  · intro k hk
    omega
  · rw [if_neg e]; exact h.drop ha
theorem unit_div {A S : Int} {j : Nat} (a0 : 1 ≤ A) (h : uu j * A = S) : S % A = 0 ∧ S / A = uu j := by
  subst h
  exact ⟨Int.mul_emod_left _ _, Int.mul_ediv_cancel _ (by omega)⟩
theorem unit_mul {A S : Int} {j : Nat} (h0 : S % A = 0) (h : uu j = S / A) : uu j * A = S := by
  rw [h]; exact Int.ediv_mul_cancel (Int.dvd_of_emod_eq_zero h0)
/-- what Units hands back -/
def unR (n : Nat) (E : Int) (J : Nat → Nat) (w : World) (v : Value) : Prop := (E = 0 → ∃ b, v = .slice (some ⟨b, 0, none⟩) n n ∧ Fil w b n (fun i => (J i : Int) - 1)) ∧ (E ≠ 0 → v = .slice none 0 0)
set_option maxRecDepth 100000 in
set_option maxHeartbeats 8000000 in
theorem units_n (f : Nat → Tp) (n cap : Nat) (ad : Option Addr) (g : Nat → Int) (K cap2 : Nat) (aw : Option Addr) (J : Nat → Nat) (w : World) (hc : n ≤ cap) (hT : TsAt w ad n f) (hI : IsAt w aw K g) (hK : K ≤ 130) (E : Int) (hE : lsE f n g K = E) (h0 : E ≠ 0) :
    Calls Try.prog 32 #[.slice ad n cap, .slice aw K cap2] w fun e w' => ∃ v, e = .returned (.tuple #[v, .int .i64 E]) ∧ Below w.heap.size w w' ∧ unR n E J w' v := by
  have he : (E != 0) = true := by simpa using h0
  have he1 : (E == 0) = false := by simpa using h0
  have hbd := lsE_bd f n K g
  rw [hE] at hbd
  have HT := Lib.hid hT
  have HI := Lib.hid hI
  have HL := Lib.hid (fun u h1 h2 => lengths_u f n cap ad g K cap2 aw u h1 h2 (by omega))
  rw [hE] at HL
  have HN := Lib.hid h0
  clear hT hI h0 hE
  go_enter Try.func32, Try.ntmps32
  go_wp2_with fail
  refine (HL.out _ HT.out HI.out).mono ?_
  rintro e w1 ⟨ao, co, rfl, hb, _⟩
  go_wp2_with fail
  go_ret2
  exact ⟨_, rfl, hb, fun e => absurd e HN.out, fun _ => rfl⟩
end Go.Proofs.Ytidggmfgbcmklaa
