/- Tuplets: the reference Scale. -/
import Derived.Test.YtidggmfgbcmklaaLr
namespace Go.Proofs.Ytidggmfgbcmklaa
open Go.RowKit
set_option linter.unusedVariables false
set_option linter.unusedSimpArgs false

theorem sh_zero (f : Nat → Tp) : sh f 0 = f := by funext k; unfold sh; rw [Nat.zero_add]
/-- a length by the products, and whether it is whole -/
def scV (f : Nat → Tp) (x t : Int) (k : Nat) : Int := t * (pN f x k : Int) / (pA f x k : Int)
def scB (f : Nat → Tp) (x t : Int) (k : Nat) : Bool := t * (pN f x k : Int) % (pA f x k : Int) == 0
theorem sc_lenE {f : Nat → Tp} {n : Nat} (h : Gd f n) {x t : Int} (t0 : 0 ≤ t) (t1 : t ≤ 7741440) : scB f x t n = (lenE f n x t == 0) := by
  obtain ⟨n1, n2, a1, a2⟩ := p_bd h x (Nat.le_refl n)
  obtain ⟨T, rfl⟩ := Int.eq_ofNat_of_zero_le t0
  have hw := red_whole (t := T) n1 a1
  rw [← rat_eq h.rg] at hw
  unfold scB lenE
  rw [if_neg (by omega)]
  have e1 : ((T : Int) * (pN f x n : Int) % (pA f x n : Int)) = ((T * pN f x n % pA f x n : Nat) : Int) := by simp
  have e2 : ((T : Int) % ((rat f x n).2 : Int)) = ((T % (rat f x n).2 : Nat) : Int) := by simp
  rw [e1, e2]
  by_cases hz : T % (rat f x n).2 = 0
  · rw [hw.1 hz, hz]; rfl
  · have hz2 : ¬ T * pN f x n % pA f x n = 0 := fun h => hz (hw.2 h)
    rw [if_neg (by omega)]
    simp; omega
theorem sc_lenV {f : Nat → Tp} {n : Nat} (h : Gd f n) {x t : Int} (t0 : 0 ≤ t) (hE : lenE f n x t = 0) : scV f x t n = lenV f n x t := by
  obtain ⟨n1, n2, a1, a2⟩ := p_bd h x (Nat.le_refl n)
  obtain ⟨T, rfl⟩ := Int.eq_ofNat_of_zero_le t0
  have hz : T % (rat f x n).2 = 0 := by
    unfold lenE at hE
    split at hE
    · cases hE
    · split at hE
      · rename_i hz; exact_mod_cast hz
      · cases hE
  have hv := red_value (t := T) n1 a1 (by rw [← rat_eq h.rg]; exact hz)
  rw [← rat_eq h.rg] at hv
  unfold lenV scV
  rw [if_pos hE]
  exact_mod_cast hv.symm
theorem pow32 {p : Nat} (h : p ≤ 32768) {t : Int} (t0 : 0 ≤ t) (t1 : t ≤ 7741440) : 0 ≤ t * (p : Int) ∧ t * (p : Int) ≤ 253671505920 := by
  refine ⟨Int.mul_nonneg t0 (by omega), ?_⟩
  have : t * (p : Int) ≤ 7741440 * 32768 := Int.mul_le_mul t1 (by omega) (by omega) (by omega)
  omega
set_option maxRecDepth 100000 in
set_option maxHeartbeats 8000000 in
theorem scale_ok (f : Nat → Tp) (a m n cap : Nat) (ad : Option Addr) (x t : Int) (w : World) (hn : n = a + m) (hnb : n ≤ 1048576) (hg : Gd f n) (t0 : 0 ≤ t) (t1 : t ≤ 7741440) (h : TsAt w ad n f) :
    Calls Try.prog 29 #[.slice ad n cap, .int .i64 (a : Int), .int .i64 x, .int .i64 t] w fun e w' => e = .returned (.tuple #[.int .i64 (scV (sh f a) x t m), .bool (scB (sh f a) x t m)]) ∧ Below w.heap.size w w' := by
  have HT := Lib.hid h
  have HG := Lib.hid hg
  have HS := Lib.hid (Gd.sh (f := f) (a := a) (n := m) (by rw [← hn]; exact hg))
  have B0 := Lib.hid (Bel.refl w)
  have hn1 : a + m ≤ n := by omega
  have hn2 : n ≤ a + m := by omega
  clear h hg hn
  go_enter Try.func29, Try.ntmps29
  go_wp2_with fail
  go_loopg [12, 10, 11] m (fun gm i u v wr => ∃ k : Nat, k ≤ m ∧ gm = m - k ∧ i = .int .i64 ((a + k : Nat) : Int) ∧ u = .int .i64 (t * (pN (sh f a) x k : Int)) ∧ v = .int .i64 (pA (sh f a) x k : Int) ∧ Hid (Bel w wr))
  case atStart => exact ⟨0, by omega, by omega, rfl, by simp [pN], rfl, B0⟩
  case round =>
    clear B0
    obtain ⟨k, hk, rfl, rfl, rfl, rfl, B0⟩ := hrel
    obtain ⟨W0, hW0, B0⟩ : ∃ W0, W0 = _ ∧ Hid (Bel w W0) := ⟨_, rfl, B0⟩
    subst hW0
    obtain ⟨n1, n2, a1, a2⟩ := p_bd HS.out x hk
    obtain ⟨tp0, tp1⟩ := pow32 n2 t0 t1
    by_cases hlt : k < m
    · have hkd : decide (((a + k : Nat) : Int) < (n : Int)) = true := decide_eq_true (by omega)
      have hkd2 : decide ((a : Int) + (k : Int) < (n : Int)) = true := decide_eq_true (by omega)
      obtain ⟨bb, off, rfl, u0, u1, u2, u3⟩ := HT.out.up B0.out.out (a + k) (by omega)
      have hs := Lib.hid (HG.out.sm (a + k) (by omega))
      by_cases hx : (f (a + k)).has x
      · have hxd : decide ((f (a + k)).has x) = true := decide_eq_true hx
        have H2 := Lib.hid (pN_has (f := sh f a) (x := x) (k := k) hx)
        have H3 := Lib.hid (pA_has (f := sh f a) (x := x) (k := k) hx)
        obtain ⟨ra0, ra1, rn0, rn1⟩ := HG.out.rg (a + k) (by omega)
        have hnx := (p_bd HS.out x (show k + 1 ≤ m by omega)).2.1
        obtain ⟨na, hna⟩ := Int.eq_ofNat_of_zero_le (show 0 ≤ (f (a + k)).A by omega)
        obtain ⟨nn, hnn⟩ := Int.eq_ofNat_of_zero_le (show 0 ≤ (f (a + k)).N by omega)
        have H4 := Lib.hid (show (pN (sh f a) x (k + 1) : Int) = (pN (sh f a) x k : Int) * (f (a + k)).N by rw [H2.out, show sh f a k = f (a + k) from rfl, hnn]; simp)
        have H5 := Lib.hid (show (pA (sh f a) x (k + 1) : Int) = (pA (sh f a) x k : Int) * (f (a + k)).A by rw [H3.out, show sh f a k = f (a + k) from rfl, hna]; simp)
        have q1 := pow32 hnx t0 t1
        rw [H4.out, ← Int.mul_assoc] at q1
        obtain ⟨q1, q2⟩ := q1
        generalize hpk : pN (sh f a) x k = pk at *
        generalize hak : pA (sh f a) x k = ak at *
        have m2 : ak * na ≤ 32768 * 32 := Nat.mul_le_mul a2 (by omega)
        have e2 : (ak : Int) * (f (a + k)).A = ((ak * na : Nat) : Int) := by rw [hna]; simp
        have g3 : 0 ≤ (ak : Int) * (f (a + k)).A := by omega
        have g4 : (ak : Int) * (f (a + k)).A ≤ 1048576 := by omega
        have H6 := Lib.hid (show t * (pN (sh f a) x (k + 1) : Int) = t * (pk : Int) * (f (a + k)).N by rw [H4.out, Int.mul_assoc])
        clear e2 hna hnn hx H2 H3 hnx hpk hak
        go_wp2_with fail
        refine (in_ok (f (a + k)) x _ hs.out).mono ?_
        rintro e w1 ⟨rfl, hb⟩
        replace u0 := cell_up hb u0
        replace u1 := cell_up hb u1
        replace u2 := cell_up hb u2
        replace u3 := cell_up hb u3
        rw [hxd]
        have B1 := Lib.hid (B0.out.up hb)
        clear hb B0  
        go_wp2_with fail
        refine Qt.regionAll (by kernel_rfl) (by kernel_rfl) ?_
        intro T f_ F hne
        have RB := Lib.hid (fun g => B1.out.up (F.below g))
        have R_u0 := fun g => cell_up (F.below g) u0
        have R_u1 := fun g => cell_up (F.below g) u1
        have R_u2 := fun g => cell_up (F.below g) u2
        have R_u3 := fun g => cell_up (F.below g) u3
        repeat (go_big_quiet_step (fail))
        refine wpQuiet_nil ?_
        rintro _ ⟨gT, rfl⟩
        have B2 := Lib.hid (RB.out gT)
        have n_u0 := R_u0 gT
        have n_u1 := R_u1 gT
        have n_u2 := R_u2 gT
        have n_u3 := R_u3 gT
        clear F RB hne B1 R_u0 u0 R_u1 u1 R_u2 u2 R_u3 u3
        generalize f_ gT = w2 at *
        clear f_
        have u0 := n_u0
        clear n_u0
        have u1 := n_u1
        clear n_u1
        have u2 := n_u2
        clear n_u2
        have u3 := n_u3
        clear n_u3
        go_wp2_with fail
        go_roundg (m - (k + 1))
        case measure => omega
        case rel => exact ⟨k + 1, by omega, rfl, by go_num, by rw [H6.out], by rw [H5.out], B2⟩
      · have hxd : decide ((f (a + k)).has x) = false := decide_eq_false hx
        have H2 := Lib.hid (pN_not (f := sh f a) (x := x) (k := k) hx)
        have H3 := Lib.hid (pA_not (f := sh f a) (x := x) (k := k) hx)
        clear hx
        generalize hpk : pN (sh f a) x k = pk at *
        generalize hak : pA (sh f a) x k = ak at *
        go_wp2_with fail
        refine (in_ok (f (a + k)) x _ hs.out).mono ?_
        rintro e w1 ⟨rfl, hb⟩
        replace u0 := cell_up hb u0
        replace u1 := cell_up hb u1
        replace u2 := cell_up hb u2
        replace u3 := cell_up hb u3
        rw [hxd]
        have B1 := Lib.hid (B0.out.up hb)
        clear hb B0  
        go_wp2_with fail
        go_roundg (m - (k + 1))
        case measure => omega
        case rel => exact ⟨k + 1, by omega, rfl, by go_num, by rw [H2.out], by rw [H3.out], B1⟩
    · obtain rfl : k = m := by omega
      have hkd : decide (((a + k : Nat) : Int) < (n : Int)) = false := decide_eq_false (by omega)
      have hkd2 : decide ((a : Int) + (k : Int) < (n : Int)) = false := decide_eq_false (by omega)
      have HV := Lib.hid (show scV (sh f a) x t k = t * (pN (sh f a) x k : Int) / (pA (sh f a) x k : Int) from rfl)
      have HB := Lib.hid (show scB (sh f a) x t k = (t * (pN (sh f a) x k : Int) % (pA (sh f a) x k : Int) == 0) from rfl)
      generalize pN (sh f a) x k = pk at *
      generalize pA (sh f a) x k = ak at *
      have h1 : ((ak : Int) == 0) = false := by simp; omega
      have h2 : ((ak : Int) != 0) = true := by simp; omega
      have h3 : (1 : Int) ≤ ak := by omega
      have h4 : (t * (pk : Int)).tmod (ak : Int) = t * (pk : Int) % (ak : Int) := Int.tmod_eq_emod_of_nonneg tp0
      have h5 : (t * (pk : Int)).tdiv (ak : Int) = t * (pk : Int) / (ak : Int) := Int.tdiv_eq_ediv_of_nonneg tp0
      have h6 : 0 ≤ t * (pk : Int) / (ak : Int) := Int.ediv_nonneg tp0 (by omega)
      have h7 : t * (pk : Int) / (ak : Int) ≤ t * (pk : Int) := Int.ediv_le_self _ tp0
      go_wp2_with fail
      refine Qt.regionAll (by kernel_rfl) (by kernel_rfl) ?_
      intro T f_ F hne
      have RB := Lib.hid (fun g => B0.out.up (F.below g))
      repeat (go_big_quiet_step (fail))
      refine wpQuiet_nil ?_
      rintro _ ⟨gT, rfl⟩
      have B1 := Lib.hid (RB.out gT)
      clear F RB hne B0
      generalize f_ gT = w1 at *
      clear f_
      go_wp2_with fail
      go_ret2
      exact ⟨by rw [HV.out, HB.out]; rfl, B1.out.out⟩
end Go.Proofs.Ytidggmfgbcmklaa
