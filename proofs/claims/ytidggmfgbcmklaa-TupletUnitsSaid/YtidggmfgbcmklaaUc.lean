/- Tuplets: the reference Unit, not whole. -/
import Derived.Test.YtidggmfgbcmklaaUb
namespace Go.Proofs.Ytidggmfgbcmklaa
open Go.RowKit
set_option linter.unusedVariables false
set_option linter.unusedSimpArgs false

theorem scale_a (f : Nat → Tp) (a m n cap : Nat) (ad : Option Addr) (x t y : Int) (w : World) (hy : y = (a : Int)) (hn : n = a + m) (hnb : n ≤ 1048576) (hg : Gd f n) (t0 : 0 ≤ t) (t1 : t ≤ 7741440) (h : TsAt w ad n f) :
    Calls Try.prog 29 #[.slice ad n cap, .int .i64 y, .int .i64 x, .int .i64 t] w fun e w' => e = .returned (.tuple #[.int .i64 (scV (sh f a) x t m), .bool (scB (sh f a) x t m)]) ∧ Below w.heap.size w w' := by
  subst hy; exact scale_ok f a m n cap ad x t w hn hnb hg t0 t1 h
theorem uu_bd (j : Nat) : 0 ≤ uu j ∧ uu j ≤ 3870720 := by
  unfold uu
  exact ⟨Int.ediv_nonneg (by omega) (Int.pow_nonneg (by omega)), Int.ediv_le_self _ (by omega)⟩
set_option maxRecDepth 100000 in
set_option maxHeartbeats 8000000 in
theorem runit_bad (f : Nat → Tp) (n cap : Nat) (ad : Option Addr) (g : Nat → Int) (K cap2 : Nat) (aw : Option Addr) (i : Nat) (w : World) (hn : n ≤ 1048576) (hg : Gd f n) (hi : i < n) (hT : TsAt w ad n f) (hI : IsAt w aw K g) (hK : K ≤ 130) (hr : ∀ k, k < K → 0 ≤ g k ∧ g k ≤ 7741440) (z : Nat) (hzK : z < K) (hzx : (f i).has z) (hzn : lenE (sh f (i + 1)) (n - (i + 1)) z (g z) ≠ 0) (hz : ∀ e, e < z → (f i).has e → lenE (sh f (i + 1)) (n - (i + 1)) e (g e) = 0) : Calls Try.prog 33 #[.slice ad n cap, .int .i64 (i : Int), .slice aw K cap2] w fun e w' => e = .returned (.tuple #[.int .i64 0, .bool false]) ∧ Below w.heap.size w w' := by
  have HT := Lib.hid hT
  have HI := Lib.hid hI
  have HG := Lib.hid hg
  have HGs := Lib.hid (Gd.sh (f := f) (a := i + 1) (n := n - (i + 1)) (by rw [show i + 1 + (n - (i + 1)) = n by omega]; exact hg))
  have HS := Lib.hid (hg.sm i hi)
  have HR := Lib.hid hr
  have HZ := Lib.hid hz
  have hin : (i : Int) < (n : Int) := by omega
  have hiy := Lib.hid (show (i : Int) + 1 = ((i + 1 : Nat) : Int) by simp)
  obtain ⟨a0, a1, _, _⟩ := hg.rg i hi
  have B0 := Lib.hid (Bel.refl w)
  have HZX := Lib.hid hzx
  have HZN := Lib.hid hzn
  clear hzx hzn
  obtain ⟨bt, ot, rfl, _⟩ := hT i hi
  clear hT hI hg hr hz
  go_enter Try.func33, Try.ntmps33
  go_wp2_with fail
  go_loopg [9, 8] K (fun gm y u wr => ∃ k : Nat, k ≤ z ∧ gm = K - k ∧ y = .int .i64 (k : Int) ∧ u = .int .i64 (sumH (fun e => lenV (sh f (i + 1)) (n - (i + 1)) e (g e)) (f i) k) ∧ Hid (Bel w wr))
  case atStart => exact ⟨0, by omega, by omega, rfl, rfl, B0⟩
  case round =>
    clear B0
    obtain ⟨k, hk, rfl, rfl, rfl, B0⟩ := hrel
    obtain ⟨W0, hW0, B0⟩ : ∃ W0, W0 = _ ∧ Hid (Bel w W0) := ⟨_, rfl, B0⟩
    subst hW0
    by_cases hlt : k < z
    · obtain ⟨b', o', e, u0, u1, u2, u3⟩ := HT.out.up B0.out.out i (by omega)
      cases e
      obtain ⟨bw, ow, rfl, q0⟩ := HI.out.up B0.out.out k (by omega)
      have hkd : decide ((k : Int) < (K : Int)) = true := decide_eq_true (by omega)
      obtain ⟨t0, t1⟩ := HR.out k (by omega)
      by_cases hx : (f i).has k
      · have hxd : decide ((f i).has k) = true := decide_eq_true hx
        have hze : lenE (sh f (i + 1)) (n - (i + 1)) (k : Int) (g k) = 0 := HZ.out k (by omega) hx
        have HSX := Lib.hid (sumH_has (v := fun e => lenV (sh f (i + 1)) (n - (i + 1)) e (g e)) hx)
        have hvv := lenV_bd HGs.out (x := (k : Int)) (t := g k)
        have hsb := sumH_bd (v := fun e => lenV (sh f (i + 1)) (n - (i + 1)) e (g e)) (t := f i) (c := 253671505920) (by omega) K (fun e _ _ => lenV_bd HGs.out) k (by omega)
        have hsv : scV (sh f (i + 1)) k (g k) (n - (i + 1)) = lenV (sh f (i + 1)) (n - (i + 1)) k (g k) := sc_lenV HGs.out t0 hze
        have hsb2 : scB (sh f (i + 1)) k (g k) (n - (i + 1)) = true := by rw [sc_lenE HGs.out t0 t1, hze]; rfl
        try simp only at HSX
        have HSC := Lib.hid (fun u (y : Int) (hy : y = ((i + 1 : Nat) : Int)) h2 => scale_a f (i + 1) (n - (i + 1)) n cap (some ⟨bt, ot, none⟩) k (g k) y u hy (by omega) hn HG.out t0 t1 h2)
        rw [hsv, hsb2] at HSC
        clear hze hx hsv hsb2
        generalize lenV (sh f (i + 1)) (n - (i + 1)) (k : Int) (g k) = V at *
        obtain ⟨SS, hSS⟩ : ∃ SS, sumH (fun e => lenV (sh f (i + 1)) (n - (i + 1)) e (g e)) (f i) k = SS := ⟨_, rfl⟩
        rw [hSS] at HSX hsb ⊢
        clear hSS
        obtain ⟨hs0, hs1⟩ := hsb
        obtain ⟨hv0, hv1⟩ := hvv
        go_wp2_with fail
        refine (in_ok (f i) k _ HS.out).mono ?_
        rintro e w1 ⟨rfl, hb⟩
        rw [hxd]
        have B1 := Lib.hid (B0.out.up hb)
        replace q0 := cell_up hb q0
        clear hb
        go_wp2_with fail
        refine (HSC.out _ _ hiy.out (HT.out.up B1.out.out)).mono ?_
        rintro e w2 ⟨rfl, hb⟩
        have B2 := Lib.hid (B1.out.up hb)
        clear hb
        go_wp2_with fail
        go_roundg (K - (k + 1))
        case measure => omega
        case rel => exact ⟨k + 1, by omega, rfl, by go_num, by rw [HSX.out], B2⟩
      · have hxd : decide ((f i).has k) = false := decide_eq_false hx
        have HSX := Lib.hid (sumH_not (v := fun e => lenV (sh f (i + 1)) (n - (i + 1)) e (g e)) hx)
        clear hx
        go_wp2_with fail
        refine (in_ok (f i) k _ HS.out).mono ?_
        rintro e w1 ⟨rfl, hb⟩
        rw [hxd]
        have B1 := Lib.hid (B0.out.up hb)
        replace q0 := cell_up hb q0
        clear hb
        go_wp2_with fail
        go_roundg (K - (k + 1))
        case measure => omega
        case rel => exact ⟨k + 1, by omega, rfl, by go_num, by rw [HSX.out], B1⟩
    · obtain rfl : k = z := by omega
      obtain ⟨b', o', e, u0, u1, u2, u3⟩ := HT.out.up B0.out.out i (by omega)
      cases e
      obtain ⟨bw, ow, rfl, q0⟩ := HI.out.up B0.out.out k (by omega)
      have hkd : decide ((k : Int) < (K : Int)) = true := decide_eq_true (by omega)
      obtain ⟨t0, t1⟩ := HR.out k (by omega)
      have hxd : decide ((f i).has k) = true := decide_eq_true HZX.out
      have hsb2 : scB (sh f (i + 1)) k (g k) (n - (i + 1)) = false := by rw [sc_lenE HGs.out t0 t1]; simpa using HZN.out
      have HSC := Lib.hid (fun u (y : Int) (hy : y = ((i + 1 : Nat) : Int)) h2 => scale_a f (i + 1) (n - (i + 1)) n cap (some ⟨bt, ot, none⟩) k (g k) y u hy (by omega) hn HG.out t0 t1 h2)
      rw [hsb2] at HSC
      clear hsb2
      generalize scV (sh f (i + 1)) k (g k) (n - (i + 1)) = V at *
      go_wp2_with fail
      refine (in_ok (f i) k _ HS.out).mono ?_
      rintro e w1 ⟨rfl, hb⟩
      rw [hxd]
      have B1 := Lib.hid (B0.out.up hb)
      replace q0 := cell_up hb q0
      clear hb
      go_wp2_with fail
      refine (HSC.out _ _ hiy.out (HT.out.up B1.out.out)).mono ?_
      rintro e w2 ⟨rfl, hb⟩
      have B2 := Lib.hid (B1.out.up hb)
      clear hb
      go_wp2_with fail
      go_ret2
      exact ⟨rfl, B2.out.out⟩
end Go.Proofs.Ytidggmfgbcmklaa
