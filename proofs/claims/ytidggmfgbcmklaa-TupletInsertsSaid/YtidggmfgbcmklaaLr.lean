/- Tuplets: law Ratios. -/
import Derived.Test.YtidggmfgbcmklaaTz
namespace Go.Proofs.Ytidggmfgbcmklaa
open Go.RowKit
set_option linter.unusedVariables false
set_option linter.unusedSimpArgs false

theorem pN_has {f : Nat → Tp} {x : Int} {k : Nat} (h : (f k).has x) : pN f x (k + 1) = pN f x k * (f k).N.toNat := if_pos h
theorem pN_not {f : Nat → Tp} {x : Int} {k : Nat} (h : ¬ (f k).has x) : pN f x (k + 1) = pN f x k := if_neg h
theorem pA_has {f : Nat → Tp} {x : Int} {k : Nat} (h : (f k).has x) : pA f x (k + 1) = pA f x k * (f k).A.toNat := if_pos h
theorem pA_not {f : Nat → Tp} {x : Int} {k : Nat} (h : ¬ (f k).has x) : pA f x (k + 1) = pA f x k := if_neg h
theorem p_bd {f : Nat → Tp} {n : Nat} (h : Gd f n) (x : Int) {k : Nat} (hk : k ≤ n) : 1 ≤ pN f x k ∧ pN f x k ≤ 32768 ∧ 1 ≤ pA f x k ∧ pA f x k ≤ 32768 := by
  have hr := h.rg.le hk
  have hc := pow_bd (Nat.le_trans (cnt_le hk) (h.ct x))
  obtain ⟨a1, a2⟩ := pN_bd (x := x) hr
  obtain ⟨b1, b2⟩ := pA_bd (x := x) hr
  omega
theorem rat_cross {f : Nat → Tp} {n : Nat} (h : Gd f n) (x : Int) : ((rat f x n).1 : Int) * (pA f x n : Int) = ((rat f x n).2 : Int) * (pN f x n : Int) := by
  rw [rat_eq h.rg]
  exact_mod_cast red_cross (a := pN f x n) (b := pA f x n)
theorem rat_coprime {f : Nat → Tp} {n : Nat} (h : Gd f n) (x : Int) : Nat.gcd (rat f x n).1 (rat f x n).2 = 1 := by
  rw [rat_eq h.rg]
  exact red_coprime (p_bd h x (Nat.le_refl n)).1
set_option maxRecDepth 100000 in
set_option maxHeartbeats 2000000 in
theorem ratios_n_a (f : Nat → Tp) (n cap : Nat) (ad : Option Addr) (x : Int) (w : World) (hc : n ≤ cap) (h : TsAt w ad n f) (hle : n ≤ 20) (E : Int) (hE : chk f n 128 = E) (h0 : E ≠ 0) :
    Calls Try.prog 5 #[.slice ad n cap, .int .i64 x] w fun e w' => e = .returned (.bool true) ∧ Below w.heap.size w w' := by
  have hA : (n : Int) ≤ 20 := by omega
  have hT := h
  have hbd := chk_bd f n 128
  rw [hE] at hbd
  have HR := Lib.hid (fun ad2 cap2 u (h : TsAt u ad2 n f) => rcheck_ok f n cap2 ad2 128 u h)
  rw [hE] at HR
  have he1 : (E != 0) = true := by simpa using h0
  have he2 : (E == 0) = false := by simpa using h0
  have HN := Lib.hid h0
  have HE := Lib.hid hE
  clear hE h0
  have B0 := Lib.hid (Bel.refl w)
  have T0 := Lib.hid (Lib.hid hT).out
  clear h hT
  go_enter Try.func5, Try.ntmps5
  go_wp2_with fail
  refine (to_ok f n cap ad _ (by omega) T0.out).mono ?_
  rintro e w1 ⟨ad2, cap2, rfl, hb, hU⟩
  replace hU := Lib.hid hU
  have B1 := Lib.hid (B0.out.up hb)
  have T1 := Lib.hid (T0.out.up hb)
  clear hb B0 T0 
  go_wp2_with fail
  refine (depth_n f n cap ad x E _ T1.out HE.out HN.out).mono ?_
  rintro e w2 ⟨rfl, hb⟩
  replace hU := Lib.hid (hU.out.up hb)
  have B2 := Lib.hid (B1.out.up hb)
  have T2 := Lib.hid (T1.out.up hb)
  clear hb B1 T1 
  go_wp2_with fail
  refine (ratio_n f n cap ad x E _ T2.out HE.out HN.out).mono ?_
  rintro e w3 ⟨rfl, hb⟩
  replace hU := Lib.hid (hU.out.up hb)
  have B3 := Lib.hid (B2.out.up hb)
  have T3 := Lib.hid (T2.out.up hb)
  clear hb B2 T2 
  go_wp2_with fail
  refine (known_ok _).mono ?_
  rintro e w4 ⟨rfl, hb⟩
  replace hU := Lib.hid (hU.out.up hb)
  have B4 := Lib.hid (B3.out.up hb)
  have T4 := Lib.hid (T3.out.up hb)
  clear hb B3 T3 
  go_wp2_with fail
  refine (HR.out ad2 cap2 _ hU.out).mono ?_
  rintro e w5 ⟨rfl, hb⟩
  have B5 := Lib.hid (B4.out.up hb)
  have T5 := Lib.hid (T4.out.up hb)
  clear hb B4 T4 
  go_wp2_with fail
  go_ret
  exact ⟨rfl, B5.out.out⟩
set_option maxRecDepth 100000 in
set_option maxHeartbeats 2000000 in
theorem ratios_y_a (f : Nat → Tp) (n cap : Nat) (ad : Option Addr) (x : Int) (w : World) (hc : n ≤ cap) (h : TsAt w ad n f) (hle : n ≤ 20) (hE : chk f n 128 = 0) :
    Calls Try.prog 5 #[.slice ad n cap, .int .i64 x] w fun e w' => e = .returned (.bool true) ∧ Below w.heap.size w w' := by
  have hA : (n : Int) ≤ 20 := by omega
  have hT := h
  have HR := Lib.hid (fun ad2 cap2 u (h : TsAt u ad2 n f) => rcheck_ok f n cap2 ad2 128 u h)
  rw [hE] at HR
  have HG := Lib.hid (Gd.chk hE)
  have HX := Lib.hid (rat_cross (Gd.chk hE) x)
  have HP := Lib.hid (rat_coprime (Gd.chk hE) x)
  have HB := Lib.hid (rat_bd (Gd.chk hE) x (Nat.le_refl n))
  have HE := Lib.hid hE
  clear hE
  have HD := Lib.hid (fun u h => depth_y f n cap ad x u h HE.out)
  have HQ := Lib.hid (fun u h => ratio_y f n cap ad x u h HE.out)
  obtain ⟨⟨rp, rq⟩, hR⟩ : ∃ R, rat f x n = R := ⟨_, rfl⟩
  rw [hR] at HX HP HB HQ
  simp only at HX HP HB HQ
  clear hR
  have B0 := Lib.hid (Bel.refl w)
  have T0 := Lib.hid (Lib.hid hT).out
  clear h hT
  go_enter Try.func5, Try.ntmps5
  go_wp2_with fail
  refine (to_ok f n cap ad _ (by omega) T0.out).mono ?_
  rintro e w1 ⟨ad2, cap2, rfl, hb, hU⟩
  replace hU := Lib.hid hU
  have B1 := Lib.hid (B0.out.up hb)
  have T1 := Lib.hid (T0.out.up hb)
  clear hb B0 T0 
  go_wp2_with fail
  refine (HD.out _ T1.out).mono ?_
  rintro e w2 ⟨rfl, hb⟩
  replace hU := Lib.hid (hU.out.up hb)
  have B2 := Lib.hid (B1.out.up hb)
  have T2 := Lib.hid (T1.out.up hb)
  clear hb B1 T1 
  go_wp2_with fail
  refine (HQ.out _ T2.out).mono ?_
  rintro e w3 ⟨rfl, hb⟩
  replace hU := Lib.hid (hU.out.up hb)
  have B3 := Lib.hid (B2.out.up hb)
  have T3 := Lib.hid (T2.out.up hb)
  clear hb B2 T2 
  go_wp2_with fail
  refine (known_ok _).mono ?_
  rintro e w4 ⟨rfl, hb⟩
  replace hU := Lib.hid (hU.out.up hb)
  have B4 := Lib.hid (B3.out.up hb)
  have T4 := Lib.hid (T3.out.up hb)
  clear hb B3 T3 
  go_wp2_with fail
  refine (HR.out ad2 cap2 _ hU.out).mono ?_
  rintro e w5 ⟨rfl, hb⟩
  replace hU := Lib.hid (hU.out.up hb)
  have B5 := Lib.hid (B4.out.up hb)
  have T5 := Lib.hid (T4.out.up hb)
  clear hb B4 T4 
  go_wp2_with fail
  clear T5
  go_loopg [12, 9, 10, 11] n (fun gm i d a b wr => ∃ k : Nat, k ≤ n ∧ gm = n - k ∧ i = .int .i64 (k : Int) ∧ d = .int .i64 (cnt f x k : Int) ∧ a = .int .i64 (pN f x k : Int) ∧ b = .int .i64 (pA f x k : Int) ∧ Hid (Bel w wr) ∧ Hid (TsAt wr ad2 n f))
  case atStart => exact ⟨0, by omega, by omega, rfl, rfl, rfl, rfl, B5, hU⟩
  case round =>
    clear B5 hU hA
    obtain ⟨k, hk, rfl, rfl, rfl, rfl, rfl, B0, U0⟩ := hrel
    obtain ⟨W0, hW0, B0, U0⟩ : ∃ W0, W0 = _ ∧ Hid (Bel w W0) ∧ Hid (TsAt W0 ad2 n f) := ⟨_, rfl, B0, U0⟩
    subst hW0
    obtain ⟨n1, n2, a1, a2⟩ := p_bd HG.out x hk
    by_cases hlt : k < n
    · have hkd : decide ((k : Int) < (n : Int)) = true := decide_eq_true (by omega)
      obtain ⟨bb, off, rfl, u0, u1, u2, u3⟩ := U0.out k hlt
      have hs := Lib.hid (HG.out.sm k hlt)
      have hcb : cnt f x k ≤ 3 := Nat.le_trans (cnt_le (by omega)) (HG.out.ct x)
      by_cases hx : (f k).has x
      · have hxd : decide ((f k).has x) = true := decide_eq_true hx
        have H1 := Lib.hid (show cnt f x (k + 1) = cnt f x k + 1 from if_pos hx)
        have H2 := Lib.hid (pN_has hx)
        have H3 := Lib.hid (pA_has hx)
        obtain ⟨ra0, ra1, rn0, rn1⟩ := HG.out.rg k hlt
        obtain ⟨na, hna⟩ := Int.eq_ofNat_of_zero_le (show 0 ≤ (f k).A by omega)
        obtain ⟨nn, hnn⟩ := Int.eq_ofNat_of_zero_le (show 0 ≤ (f k).N by omega)
        generalize cnt f x k = ck at *
        generalize pN f x k = pk at *
        generalize pA f x k = ak at *
        have m1 : pk * nn ≤ 32768 * 32 := Nat.mul_le_mul n2 (by omega)
        have m2 : ak * na ≤ 32768 * 32 := Nat.mul_le_mul a2 (by omega)
        have e1 : (pk : Int) * (f k).N = ((pk * nn : Nat) : Int) := by rw [hnn]; simp
        have e2 : (ak : Int) * (f k).A = ((ak * na : Nat) : Int) := by rw [hna]; simp
        have g1 : 0 ≤ (pk : Int) * (f k).N := by omega
        have g2 : (pk : Int) * (f k).N ≤ 1048576 := by omega
        have g3 : 0 ≤ (ak : Int) * (f k).A := by omega
        have g4 : (ak : Int) * (f k).A ≤ 1048576 := by omega
        have H4 := Lib.hid (show (pN f x (k + 1) : Int) = (pk : Int) * (f k).N by rw [H2.out, e1, hnn]; simp)
        have H5 := Lib.hid (show (pA f x (k + 1) : Int) = (ak : Int) * (f k).A by rw [H3.out, e2, hna]; simp)
        clear e1 e2 hna hnn hx H2 H3
        go_wp2_with fail
        refine (in_ok (f k) x _ hs.out).mono ?_
        rintro e w1 ⟨rfl, hb⟩
        replace u0 := cell_up hb u0
        replace u1 := cell_up hb u1
        replace u2 := cell_up hb u2
        replace u3 := cell_up hb u3
        rw [hxd]
        have B1 := Lib.hid (B0.out.up hb)
        have U1 := Lib.hid (U0.out.up hb)
        clear hb B0 U0 
        go_wp2_with fail
        refine Qt.regionAll (by kernel_rfl) (by kernel_rfl) ?_
        intro T f_ F hne
        have RB := Lib.hid (fun g => B1.out.up (F.below g))
        have RU := Lib.hid (fun g => U1.out.up (F.below g))
        have R_u0 := fun g => cell_up (F.below g) u0
        have R_u1 := fun g => cell_up (F.below g) u1
        have R_u2 := fun g => cell_up (F.below g) u2
        have R_u3 := fun g => cell_up (F.below g) u3
        repeat (go_big_quiet_step (fail))
        refine wpQuiet_nil ?_
        rintro _ ⟨gT, rfl⟩
        have B2 := Lib.hid (RB.out gT)
        have U2 := Lib.hid (RU.out gT)
        have n_u0 := R_u0 gT
        have n_u1 := R_u1 gT
        have n_u2 := R_u2 gT
        have n_u3 := R_u3 gT
        clear F RB hne RU B1 U1 R_u0 u0 R_u1 u1 R_u2 u2 R_u3 u3
        generalize f_ gT = w2 at *
        clear f_
        have u0 := n_u0
        clear n_u0
        have u1 := n_u1
        clear n_u1
        have u2 := n_u2
        clear n_u2
        have u3 := n_u3
        clear n_u3
        go_wp2_with fail
        go_roundg (n - (k + 1))
        case measure => omega
        case rel => exact ⟨k + 1, by omega, rfl, by go_num, by rw [H1.out] <;> go_num, by rw [H4.out], by rw [H5.out], B2, U2⟩
      · have hxd : decide ((f k).has x) = false := decide_eq_false hx
        have H1 := Lib.hid (show cnt f x (k + 1) = cnt f x k from if_neg hx)
        have H2 := Lib.hid (pN_not hx)
        have H3 := Lib.hid (pA_not hx)
        clear hx
        generalize cnt f x k = ck at *
        generalize pN f x k = pk at *
        generalize pA f x k = ak at *
        go_wp2_with fail
        refine (in_ok (f k) x _ hs.out).mono ?_
        rintro e w1 ⟨rfl, hb⟩
        replace u0 := cell_up hb u0
        replace u1 := cell_up hb u1
        replace u2 := cell_up hb u2
        replace u3 := cell_up hb u3
        rw [hxd]
        have B1 := Lib.hid (B0.out.up hb)
        have U1 := Lib.hid (U0.out.up hb)
        clear hb B0 U0 
        go_wp2_with fail
        go_roundg (n - (k + 1))
        case measure => omega
        case rel => exact ⟨k + 1, by omega, rfl, by go_num, by rw [H1.out] <;> go_num, by rw [H2.out], by rw [H3.out], B1, U1⟩
    · have hkd : decide ((k : Int) < (n : Int)) = false := decide_eq_false (by omega)
      have hkM : k = n := by omega
      have hcM : cnt f x n = cnt f x k := by rw [hkM]
      have HXX : (rp : Int) * (pA f x k : Int) = (rq : Int) * (pN f x k : Int) := by rw [hkM]; exact HX.out
      obtain ⟨r1, r2, r3, r4⟩ := HB.out
      rw [hcM]
      generalize cnt f x k = ck at *
      generalize pN f x k = pk at *
      generalize pA f x k = ak at *
      have hm1 : ((rp : Int) * (ak : Int) != (rq : Int) * (pk : Int)) = false := by rw [HXX]; simp
      have hm2 : rp * ak ≤ 32768 * 32768 := Nat.mul_le_mul r2 a2
      have hm3 : rq * pk ≤ 32768 * 32768 := Nat.mul_le_mul r4 n2
      have hm4 : (rp : Int) * (ak : Int) = ((rp * ak : Nat) : Int) := by simp
      have hm5 : (rq : Int) * (pk : Int) = ((rq * pk : Nat) : Int) := by simp
      have g1 : 0 ≤ (rp : Int) * (ak : Int) := by omega
      have g2 : (rp : Int) * (ak : Int) ≤ 1073741824 := by omega
      have g3 : 0 ≤ (rq : Int) * (pk : Int) := by omega
      have g4 : (rq : Int) * (pk : Int) ≤ 1073741824 := by omega
      have hl1 : decide ((rp : Int) < 1) = false := decide_eq_false (by omega)
      have hl2 : decide ((rq : Int) < 1) = false := decide_eq_false (by omega)
      have hl3 : (rp == 0) = false := by simp; omega
      have hl4 : (rq == 0) = false := by simp; omega
      clear hm4 hm5 HXX hcM hkM
      go_wp2_with fail
      go_loopg [13, 14] rq (fun gy X Y wr => ∃ a b : Nat, b = gy ∧ X = .int .i64 (a : Int) ∧ Y = .int .i64 (b : Int) ∧ a ≤ 32768 ∧ b ≤ 32768 ∧ Hid (Nat.gcd a b = 1) ∧ Hid (Bel w wr))
      case atStart => exact ⟨rp, rq, rfl, rfl, rfl, r2, r4, HP, B0⟩
      case round =>
        clear B0 U0
        obtain ⟨a, b, rfl, rfl, rfl, ha, hb, hg, HB0⟩ := hrel
        obtain ⟨W0, hW0, B0⟩ : ∃ W0, W0 = _ ∧ Hid (Bel w W0) := ⟨_, rfl, HB0⟩
        subst hW0
        by_cases h0 : b = 0
        · subst h0
          obtain rfl : a = 1 := by have := hg.out; simpa using this
          go_wp2_with fail
          go_ret
          exact ⟨rfl, B0.out.out⟩
        · have q1 : ((b : Int) == 0) = false := by simp; omega
          have q2 : ((b : Int) != 0) = true := by simp; omega
          have q3 : (1 : Int) ≤ b := by omega
          have hlt2 : a % b < b := Nat.mod_lt _ (by omega)
          go_wp2_with fail
          refine Qt.regionAll (by kernel_rfl) (by kernel_rfl) ?_
          intro T f_ F hne
          have RB := Lib.hid (fun g => B0.out.up (F.below g))
          repeat (go_big_quiet_step (fail))
          refine wpQuiet_nil ?_
          rintro _ ⟨gT, rfl⟩
          have B1 := Lib.hid (RB.out gT)
          clear F RB hne B0
          generalize f_ gT = w1 at *
          clear f_
          go_wp2_with fail
          go_roundg (a % b)
          case measure => omega
          case rel => exact ⟨b, a % b, rfl, rfl, by simp, by omega, by omega, gcd_turn hg, B1⟩
set_option maxRecDepth 100000 in
set_option maxHeartbeats 2000000 in
theorem ratios_n_b (f : Nat → Tp) (n cap : Nat) (ad : Option Addr) (x : Int) (w : World) (hc : n ≤ cap) (h : TsAt w ad n f) (hle : 20 < n) (E : Int) (hE : chk f 20 128 = E) (h0 : E ≠ 0) :
    Calls Try.prog 5 #[.slice ad n cap, .int .i64 x] w fun e w' => e = .returned (.bool true) ∧ Below w.heap.size w w' := by
  have hA : ¬ (n : Int) ≤ 20 := by omega
  have hc2 : 20 ≤ cap := by omega
  have hT := h.le (show 20 ≤ n by omega)
  have hbd := chk_bd f 20 128
  rw [hE] at hbd
  have HR := Lib.hid (fun ad2 cap2 u (h : TsAt u ad2 20 f) => rcheck_ok f 20 cap2 ad2 128 u h)
  rw [hE] at HR
  have he1 : (E != 0) = true := by simpa using h0
  have he2 : (E == 0) = false := by simpa using h0
  have HN := Lib.hid h0
  have HE := Lib.hid hE
  clear hE h0
  have B0 := Lib.hid (Bel.refl w)
  have T0 := Lib.hid (Lib.hid hT).out
  clear h hT
  go_enter Try.func5, Try.ntmps5
  go_wp2_with fail
  refine (to_ok f 20 cap ad _ (by omega) T0.out).mono ?_
  rintro e w1 ⟨ad2, cap2, rfl, hb, hU⟩
  replace hU := Lib.hid hU
  have B1 := Lib.hid (B0.out.up hb)
  have T1 := Lib.hid (T0.out.up hb)
  clear hb B0 T0 
  go_wp2_with fail
  refine (depth_n f 20 cap ad x E _ T1.out HE.out HN.out).mono ?_
  rintro e w2 ⟨rfl, hb⟩
  replace hU := Lib.hid (hU.out.up hb)
  have B2 := Lib.hid (B1.out.up hb)
  have T2 := Lib.hid (T1.out.up hb)
  clear hb B1 T1 
  go_wp2_with fail
  refine (ratio_n f 20 cap ad x E _ T2.out HE.out HN.out).mono ?_
  rintro e w3 ⟨rfl, hb⟩
  replace hU := Lib.hid (hU.out.up hb)
  have B3 := Lib.hid (B2.out.up hb)
  have T3 := Lib.hid (T2.out.up hb)
  clear hb B2 T2 
  go_wp2_with fail
  refine (known_ok _).mono ?_
  rintro e w4 ⟨rfl, hb⟩
  replace hU := Lib.hid (hU.out.up hb)
  have B4 := Lib.hid (B3.out.up hb)
  have T4 := Lib.hid (T3.out.up hb)
  clear hb B3 T3 
  go_wp2_with fail
  refine (HR.out ad2 cap2 _ hU.out).mono ?_
  rintro e w5 ⟨rfl, hb⟩
  have B5 := Lib.hid (B4.out.up hb)
  have T5 := Lib.hid (T4.out.up hb)
  clear hb B4 T4 
  go_wp2_with fail
  go_ret
  exact ⟨rfl, B5.out.out⟩
set_option maxRecDepth 100000 in
set_option maxHeartbeats 2000000 in
theorem ratios_y_b (f : Nat → Tp) (n cap : Nat) (ad : Option Addr) (x : Int) (w : World) (hc : n ≤ cap) (h : TsAt w ad n f) (hle : 20 < n) (hE : chk f 20 128 = 0) :
    Calls Try.prog 5 #[.slice ad n cap, .int .i64 x] w fun e w' => e = .returned (.bool true) ∧ Below w.heap.size w w' := by
  have hA : ¬ (n : Int) ≤ 20 := by omega
  have hc2 : 20 ≤ cap := by omega
  have hT := h.le (show 20 ≤ n by omega)
  have HR := Lib.hid (fun ad2 cap2 u (h : TsAt u ad2 20 f) => rcheck_ok f 20 cap2 ad2 128 u h)
  rw [hE] at HR
  have HG := Lib.hid (Gd.chk hE)
  have HX := Lib.hid (rat_cross (Gd.chk hE) x)
  have HP := Lib.hid (rat_coprime (Gd.chk hE) x)
  have HB := Lib.hid (rat_bd (Gd.chk hE) x (Nat.le_refl 20))
  have HE := Lib.hid hE
  clear hE
  have HD := Lib.hid (fun u h => depth_y f 20 cap ad x u h HE.out)
  have HQ := Lib.hid (fun u h => ratio_y f 20 cap ad x u h HE.out)
  obtain ⟨⟨rp, rq⟩, hR⟩ : ∃ R, rat f x 20 = R := ⟨_, rfl⟩
  rw [hR] at HX HP HB HQ
  simp only at HX HP HB HQ
  clear hR
  have B0 := Lib.hid (Bel.refl w)
  have T0 := Lib.hid (Lib.hid hT).out
  clear h hT
  go_enter Try.func5, Try.ntmps5
  go_wp2_with fail
  refine (to_ok f 20 cap ad _ (by omega) T0.out).mono ?_
  rintro e w1 ⟨ad2, cap2, rfl, hb, hU⟩
  replace hU := Lib.hid hU
  have B1 := Lib.hid (B0.out.up hb)
  have T1 := Lib.hid (T0.out.up hb)
  clear hb B0 T0 
  go_wp2_with fail
  refine (HD.out _ T1.out).mono ?_
  rintro e w2 ⟨rfl, hb⟩
  replace hU := Lib.hid (hU.out.up hb)
  have B2 := Lib.hid (B1.out.up hb)
  have T2 := Lib.hid (T1.out.up hb)
  clear hb B1 T1 
  go_wp2_with fail
  refine (HQ.out _ T2.out).mono ?_
  rintro e w3 ⟨rfl, hb⟩
  replace hU := Lib.hid (hU.out.up hb)
  have B3 := Lib.hid (B2.out.up hb)
  have T3 := Lib.hid (T2.out.up hb)
  clear hb B2 T2 
  go_wp2_with fail
  refine (known_ok _).mono ?_
  rintro e w4 ⟨rfl, hb⟩
  replace hU := Lib.hid (hU.out.up hb)
  have B4 := Lib.hid (B3.out.up hb)
  have T4 := Lib.hid (T3.out.up hb)
  clear hb B3 T3 
  go_wp2_with fail
  refine (HR.out ad2 cap2 _ hU.out).mono ?_
  rintro e w5 ⟨rfl, hb⟩
  replace hU := Lib.hid (hU.out.up hb)
  have B5 := Lib.hid (B4.out.up hb)
  have T5 := Lib.hid (T4.out.up hb)
  clear hb B4 T4 
  go_wp2_with fail
  clear T5
  go_loopg [12, 9, 10, 11] 20 (fun gm i d a b wr => ∃ k : Nat, k ≤ 20 ∧ gm = 20 - k ∧ i = .int .i64 (k : Int) ∧ d = .int .i64 (cnt f x k : Int) ∧ a = .int .i64 (pN f x k : Int) ∧ b = .int .i64 (pA f x k : Int) ∧ Hid (Bel w wr) ∧ Hid (TsAt wr ad2 20 f))
  case atStart => exact ⟨0, by omega, by omega, rfl, rfl, rfl, rfl, B5, hU⟩
  case round =>
    clear B5 hU hA
    obtain ⟨k, hk, rfl, rfl, rfl, rfl, rfl, B0, U0⟩ := hrel
    obtain ⟨W0, hW0, B0, U0⟩ : ∃ W0, W0 = _ ∧ Hid (Bel w W0) ∧ Hid (TsAt W0 ad2 20 f) := ⟨_, rfl, B0, U0⟩
    subst hW0
    obtain ⟨n1, n2, a1, a2⟩ := p_bd HG.out x hk
    by_cases hlt : k < 20
    · have hkd : decide ((k : Int) < 20) = true := decide_eq_true (by omega)
      obtain ⟨bb, off, rfl, u0, u1, u2, u3⟩ := U0.out k hlt
      have hs := Lib.hid (HG.out.sm k hlt)
      have hcb : cnt f x k ≤ 3 := Nat.le_trans (cnt_le (by omega)) (HG.out.ct x)
      by_cases hx : (f k).has x
      · have hxd : decide ((f k).has x) = true := decide_eq_true hx
        have H1 := Lib.hid (show cnt f x (k + 1) = cnt f x k + 1 from if_pos hx)
        have H2 := Lib.hid (pN_has hx)
        have H3 := Lib.hid (pA_has hx)
        obtain ⟨ra0, ra1, rn0, rn1⟩ := HG.out.rg k hlt
        obtain ⟨na, hna⟩ := Int.eq_ofNat_of_zero_le (show 0 ≤ (f k).A by omega)
        obtain ⟨nn, hnn⟩ := Int.eq_ofNat_of_zero_le (show 0 ≤ (f k).N by omega)
        generalize cnt f x k = ck at *
        generalize pN f x k = pk at *
        generalize pA f x k = ak at *
        have m1 : pk * nn ≤ 32768 * 32 := Nat.mul_le_mul n2 (by omega)
        have m2 : ak * na ≤ 32768 * 32 := Nat.mul_le_mul a2 (by omega)
        have e1 : (pk : Int) * (f k).N = ((pk * nn : Nat) : Int) := by rw [hnn]; simp
        have e2 : (ak : Int) * (f k).A = ((ak * na : Nat) : Int) := by rw [hna]; simp
        have g1 : 0 ≤ (pk : Int) * (f k).N := by omega
        have g2 : (pk : Int) * (f k).N ≤ 1048576 := by omega
        have g3 : 0 ≤ (ak : Int) * (f k).A := by omega
        have g4 : (ak : Int) * (f k).A ≤ 1048576 := by omega
        have H4 := Lib.hid (show (pN f x (k + 1) : Int) = (pk : Int) * (f k).N by rw [H2.out, e1, hnn]; simp)
        have H5 := Lib.hid (show (pA f x (k + 1) : Int) = (ak : Int) * (f k).A by rw [H3.out, e2, hna]; simp)
        clear e1 e2 hna hnn hx H2 H3
        go_wp2_with fail
        refine (in_ok (f k) x _ hs.out).mono ?_
        rintro e w1 ⟨rfl, hb⟩
        replace u0 := cell_up hb u0
        replace u1 := cell_up hb u1
        replace u2 := cell_up hb u2
        replace u3 := cell_up hb u3
        rw [hxd]
        have B1 := Lib.hid (B0.out.up hb)
        have U1 := Lib.hid (U0.out.up hb)
        clear hb B0 U0 
        go_wp2_with fail
        refine Qt.regionAll (by kernel_rfl) (by kernel_rfl) ?_
        intro T f_ F hne
        have RB := Lib.hid (fun g => B1.out.up (F.below g))
        have RU := Lib.hid (fun g => U1.out.up (F.below g))
        have R_u0 := fun g => cell_up (F.below g) u0
        have R_u1 := fun g => cell_up (F.below g) u1
        have R_u2 := fun g => cell_up (F.below g) u2
        have R_u3 := fun g => cell_up (F.below g) u3
        repeat (go_big_quiet_step (fail))
        refine wpQuiet_nil ?_
        rintro _ ⟨gT, rfl⟩
        have B2 := Lib.hid (RB.out gT)
        have U2 := Lib.hid (RU.out gT)
        have n_u0 := R_u0 gT
        have n_u1 := R_u1 gT
        have n_u2 := R_u2 gT
        have n_u3 := R_u3 gT
        clear F RB hne RU B1 U1 R_u0 u0 R_u1 u1 R_u2 u2 R_u3 u3
        generalize f_ gT = w2 at *
        clear f_
        have u0 := n_u0
        clear n_u0
        have u1 := n_u1
        clear n_u1
        have u2 := n_u2
        clear n_u2
        have u3 := n_u3
        clear n_u3
        go_wp2_with fail
        go_roundg (20 - (k + 1))
        case measure => omega
        case rel => exact ⟨k + 1, by omega, rfl, by go_num, by rw [H1.out] <;> go_num, by rw [H4.out], by rw [H5.out], B2, U2⟩
      · have hxd : decide ((f k).has x) = false := decide_eq_false hx
        have H1 := Lib.hid (show cnt f x (k + 1) = cnt f x k from if_neg hx)
        have H2 := Lib.hid (pN_not hx)
        have H3 := Lib.hid (pA_not hx)
        clear hx
        generalize cnt f x k = ck at *
        generalize pN f x k = pk at *
        generalize pA f x k = ak at *
        go_wp2_with fail
        refine (in_ok (f k) x _ hs.out).mono ?_
        rintro e w1 ⟨rfl, hb⟩
        replace u0 := cell_up hb u0
        replace u1 := cell_up hb u1
        replace u2 := cell_up hb u2
        replace u3 := cell_up hb u3
        rw [hxd]
        have B1 := Lib.hid (B0.out.up hb)
        have U1 := Lib.hid (U0.out.up hb)
        clear hb B0 U0 
        go_wp2_with fail
        go_roundg (20 - (k + 1))
        case measure => omega
        case rel => exact ⟨k + 1, by omega, rfl, by go_num, by rw [H1.out] <;> go_num, by rw [H2.out], by rw [H3.out], B1, U1⟩
    · have hkd : decide ((k : Int) < 20) = false := decide_eq_false (by omega)
      have hkM : k = 20 := by omega
      have hcM : cnt f x 20 = cnt f x k := by rw [hkM]
      have HXX : (rp : Int) * (pA f x k : Int) = (rq : Int) * (pN f x k : Int) := by rw [hkM]; exact HX.out
      obtain ⟨r1, r2, r3, r4⟩ := HB.out
      rw [hcM]
      generalize cnt f x k = ck at *
      generalize pN f x k = pk at *
      generalize pA f x k = ak at *
      have hm1 : ((rp : Int) * (ak : Int) != (rq : Int) * (pk : Int)) = false := by rw [HXX]; simp
      have hm2 : rp * ak ≤ 32768 * 32768 := Nat.mul_le_mul r2 a2
      have hm3 : rq * pk ≤ 32768 * 32768 := Nat.mul_le_mul r4 n2
      have hm4 : (rp : Int) * (ak : Int) = ((rp * ak : Nat) : Int) := by simp
      have hm5 : (rq : Int) * (pk : Int) = ((rq * pk : Nat) : Int) := by simp
      have g1 : 0 ≤ (rp : Int) * (ak : Int) := by omega
      have g2 : (rp : Int) * (ak : Int) ≤ 1073741824 := by omega
      have g3 : 0 ≤ (rq : Int) * (pk : Int) := by omega
      have g4 : (rq : Int) * (pk : Int) ≤ 1073741824 := by omega
      have hl1 : decide ((rp : Int) < 1) = false := decide_eq_false (by omega)
      have hl2 : decide ((rq : Int) < 1) = false := decide_eq_false (by omega)
      have hl3 : (rp == 0) = false := by simp; omega
      have hl4 : (rq == 0) = false := by simp; omega
      clear hm4 hm5 HXX hcM hkM
      go_wp2_with fail
      go_loopg [13, 14] rq (fun gy X Y wr => ∃ a b : Nat, b = gy ∧ X = .int .i64 (a : Int) ∧ Y = .int .i64 (b : Int) ∧ a ≤ 32768 ∧ b ≤ 32768 ∧ Hid (Nat.gcd a b = 1) ∧ Hid (Bel w wr))
      case atStart => exact ⟨rp, rq, rfl, rfl, rfl, r2, r4, HP, B0⟩
      case round =>
        clear B0 U0
        obtain ⟨a, b, rfl, rfl, rfl, ha, hb, hg, HB0⟩ := hrel
        obtain ⟨W0, hW0, B0⟩ : ∃ W0, W0 = _ ∧ Hid (Bel w W0) := ⟨_, rfl, HB0⟩
        subst hW0
        by_cases h0 : b = 0
        · subst h0
          obtain rfl : a = 1 := by have := hg.out; simpa using this
          go_wp2_with fail
          go_ret
          exact ⟨rfl, B0.out.out⟩
        · have q1 : ((b : Int) == 0) = false := by simp; omega
          have q2 : ((b : Int) != 0) = true := by simp; omega
          have q3 : (1 : Int) ≤ b := by omega
          have hlt2 : a % b < b := Nat.mod_lt _ (by omega)
          go_wp2_with fail
          refine Qt.regionAll (by kernel_rfl) (by kernel_rfl) ?_
          intro T f_ F hne
          have RB := Lib.hid (fun g => B0.out.up (F.below g))
          repeat (go_big_quiet_step (fail))
          refine wpQuiet_nil ?_
          rintro _ ⟨gT, rfl⟩
          have B1 := Lib.hid (RB.out gT)
          clear F RB hne B0
          generalize f_ gT = w1 at *
          clear f_
          go_wp2_with fail
          go_roundg (a % b)
          case measure => omega
          case rel => exact ⟨b, a % b, rfl, rfl, by simp, by omega, by omega, gcd_turn hg, B1⟩
theorem law_TupletRatios (f : Nat → Tp) (n cap : Nat) (ad : Option Addr) (x : Int) (w : World) (hc : n ≤ cap) (h : TsAt w ad n f) (hb : -9223372036854775808 ≤ x ∧ x ≤ 9223372036854775807) : Calls Try.prog 5 #[.slice ad n cap, .int .i64 x] w fun e w' => e = .returned (.bool true) ∧ Below w.heap.size w w' := by
  by_cases hle : n ≤ 20
  · by_cases hE : chk f n 128 = 0
    · exact ratios_y_a f n cap ad x w hc h hle hE
    · exact ratios_n_a f n cap ad x w hc h hle _ rfl hE
  · by_cases hE : chk f 20 128 = 0
    · exact ratios_y_b f n cap ad x w hc h (by omega) hE
    · exact ratios_n_b f n cap ad x w hc h (by omega) _ rfl hE
end Go.Proofs.Ytidggmfgbcmklaa
