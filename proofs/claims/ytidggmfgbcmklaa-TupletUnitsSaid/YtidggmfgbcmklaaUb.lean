/- Tuplets: within. -/
import Derived.Test.YtidggmfgbcmklaaUa
namespace Go.Proofs.Ytidggmfgbcmklaa
open Go.RowKit
set_option linter.unusedVariables false
set_option linter.unusedSimpArgs false

set_option maxRecDepth 100000 in
set_option maxHeartbeats 8000000 in
theorem within_all (h : Nat → Tp) (m cap : Nat) (ad : Option Addr) (g : Nat → Int) (K cap2 : Nat) (aw : Option Addr) (t : Tp) (w : World) (hm : m ≤ 1048576) (hg : Gd h m) (hT : TsAt w ad m h) (hI : IsAt w aw K g) (hK : K ≤ 130) (hs : Sm t) (hK2 : t.F + t.C ≤ (K : Int)) (hr : ∀ k, k < K → 0 ≤ g k ∧ g k ≤ 7741440) (hz : ∀ e, e < K → t.has e → lenE h m e (g e) = 0) :
    Calls Try.prog 48 #[.slice ad m cap, .slice aw K cap2, .agg #[.int .i64 t.F, .int .i64 t.C, .int .i64 t.A, .int .i64 t.N]] w fun e w' => e = .returned (.tuple #[.int .i64 (sumH (fun e => lenV h m e (g e)) t K), .bool true]) ∧ Below w.heap.size w w' := by
  have HT := Lib.hid hT
  have HI := Lib.hid hI
  have HG := Lib.hid hg
  have HS := Lib.hid hs
  have HR := Lib.hid hr
  have HZ := Lib.hid hz
  obtain ⟨F0, hF0⟩ := Int.eq_ofNat_of_zero_le hs.f0
  obtain ⟨C0, hC0⟩ := Int.eq_ofNat_of_zero_le (show 0 ≤ t.C by have := hs.c0; omega)
  have hc1 := hs.c0
  have he1 := hs.e1
  have hF1 : t.F ≤ (F0 : Int) := by omega
  have hF2 : (F0 : Int) ≤ t.F := by omega
  have hC1 : t.C ≤ (C0 : Int) := by omega
  have hC2 : (C0 : Int) ≤ t.C := by omega
  clear hT hI hg hs hr hz hF0 hC0
  have B0 := Lib.hid ((Bel.refl w).alloc (.cells #[.int .i64 t.F, .int .i64 t.C, .int .i64 t.A, .int .i64 t.N] 52))
  have X0 := Quad.new w (.int .i64 t.F) (.int .i64 t.C) (.int .i64 t.A) (.int .i64 t.N) 52 (w.heap.size) (by simp)
  go_enter Try.func48, Try.ntmps48
  obtain ⟨xf0, xf1, xf2, xf3, xf4, xf5, xf6, xf7, xf8⟩ := id X0
  go_wp2_with fail
  go_loopg [9, 8] C0 (fun gm i u wr => ∃ k : Nat, k ≤ C0 ∧ gm = C0 - k ∧ i = .int .i64 ((F0 + k : Nat) : Int) ∧ u = .int .i64 (sumH (fun e => lenV h m e (g e)) t (F0 + k)) ∧ Hid (Bel w wr) ∧ Quad wr w.heap.size (.int .i64 t.F) (.int .i64 t.C) (.int .i64 t.A) (.int .i64 t.N))
  case atStart => exact ⟨0, by omega, by omega, by congr 1; omega, by rw [show F0 + 0 = F0 from rfl, sumH_low F0 (by omega)], B0, X0⟩
  case round =>
    clear B0 X0
    obtain ⟨k, hk, rfl, rfl, rfl, B0, X0⟩ := hrel
    obtain ⟨W0, hW0, B0, X0⟩ : ∃ W0, W0 = _ ∧ Hid (Bel w W0) ∧ Quad W0 w.heap.size (.int .i64 t.F) (.int .i64 t.C) (.int .i64 t.A) (.int .i64 t.N) := ⟨_, rfl, B0, X0⟩
    subst hW0
    by_cases hlt : k < C0
    · have hze : lenE h m ((F0 + k : Nat) : Int) (g (F0 + k)) = 0 := HZ.out (F0 + k) (by omega) (by unfold Tp.has; omega)
      have hkK : F0 + k < K := by omega
      have hkC : ((F0 + k : Nat) : Int) < t.F + t.C := by omega
      have hkd : decide (((F0 + k : Nat) : Int) < t.F + t.C) = true := decide_eq_true hkC
      have hkd2 : decide ((F0 : Int) + (k : Int) < t.F + t.C) = true := decide_eq_true (by omega)
      have hhas : t.has ((F0 + k : Nat) : Int) := by unfold Tp.has; omega
      obtain ⟨bw, ow, rfl, q0⟩ := HI.out.up B0.out.out (F0 + k) hkK
      obtain ⟨t0, t1⟩ := HR.out (F0 + k) hkK
      obtain ⟨p1, p2, p3, p4⟩ := rat_bd HG.out ((F0 + k : Nat) : Int) (Nat.le_refl m)
      have HSX := Lib.hid (sumH_has (v := fun e => lenV h m e (g e)) hhas)
      have hvv := lenV_bd HG.out (x := ((F0 + k : Nat) : Int)) (t := g (F0 + k))
      have hsb := sumH_bd (v := fun e => lenV h m e (g e)) (t := t) (c := 253671505920) (by omega) K (fun e _ _ => lenV_bd HG.out) (F0 + k) (by omega)
      have hLV : lenV h m ((F0 + k : Nat) : Int) (g (F0 + k)) = g (F0 + k) / ((rat h ((F0 + k : Nat) : Int) m).2 : Int) * ((rat h ((F0 + k : Nat) : Int) m).1 : Int) := by unfold lenV; rw [if_pos hze]
      have hz : g (F0 + k) % ((rat h ((F0 + k : Nat) : Int) m).2 : Int) = 0 := by
        unfold lenE at hze
        rw [if_neg (by omega)] at hze
        split at hze
        · assumption
        · cases hze
      try simp only at HSX
      rw [hLV] at HSX hvv
      obtain ⟨⟨p, q⟩, hP⟩ : ∃ P, rat h ((F0 + k : Nat) : Int) m = P := ⟨_, rfl⟩
      rw [hP] at p1 p2 p3 p4 HSX hvv hz
      have HU := Lib.hid (show ∀ (u : World) (y : Int), y = ((F0 + k : Nat) : Int) → TsAt u ad m h → Calls Try.prog 44 #[.slice ad m cap, .int .i64 y] u fun e w' => e = .returned (.agg #[.int .i64 ((rat h ((F0 + k : Nat) : Int) m).1 : Int), .int .i64 ((rat h ((F0 + k : Nat) : Int) m).2 : Int)]) ∧ Below u.heap.size u w' from fun u y hy h2 => by subst hy; exact under_ok h m cap ad ((F0 + k : Nat) : Int) u hm HG.out h2)
      have hye := Lib.hid (show (F0 : Int) + (k : Int) = ((F0 + k : Nat) : Int) by simp)
      rw [hP] at HU
      simp only at p1 p2 p3 p4 HSX hvv hz
      clear hP hLV hze hhas
      generalize g (F0 + k) = gx at *
      obtain ⟨SS, hSS⟩ : ∃ SS, sumH (fun e => lenV h m e (g e)) t (F0 + k) = SS := ⟨_, rfl⟩
      rw [hSS] at HSX hsb ⊢
      clear hSS
      obtain ⟨hs0, hs1⟩ := hsb
      obtain ⟨hv0, hv1⟩ := hvv
      obtain ⟨xf0, xf1, xf2, xf3, xf4, xf5, xf6, xf7, xf8⟩ := id X0
      go_wp2_with fail
      clear xf0 xf1 xf2 xf3 xf4 xf5 xf6 xf7 xf8
      refine (end_ok t _ HS.out).mono ?_
      rintro e w1 ⟨rfl, hb⟩
      replace q0 := cell_up hb q0
      have B1 := Lib.hid (B0.out.up hb)
      have X1 := X0.up hb
      clear hb B0  X0
      obtain ⟨xf0, xf1, xf2, xf3, xf4, xf5, xf6, xf7, xf8⟩ := id X1
      go_wp2_with fail
      clear xf0 xf1 xf2 xf3 xf4 xf5 xf6 xf7 xf8
      refine Qt.regionAll (by kernel_rfl) (by kernel_rfl) ?_
      intro T f_ F hne
      have RB := Lib.hid (fun g => B1.out.up (F.below g))
      have RX := fun g => X1.up (F.below g)
      have RX0 := fun g => (RX g).c0
      have RX1 := fun g => (RX g).c1
      have RX2 := fun g => (RX g).c2
      have RX3 := fun g => (RX g).c3
      have R_q0 := fun g => cell_up (F.below g) q0
      repeat (go_big_quiet_step (first | (go_at_call 44; with_reducible exact F.call (HU.out _ _ hye.out (HT.out.up (RB.out _).out))) | (go_at_call 56; with_reducible exact F.call (of_y p q gx _ p3 (by omega) (by omega) t0 t1 hz (by omega)))))
      refine wpQuiet_nil ?_
      rintro _ ⟨gT, rfl⟩
      have B2 := Lib.hid (RB.out gT)
      have X2 := RX gT
      have n_q0 := R_q0 gT
      clear F RB hne RX RX0 RX1 RX2 RX3 B1 X1 R_q0 q0
      generalize f_ gT = w2 at *
      clear f_
      have q0 := n_q0
      clear n_q0
      obtain ⟨xf0, xf1, xf2, xf3, xf4, xf5, xf6, xf7, xf8⟩ := id X2
      go_wp2_with fail
      go_roundg (C0 - (k + 1))
      case measure => omega
      case rel => exact ⟨k + 1, by omega, rfl, by go_num, by rw [show F0 + (k + 1) = F0 + k + 1 by omega, HSX.out], B2, X2⟩
    · have hkd : decide (((F0 + k : Nat) : Int) < t.F + t.C) = false := decide_eq_false (by omega)
      have hkd2 : decide ((F0 : Int) + (k : Int) < t.F + t.C) = false := decide_eq_false (by omega)
      have HSX := Lib.hid (sumH_high (v := fun e => lenV h m e (g e)) (t := t) (F0 + k) (by omega) K (by omega))
      obtain ⟨xf0, xf1, xf2, xf3, xf4, xf5, xf6, xf7, xf8⟩ := id X0
      go_wp2_with fail
      clear xf0 xf1 xf2 xf3 xf4 xf5 xf6 xf7 xf8
      refine (end_ok t _ HS.out).mono ?_
      rintro e w1 ⟨rfl, hb⟩
      have B1 := Lib.hid (B0.out.up hb)
      have X1 := X0.up hb
      clear hb B0  X0
      obtain ⟨xf0, xf1, xf2, xf3, xf4, xf5, xf6, xf7, xf8⟩ := id X1
      go_wp2_with fail
      go_ret2
      exact ⟨by rw [HSX.out]; rfl, B1.out.out⟩
set_option maxRecDepth 100000 in
set_option maxHeartbeats 8000000 in
theorem within_bad (h : Nat → Tp) (m cap : Nat) (ad : Option Addr) (g : Nat → Int) (K cap2 : Nat) (aw : Option Addr) (t : Tp) (w : World) (hm : m ≤ 1048576) (hg : Gd h m) (hT : TsAt w ad m h) (hI : IsAt w aw K g) (hK : K ≤ 130) (hs : Sm t) (hK2 : t.F + t.C ≤ (K : Int)) (hr : ∀ k, k < K → 0 ≤ g k ∧ g k ≤ 7741440) (z : Nat) (hzK : z < K) (hzx : t.has z) (hzn : lenE h m z (g z) ≠ 0) (hz : ∀ e, e < z → t.has e → lenE h m e (g e) = 0) :
    Calls Try.prog 48 #[.slice ad m cap, .slice aw K cap2, .agg #[.int .i64 t.F, .int .i64 t.C, .int .i64 t.A, .int .i64 t.N]] w fun e w' => e = .returned (.tuple #[.int .i64 0, .bool false]) ∧ Below w.heap.size w w' := by
  have HT := Lib.hid hT
  have HI := Lib.hid hI
  have HG := Lib.hid hg
  have HS := Lib.hid hs
  have HR := Lib.hid hr
  have HZ := Lib.hid hz
  have HZX := Lib.hid hzx
  have HZN := Lib.hid hzn
  clear hzx hzn
  obtain ⟨F0, hF0⟩ := Int.eq_ofNat_of_zero_le hs.f0
  obtain ⟨C0, hC0⟩ := Int.eq_ofNat_of_zero_le (show 0 ≤ t.C by have := hs.c0; omega)
  have hc1 := hs.c0
  have he1 := hs.e1
  have hF1 : t.F ≤ (F0 : Int) := by omega
  have hF2 : (F0 : Int) ≤ t.F := by omega
  have hC1 : t.C ≤ (C0 : Int) := by omega
  have hC2 : (C0 : Int) ≤ t.C := by omega
  clear hT hI hg hs hr hz hF0 hC0
  have B0 := Lib.hid ((Bel.refl w).alloc (.cells #[.int .i64 t.F, .int .i64 t.C, .int .i64 t.A, .int .i64 t.N] 52))
  have X0 := Quad.new w (.int .i64 t.F) (.int .i64 t.C) (.int .i64 t.A) (.int .i64 t.N) 52 (w.heap.size) (by simp)
  go_enter Try.func48, Try.ntmps48
  obtain ⟨xf0, xf1, xf2, xf3, xf4, xf5, xf6, xf7, xf8⟩ := id X0
  go_wp2_with fail
  go_loopg [9, 8] C0 (fun gm i u wr => ∃ k : Nat, F0 + k ≤ z ∧ gm = C0 - k ∧ i = .int .i64 ((F0 + k : Nat) : Int) ∧ u = .int .i64 (sumH (fun e => lenV h m e (g e)) t (F0 + k)) ∧ Hid (Bel w wr) ∧ Quad wr w.heap.size (.int .i64 t.F) (.int .i64 t.C) (.int .i64 t.A) (.int .i64 t.N))
  case atStart => exact ⟨0, by have h1 := HZX.out.1; omega, by omega, by congr 1; omega, by rw [show F0 + 0 = F0 from rfl, sumH_low F0 (by omega)], B0, X0⟩
  case round =>
    clear B0 X0
    obtain ⟨k, hk, rfl, rfl, rfl, B0, X0⟩ := hrel
    obtain ⟨W0, hW0, B0, X0⟩ : ∃ W0, W0 = _ ∧ Hid (Bel w W0) ∧ Quad W0 w.heap.size (.int .i64 t.F) (.int .i64 t.C) (.int .i64 t.A) (.int .i64 t.N) := ⟨_, rfl, B0, X0⟩
    subst hW0
    by_cases hlt : F0 + k < z
    · have hzC := HZX.out.2
      have hze : lenE h m ((F0 + k : Nat) : Int) (g (F0 + k)) = 0 := HZ.out (F0 + k) hlt (by unfold Tp.has; omega)
      have hkK : F0 + k < K := by omega
      have hkC : ((F0 + k : Nat) : Int) < t.F + t.C := by omega
      have hkd : decide (((F0 + k : Nat) : Int) < t.F + t.C) = true := decide_eq_true hkC
      have hkd2 : decide ((F0 : Int) + (k : Int) < t.F + t.C) = true := decide_eq_true (by omega)
      have hhas : t.has ((F0 + k : Nat) : Int) := by unfold Tp.has; omega
      obtain ⟨bw, ow, rfl, q0⟩ := HI.out.up B0.out.out (F0 + k) hkK
      obtain ⟨t0, t1⟩ := HR.out (F0 + k) hkK
      obtain ⟨p1, p2, p3, p4⟩ := rat_bd HG.out ((F0 + k : Nat) : Int) (Nat.le_refl m)
      have HSX := Lib.hid (sumH_has (v := fun e => lenV h m e (g e)) hhas)
      have hvv := lenV_bd HG.out (x := ((F0 + k : Nat) : Int)) (t := g (F0 + k))
      have hsb := sumH_bd (v := fun e => lenV h m e (g e)) (t := t) (c := 253671505920) (by omega) K (fun e _ _ => lenV_bd HG.out) (F0 + k) (by omega)
      have hLV : lenV h m ((F0 + k : Nat) : Int) (g (F0 + k)) = g (F0 + k) / ((rat h ((F0 + k : Nat) : Int) m).2 : Int) * ((rat h ((F0 + k : Nat) : Int) m).1 : Int) := by unfold lenV; rw [if_pos hze]
      have hz : g (F0 + k) % ((rat h ((F0 + k : Nat) : Int) m).2 : Int) = 0 := by
        unfold lenE at hze
        rw [if_neg (by omega)] at hze
        split at hze
        · assumption
        · cases hze
      try simp only at HSX
      rw [hLV] at HSX hvv
      obtain ⟨⟨p, q⟩, hP⟩ : ∃ P, rat h ((F0 + k : Nat) : Int) m = P := ⟨_, rfl⟩
      rw [hP] at p1 p2 p3 p4 HSX hvv hz
      have HU := Lib.hid (show ∀ (u : World) (y : Int), y = ((F0 + k : Nat) : Int) → TsAt u ad m h → Calls Try.prog 44 #[.slice ad m cap, .int .i64 y] u fun e w' => e = .returned (.agg #[.int .i64 ((rat h ((F0 + k : Nat) : Int) m).1 : Int), .int .i64 ((rat h ((F0 + k : Nat) : Int) m).2 : Int)]) ∧ Below u.heap.size u w' from fun u y hy h2 => by subst hy; exact under_ok h m cap ad ((F0 + k : Nat) : Int) u hm HG.out h2)
      have hye := Lib.hid (show (F0 : Int) + (k : Int) = ((F0 + k : Nat) : Int) by simp)
      rw [hP] at HU
      simp only at p1 p2 p3 p4 HSX hvv hz
      clear hP hLV hze hhas
      generalize g (F0 + k) = gx at *
      obtain ⟨SS, hSS⟩ : ∃ SS, sumH (fun e => lenV h m e (g e)) t (F0 + k) = SS := ⟨_, rfl⟩
      rw [hSS] at HSX hsb ⊢
      clear hSS
      obtain ⟨hs0, hs1⟩ := hsb
      obtain ⟨hv0, hv1⟩ := hvv
      obtain ⟨xf0, xf1, xf2, xf3, xf4, xf5, xf6, xf7, xf8⟩ := id X0
      go_wp2_with fail
      clear xf0 xf1 xf2 xf3 xf4 xf5 xf6 xf7 xf8
      refine (end_ok t _ HS.out).mono ?_
      rintro e w1 ⟨rfl, hb⟩
      replace q0 := cell_up hb q0
      have B1 := Lib.hid (B0.out.up hb)
      have X1 := X0.up hb
      clear hb B0  X0
      obtain ⟨xf0, xf1, xf2, xf3, xf4, xf5, xf6, xf7, xf8⟩ := id X1
      go_wp2_with fail
      clear xf0 xf1 xf2 xf3 xf4 xf5 xf6 xf7 xf8
      refine Qt.regionAll (by kernel_rfl) (by kernel_rfl) ?_
      intro T f_ F hne
      have RB := Lib.hid (fun g => B1.out.up (F.below g))
      have RX := fun g => X1.up (F.below g)
      have RX0 := fun g => (RX g).c0
      have RX1 := fun g => (RX g).c1
      have RX2 := fun g => (RX g).c2
      have RX3 := fun g => (RX g).c3
      have R_q0 := fun g => cell_up (F.below g) q0
      repeat (go_big_quiet_step (first | (go_at_call 44; with_reducible exact F.call (HU.out _ _ hye.out (HT.out.up (RB.out _).out))) | (go_at_call 56; with_reducible exact F.call (of_y p q gx _ p3 (by omega) (by omega) t0 t1 hz (by omega)))))
      refine wpQuiet_nil ?_
      rintro _ ⟨gT, rfl⟩
      have B2 := Lib.hid (RB.out gT)
      have X2 := RX gT
      have n_q0 := R_q0 gT
      clear F RB hne RX RX0 RX1 RX2 RX3 B1 X1 R_q0 q0
      generalize f_ gT = w2 at *
      clear f_
      have q0 := n_q0
      clear n_q0
      obtain ⟨xf0, xf1, xf2, xf3, xf4, xf5, xf6, xf7, xf8⟩ := id X2
      go_wp2_with fail
      go_roundg (C0 - (k + 1))
      case measure => omega
      case rel => exact ⟨k + 1, by omega, rfl, by go_num, by rw [show F0 + (k + 1) = F0 + k + 1 by omega, HSX.out], B2, X2⟩
    · have hzC := HZX.out.2
      have hkK : F0 + k < K := by omega
      have hkC : ((F0 + k : Nat) : Int) < t.F + t.C := by omega
      have hkd : decide (((F0 + k : Nat) : Int) < t.F + t.C) = true := decide_eq_true hkC
      have hkd2 : decide ((F0 : Int) + (k : Int) < t.F + t.C) = true := decide_eq_true (by omega)
      have hhas : t.has ((F0 + k : Nat) : Int) := by unfold Tp.has; omega
      obtain ⟨bw, ow, rfl, q0⟩ := HI.out.up B0.out.out (F0 + k) hkK
      obtain ⟨t0, t1⟩ := HR.out (F0 + k) hkK
      obtain ⟨p1, p2, p3, p4⟩ := rat_bd HG.out ((F0 + k : Nat) : Int) (Nat.le_refl m)
      have hz : ¬ g (F0 + k) % ((rat h ((F0 + k : Nat) : Int) m).2 : Int) = 0 := by
        intro h0
        exact HZN.out (by rw [show z = F0 + k by omega]; unfold lenE; rw [if_neg (by omega), if_pos h0])
      obtain ⟨⟨p, q⟩, hP⟩ : ∃ P, rat h ((F0 + k : Nat) : Int) m = P := ⟨_, rfl⟩
      rw [hP] at p1 p2 p3 p4 hz
      have HU := Lib.hid (show ∀ (u : World) (y : Int), y = ((F0 + k : Nat) : Int) → TsAt u ad m h → Calls Try.prog 44 #[.slice ad m cap, .int .i64 y] u fun e w' => e = .returned (.agg #[.int .i64 ((rat h ((F0 + k : Nat) : Int) m).1 : Int), .int .i64 ((rat h ((F0 + k : Nat) : Int) m).2 : Int)]) ∧ Below u.heap.size u w' from fun u y hy h2 => by subst hy; exact under_ok h m cap ad ((F0 + k : Nat) : Int) u hm HG.out h2)
      have hye := Lib.hid (show (F0 : Int) + (k : Int) = ((F0 + k : Nat) : Int) by simp)
      rw [hP] at HU
      simp only at p1 p2 p3 p4 hz
      clear hP hhas
      generalize g (F0 + k) = gx at *
      obtain ⟨xf0, xf1, xf2, xf3, xf4, xf5, xf6, xf7, xf8⟩ := id X0
      go_wp2_with fail
      clear xf0 xf1 xf2 xf3 xf4 xf5 xf6 xf7 xf8
      refine (end_ok t _ HS.out).mono ?_
      rintro e w1 ⟨rfl, hb⟩
      replace q0 := cell_up hb q0
      have B1 := Lib.hid (B0.out.up hb)
      have X1 := X0.up hb
      clear hb B0  X0
      obtain ⟨xf0, xf1, xf2, xf3, xf4, xf5, xf6, xf7, xf8⟩ := id X1
      go_wp2_with fail
      clear xf0 xf1 xf2 xf3 xf4 xf5 xf6 xf7 xf8
      refine Qt.regionAll (by kernel_rfl) (by kernel_rfl) ?_
      intro T f_ F hne
      have RB := Lib.hid (fun g => B1.out.up (F.below g))
      have RX := fun g => X1.up (F.below g)
      have RX0 := fun g => (RX g).c0
      have RX1 := fun g => (RX g).c1
      have RX2 := fun g => (RX g).c2
      have RX3 := fun g => (RX g).c3
      have R_q0 := fun g => cell_up (F.below g) q0
      repeat (go_big_quiet_step (first | (go_at_call 44; with_reducible exact F.call (HU.out _ _ hye.out (HT.out.up (RB.out _).out))) | (go_at_call 56; with_reducible exact F.call (of_n p q gx _ p3 (by omega) (by omega) t0 t1 hz))))
      refine wpQuiet_nil ?_
      rintro _ ⟨gT, rfl⟩
      have B2 := Lib.hid (RB.out gT)
      have X2 := RX gT
      have n_q0 := R_q0 gT
      clear F RB hne RX RX0 RX1 RX2 RX3 B1 X1 R_q0 q0
      generalize f_ gT = w2 at *
      clear f_
      have q0 := n_q0
      clear n_q0
      obtain ⟨xf0, xf1, xf2, xf3, xf4, xf5, xf6, xf7, xf8⟩ := id X2
      go_wp2_with fail
      go_ret2
      exact ⟨rfl, B2.out.out⟩
end Go.Proofs.Ytidggmfgbcmklaa
