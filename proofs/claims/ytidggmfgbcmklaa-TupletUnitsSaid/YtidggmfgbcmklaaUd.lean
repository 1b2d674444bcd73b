/- Tuplets: the reference Unit. -/
import Derived.Test.YtidggmfgbcmklaaUc
namespace Go.Proofs.Ytidggmfgbcmklaa
open Go.RowKit
set_option linter.unusedVariables false
set_option linter.unusedSimpArgs false

set_option maxRecDepth 100000 in
set_option maxHeartbeats 8000000 in
theorem runit_y (f : Nat → Tp) (n cap : Nat) (ad : Option Addr) (g : Nat → Int) (K cap2 : Nat) (aw : Option Addr) (i : Nat) (w : World) (hn : n ≤ 1048576) (hg : Gd f n) (hi : i < n) (hT : TsAt w ad n f) (hI : IsAt w aw K g) (hK : K ≤ 130) (hr : ∀ k, k < K → 0 ≤ g k ∧ g k ≤ 7741440) (hz : ∀ e, e < K → (f i).has e → lenE (sh f (i + 1)) (n - (i + 1)) e (g e) = 0) (j : Nat) (hj10 : j < 10) (hj : uu j * (f i).A = sumH (fun e => lenV (sh f (i + 1)) (n - (i + 1)) e (g e)) (f i) K) (hl : ∀ q, q < j → uu q * (f i).A ≠ sumH (fun e => lenV (sh f (i + 1)) (n - (i + 1)) e (g e)) (f i) K) : Calls Try.prog 33 #[.slice ad n cap, .int .i64 (i : Int), .slice aw K cap2] w fun e w' => e = .returned (.tuple #[.int .i64 ((j : Int) - 1), .bool true]) ∧ Below w.heap.size w w' := by
  have HT := Lib.hid hT
  have HI := Lib.hid hI
  have HG := Lib.hid hg
  have HGs := Lib.hid (Gd.sh (f := f) (a := i + 1) (n := n - (i + 1)) (by rw [show i + 1 + (n - (i + 1)) = n by omega]; exact hg))
  have HS := Lib.hid (hg.sm i hi)
  have HR := Lib.hid hr
  have HZ := Lib.hid hz
  have hin : (i : Int) < (n : Int) := by omega
  have hiy := Lib.hid (show (i : Int) + 1 = ((i + 1 : Nat) : Int) by simp)
  obtain ⟨a0, a1, _, _⟩ := hg.rg i hi
  have B0 := Lib.hid (Bel.refl w)
  have HJ := Lib.hid hj
  have HL := Lib.hid hl
  clear hj hl
  obtain ⟨bt, ot, rfl, _⟩ := hT i hi
  clear hT hI hg hr hz
  go_enter Try.func33, Try.ntmps33
  go_wp2_with fail
  go_loopg [9, 8] K (fun gm y u wr => ∃ k : Nat, k ≤ K ∧ gm = K - k ∧ y = .int .i64 (k : Int) ∧ u = .int .i64 (sumH (fun e => lenV (sh f (i + 1)) (n - (i + 1)) e (g e)) (f i) k) ∧ Hid (Bel w wr))
  case atStart => exact ⟨0, by omega, by omega, rfl, rfl, B0⟩
  case round =>
    clear B0
    obtain ⟨k, hk, rfl, rfl, rfl, B0⟩ := hrel
    obtain ⟨W0, hW0, B0⟩ : ∃ W0, W0 = _ ∧ Hid (Bel w W0) := ⟨_, rfl, B0⟩
    subst hW0
    by_cases hlt : k < K
    · obtain ⟨b', o', e, u0, u1, u2, u3⟩ := HT.out.up B0.out.out i (by omega)
      cases e
      obtain ⟨bw, ow, rfl, q0⟩ := HI.out.up B0.out.out k (by omega)
      have hkd : decide ((k : Int) < (K : Int)) = true := decide_eq_true (by omega)
      obtain ⟨t0, t1⟩ := HR.out k (by omega)
      by_cases hx : (f i).has k
      · have hxd : decide ((f i).has k) = true := decide_eq_true hx
        have hze : lenE (sh f (i + 1)) (n - (i + 1)) (k : Int) (g k) = 0 := HZ.out k (by omega) hx
        have HSX := Lib.hid (sumH_has (v := fun e => lenV (sh f (i + 1)) (n - (i + 1)) e (g e)) hx)
        have hvv := lenV_bd HGs.out (x := (k : Int)) (t := g k)
        have hsb := sumH_bd (v := fun e => lenV (sh f (i + 1)) (n - (i + 1)) e (g e)) (t := f i) (c := 253671505920) (by omega) K (fun e _ _ => lenV_bd HGs.out) k (by omega)
        have hsv : scV (sh f (i + 1)) k (g k) (n - (i + 1)) = lenV (sh f (i + 1)) (n - (i + 1)) k (g k) := sc_lenV HGs.out t0 hze
        have hsb2 : scB (sh f (i + 1)) k (g k) (n - (i + 1)) = true := by rw [sc_lenE HGs.out t0 t1, hze]; rfl
        try simp only at HSX
        have HSC := Lib.hid (fun u (y : Int) (hy : y = ((i + 1 : Nat) : Int)) h2 => scale_a f (i + 1) (n - (i + 1)) n cap (some ⟨bt, ot, none⟩) k (g k) y u hy (by omega) hn HG.out t0 t1 h2)
        rw [hsv, hsb2] at HSC
        clear hze hx hsv hsb2
        generalize lenV (sh f (i + 1)) (n - (i + 1)) (k : Int) (g k) = V at *
        obtain ⟨SS, hSS⟩ : ∃ SS, sumH (fun e => lenV (sh f (i + 1)) (n - (i + 1)) e (g e)) (f i) k = SS := ⟨_, rfl⟩
        rw [hSS] at HSX hsb ⊢
        clear hSS
        obtain ⟨hs0, hs1⟩ := hsb
        obtain ⟨hv0, hv1⟩ := hvv
        go_wp2_with fail
        refine (in_ok (f i) k _ HS.out).mono ?_
        rintro e w1 ⟨rfl, hb⟩
        rw [hxd]
        have B1 := Lib.hid (B0.out.up hb)
        replace q0 := cell_up hb q0
        clear hb
        go_wp2_with fail
        refine (HSC.out _ _ hiy.out (HT.out.up B1.out.out)).mono ?_
        rintro e w2 ⟨rfl, hb⟩
        have B2 := Lib.hid (B1.out.up hb)
        clear hb
        go_wp2_with fail
        go_roundg (K - (k + 1))
        case measure => omega
        case rel => exact ⟨k + 1, by omega, rfl, by go_num, by rw [HSX.out], B2⟩
      · have hxd : decide ((f i).has k) = false := decide_eq_false hx
        have HSX := Lib.hid (sumH_not (v := fun e => lenV (sh f (i + 1)) (n - (i + 1)) e (g e)) hx)
        clear hx
        go_wp2_with fail
        refine (in_ok (f i) k _ HS.out).mono ?_
        rintro e w1 ⟨rfl, hb⟩
        rw [hxd]
        have B1 := Lib.hid (B0.out.up hb)
        replace q0 := cell_up hb q0
        clear hb
        go_wp2_with fail
        go_roundg (K - (k + 1))
        case measure => omega
        case rel => exact ⟨k + 1, by omega, rfl, by go_num, by rw [HSX.out], B1⟩
    · obtain rfl : k = K := by omega
      have hkd : decide ((k : Int) < (k : Int)) = false := decide_eq_false (by omega)
      obtain ⟨SS, hSS⟩ : ∃ SS, sumH (fun e => lenV (sh f (i + 1)) (n - (i + 1)) e (g e)) (f i) k = SS := ⟨_, rfl⟩
      rw [hSS] at HL ⊢
      rw [hSS] at HJ
      clear hSS
      generalize hA : (f i).A = A at *
      go_wp2_with fail
      go_loopg [13, 12] 10 (fun gm y z wr => ∃ q : Nat, q ≤ j ∧ gm = 10 - q ∧ y = .int .i64 ((q : Int) - 1) ∧ z = .int .i64 (uu q) ∧ Hid (Bel w wr))
      case atStart => exact ⟨0, by omega, by omega, by rfl, by rfl, B0⟩
      case round =>
        clear B0
        obtain ⟨q, hq, rfl, rfl, rfl, B0⟩ := hrel
        obtain ⟨W0, hW0, B0⟩ : ∃ W0, W0 = _ ∧ Hid (Bel w W0) := ⟨_, rfl, B0⟩
        subst hW0
        obtain ⟨b', o', e, u0, u1, u2, u3⟩ := HT.out.up B0.out.out i (by omega)
        cases e
        rw [hA] at u2
        by_cases hlt : q < j
        · have hne := HL.out q hlt
          rcases (show q = 0 ∨ q = 1 ∨ q = 2 ∨ q = 3 ∨ q = 4 ∨ q = 5 ∨ q = 6 ∨ q = 7 ∨ q = 8 ∨ q = 9 by omega) with rfl | rfl | rfl | rfl | rfl | rfl | rfl | rfl | rfl | rfl
          · have hu : uu 0 = 3870720 := by decide
            have hu1 : uu 1 = 1935360 := by decide
            rw [hu] at hne ⊢
            have hne2 : (SS == 3870720 * A) = false := by simpa using fun h => hne h.symm
            clear hne hu
            go_wp2_with fail
            go_roundg (10 - 1)
            case measure => omega
            case rel => exact ⟨1, by omega, rfl, by go_num, by rw [hu1], B0⟩
          · have hu : uu 1 = 1935360 := by decide
            have hu1 : uu 2 = 967680 := by decide
            rw [hu] at hne ⊢
            have hne2 : (SS == 1935360 * A) = false := by simpa using fun h => hne h.symm
            clear hne hu
            go_wp2_with fail
            go_roundg (10 - 2)
            case measure => omega
            case rel => exact ⟨2, by omega, rfl, by go_num, by rw [hu1], B0⟩
          · have hu : uu 2 = 967680 := by decide
            have hu1 : uu 3 = 483840 := by decide
            rw [hu] at hne ⊢
            have hne2 : (SS == 967680 * A) = false := by simpa using fun h => hne h.symm
            clear hne hu
            go_wp2_with fail
            go_roundg (10 - 3)
            case measure => omega
            case rel => exact ⟨3, by omega, rfl, by go_num, by rw [hu1], B0⟩
          · have hu : uu 3 = 483840 := by decide
            have hu1 : uu 4 = 241920 := by decide
            rw [hu] at hne ⊢
            have hne2 : (SS == 483840 * A) = false := by simpa using fun h => hne h.symm
            clear hne hu
            go_wp2_with fail
            go_roundg (10 - 4)
            case measure => omega
            case rel => exact ⟨4, by omega, rfl, by go_num, by rw [hu1], B0⟩
          · have hu : uu 4 = 241920 := by decide
            have hu1 : uu 5 = 120960 := by decide
            rw [hu] at hne ⊢
            have hne2 : (SS == 241920 * A) = false := by simpa using fun h => hne h.symm
            clear hne hu
            go_wp2_with fail
            go_roundg (10 - 5)
            case measure => omega
            case rel => exact ⟨5, by omega, rfl, by go_num, by rw [hu1], B0⟩
          · have hu : uu 5 = 120960 := by decide
            have hu1 : uu 6 = 60480 := by decide
            rw [hu] at hne ⊢
            have hne2 : (SS == 120960 * A) = false := by simpa using fun h => hne h.symm
            clear hne hu
            go_wp2_with fail
            go_roundg (10 - 6)
            case measure => omega
            case rel => exact ⟨6, by omega, rfl, by go_num, by rw [hu1], B0⟩
          · have hu : uu 6 = 60480 := by decide
            have hu1 : uu 7 = 30240 := by decide
            rw [hu] at hne ⊢
            have hne2 : (SS == 60480 * A) = false := by simpa using fun h => hne h.symm
            clear hne hu
            go_wp2_with fail
            go_roundg (10 - 7)
            case measure => omega
            case rel => exact ⟨7, by omega, rfl, by go_num, by rw [hu1], B0⟩
          · have hu : uu 7 = 30240 := by decide
            have hu1 : uu 8 = 15120 := by decide
            rw [hu] at hne ⊢
            have hne2 : (SS == 30240 * A) = false := by simpa using fun h => hne h.symm
            clear hne hu
            go_wp2_with fail
            go_roundg (10 - 8)
            case measure => omega
            case rel => exact ⟨8, by omega, rfl, by go_num, by rw [hu1], B0⟩
          · have hu : uu 8 = 15120 := by decide
            have hu1 : uu 9 = 7560 := by decide
            rw [hu] at hne ⊢
            have hne2 : (SS == 15120 * A) = false := by simpa using fun h => hne h.symm
            clear hne hu
            go_wp2_with fail
            go_roundg (10 - 9)
            case measure => omega
            case rel => exact ⟨9, by omega, rfl, by go_num, by rw [hu1], B0⟩
          · exact absurd hlt (by omega)
        · obtain rfl : q = j := by omega
          have heq := HJ.out
          rcases (show q = 0 ∨ q = 1 ∨ q = 2 ∨ q = 3 ∨ q = 4 ∨ q = 5 ∨ q = 6 ∨ q = 7 ∨ q = 8 ∨ q = 9 by omega) with rfl | rfl | rfl | rfl | rfl | rfl | rfl | rfl | rfl | rfl
          · have hu : uu 0 = 3870720 := by decide
            rw [hu] at heq ⊢
            have hne2 : (SS == 3870720 * A) = true := by simpa using heq.symm
            clear heq hu
            go_wp2_with fail
            go_ret2
            exact ⟨rfl, B0.out.out⟩
          · have hu : uu 1 = 1935360 := by decide
            rw [hu] at heq ⊢
            have hne2 : (SS == 1935360 * A) = true := by simpa using heq.symm
            clear heq hu
            go_wp2_with fail
            go_ret2
            exact ⟨rfl, B0.out.out⟩
          · have hu : uu 2 = 967680 := by decide
            rw [hu] at heq ⊢
            have hne2 : (SS == 967680 * A) = true := by simpa using heq.symm
            clear heq hu
            go_wp2_with fail
            go_ret2
            exact ⟨rfl, B0.out.out⟩
          · have hu : uu 3 = 483840 := by decide
            rw [hu] at heq ⊢
            have hne2 : (SS == 483840 * A) = true := by simpa using heq.symm
            clear heq hu
            go_wp2_with fail
            go_ret2
            exact ⟨rfl, B0.out.out⟩
          · have hu : uu 4 = 241920 := by decide
            rw [hu] at heq ⊢
            have hne2 : (SS == 241920 * A) = true := by simpa using heq.symm
            clear heq hu
            go_wp2_with fail
            go_ret2
            exact ⟨rfl, B0.out.out⟩
          · have hu : uu 5 = 120960 := by decide
            rw [hu] at heq ⊢
            have hne2 : (SS == 120960 * A) = true := by simpa using heq.symm
            clear heq hu
            go_wp2_with fail
            go_ret2
            exact ⟨rfl, B0.out.out⟩
          · have hu : uu 6 = 60480 := by decide
            rw [hu] at heq ⊢
            have hne2 : (SS == 60480 * A) = true := by simpa using heq.symm
            clear heq hu
            go_wp2_with fail
            go_ret2
            exact ⟨rfl, B0.out.out⟩
          · have hu : uu 7 = 30240 := by decide
            rw [hu] at heq ⊢
            have hne2 : (SS == 30240 * A) = true := by simpa using heq.symm
            clear heq hu
            go_wp2_with fail
            go_ret2
            exact ⟨rfl, B0.out.out⟩
          · have hu : uu 8 = 15120 := by decide
            rw [hu] at heq ⊢
            have hne2 : (SS == 15120 * A) = true := by simpa using heq.symm
            clear heq hu
            go_wp2_with fail
            go_ret2
            exact ⟨rfl, B0.out.out⟩
          · have hu : uu 9 = 7560 := by decide
            rw [hu] at heq ⊢
            have hne2 : (SS == 7560 * A) = true := by simpa using heq.symm
            clear heq hu
            go_wp2_with fail
            go_ret2
            exact ⟨rfl, B0.out.out⟩
set_option maxRecDepth 100000 in
set_option maxHeartbeats 8000000 in
theorem runit_n (f : Nat → Tp) (n cap : Nat) (ad : Option Addr) (g : Nat → Int) (K cap2 : Nat) (aw : Option Addr) (i : Nat) (w : World) (hn : n ≤ 1048576) (hg : Gd f n) (hi : i < n) (hT : TsAt w ad n f) (hI : IsAt w aw K g) (hK : K ≤ 130) (hr : ∀ k, k < K → 0 ≤ g k ∧ g k ≤ 7741440) (hz : ∀ e, e < K → (f i).has e → lenE (sh f (i + 1)) (n - (i + 1)) e (g e) = 0) (hl : ∀ q, q < 10 → uu q * (f i).A ≠ sumH (fun e => lenV (sh f (i + 1)) (n - (i + 1)) e (g e)) (f i) K) : Calls Try.prog 33 #[.slice ad n cap, .int .i64 (i : Int), .slice aw K cap2] w fun e w' => e = .returned (.tuple #[.int .i64 0, .bool false]) ∧ Below w.heap.size w w' := by
  have HT := Lib.hid hT
  have HI := Lib.hid hI
  have HG := Lib.hid hg
  have HGs := Lib.hid (Gd.sh (f := f) (a := i + 1) (n := n - (i + 1)) (by rw [show i + 1 + (n - (i + 1)) = n by omega]; exact hg))
  have HS := Lib.hid (hg.sm i hi)
  have HR := Lib.hid hr
  have HZ := Lib.hid hz
  have hin : (i : Int) < (n : Int) := by omega
  have hiy := Lib.hid (show (i : Int) + 1 = ((i + 1 : Nat) : Int) by simp)
  obtain ⟨a0, a1, _, _⟩ := hg.rg i hi
  have B0 := Lib.hid (Bel.refl w)
  have HL := Lib.hid hl
  clear hl
  obtain ⟨bt, ot, rfl, _⟩ := hT i hi
  clear hT hI hg hr hz
  go_enter Try.func33, Try.ntmps33
  go_wp2_with fail
  go_loopg [9, 8] K (fun gm y u wr => ∃ k : Nat, k ≤ K ∧ gm = K - k ∧ y = .int .i64 (k : Int) ∧ u = .int .i64 (sumH (fun e => lenV (sh f (i + 1)) (n - (i + 1)) e (g e)) (f i) k) ∧ Hid (Bel w wr))
  case atStart => exact ⟨0, by omega, by omega, rfl, rfl, B0⟩
  case round =>
    clear B0
    obtain ⟨k, hk, rfl, rfl, rfl, B0⟩ := hrel
    obtain ⟨W0, hW0, B0⟩ : ∃ W0, W0 = _ ∧ Hid (Bel w W0) := ⟨_, rfl, B0⟩
    subst hW0
    by_cases hlt : k < K
    · obtain ⟨b', o', e, u0, u1, u2, u3⟩ := HT.out.up B0.out.out i (by omega)
      cases e
      obtain ⟨bw, ow, rfl, q0⟩ := HI.out.up B0.out.out k (by omega)
      have hkd : decide ((k : Int) < (K : Int)) = true := decide_eq_true (by omega)
      obtain ⟨t0, t1⟩ := HR.out k (by omega)
      by_cases hx : (f i).has k
      · have hxd : decide ((f i).has k) = true := decide_eq_true hx
        have hze : lenE (sh f (i + 1)) (n - (i + 1)) (k : Int) (g k) = 0 := HZ.out k (by omega) hx
        have HSX := Lib.hid (sumH_has (v := fun e => lenV (sh f (i + 1)) (n - (i + 1)) e (g e)) hx)
        have hvv := lenV_bd HGs.out (x := (k : Int)) (t := g k)
        have hsb := sumH_bd (v := fun e => lenV (sh f (i + 1)) (n - (i + 1)) e (g e)) (t := f i) (c := 253671505920) (by omega) K (fun e _ _ => lenV_bd HGs.out) k (by omega)
        have hsv : scV (sh f (i + 1)) k (g k) (n - (i + 1)) = lenV (sh f (i + 1)) (n - (i + 1)) k (g k) := sc_lenV HGs.out t0 hze
        have hsb2 : scB (sh f (i + 1)) k (g k) (n - (i + 1)) = true := by rw [sc_lenE HGs.out t0 t1, hze]; rfl
        try simp only at HSX
        have HSC := Lib.hid (fun u (y : Int) (hy : y = ((i + 1 : Nat) : Int)) h2 => scale_a f (i + 1) (n - (i + 1)) n cap (some ⟨bt, ot, none⟩) k (g k) y u hy (by omega) hn HG.out t0 t1 h2)
        rw [hsv, hsb2] at HSC
        clear hze hx hsv hsb2
        generalize lenV (sh f (i + 1)) (n - (i + 1)) (k : Int) (g k) = V at *
        obtain ⟨SS, hSS⟩ : ∃ SS, sumH (fun e => lenV (sh f (i + 1)) (n - (i + 1)) e (g e)) (f i) k = SS := ⟨_, rfl⟩
        rw [hSS] at HSX hsb ⊢
        clear hSS
        obtain ⟨hs0, hs1⟩ := hsb
        obtain ⟨hv0, hv1⟩ := hvv
        go_wp2_with fail
        refine (in_ok (f i) k _ HS.out).mono ?_
        rintro e w1 ⟨rfl, hb⟩
        rw [hxd]
        have B1 := Lib.hid (B0.out.up hb)
        replace q0 := cell_up hb q0
        clear hb
        go_wp2_with fail
        refine (HSC.out _ _ hiy.out (HT.out.up B1.out.out)).mono ?_
        rintro e w2 ⟨rfl, hb⟩
        have B2 := Lib.hid (B1.out.up hb)
        clear hb
        go_wp2_with fail
        go_roundg (K - (k + 1))
        case measure => omega
        case rel => exact ⟨k + 1, by omega, rfl, by go_num, by rw [HSX.out], B2⟩
      · have hxd : decide ((f i).has k) = false := decide_eq_false hx
        have HSX := Lib.hid (sumH_not (v := fun e => lenV (sh f (i + 1)) (n - (i + 1)) e (g e)) hx)
        clear hx
        go_wp2_with fail
        refine (in_ok (f i) k _ HS.out).mono ?_
        rintro e w1 ⟨rfl, hb⟩
        rw [hxd]
        have B1 := Lib.hid (B0.out.up hb)
        replace q0 := cell_up hb q0
        clear hb
        go_wp2_with fail
        go_roundg (K - (k + 1))
        case measure => omega
        case rel => exact ⟨k + 1, by omega, rfl, by go_num, by rw [HSX.out], B1⟩
    · obtain rfl : k = K := by omega
      have hkd : decide ((k : Int) < (k : Int)) = false := decide_eq_false (by omega)
      obtain ⟨SS, hSS⟩ : ∃ SS, sumH (fun e => lenV (sh f (i + 1)) (n - (i + 1)) e (g e)) (f i) k = SS := ⟨_, rfl⟩
      rw [hSS] at HL ⊢
      clear hSS
      generalize hA : (f i).A = A at *
      go_wp2_with fail
      go_loopg [13, 12] 10 (fun gm y z wr => ∃ q : Nat, q ≤ 10 ∧ gm = 10 - q ∧ y = .int .i64 ((q : Int) - 1) ∧ z = .int .i64 (uu q) ∧ Hid (Bel w wr))
      case atStart => exact ⟨0, by omega, by omega, by rfl, by rfl, B0⟩
      case round =>
        clear B0
        obtain ⟨q, hq, rfl, rfl, rfl, B0⟩ := hrel
        obtain ⟨W0, hW0, B0⟩ : ∃ W0, W0 = _ ∧ Hid (Bel w W0) := ⟨_, rfl, B0⟩
        subst hW0
        obtain ⟨b', o', e, u0, u1, u2, u3⟩ := HT.out.up B0.out.out i (by omega)
        cases e
        rw [hA] at u2
        by_cases hlt : q < 10
        · have hne := HL.out q hlt
          rcases (show q = 0 ∨ q = 1 ∨ q = 2 ∨ q = 3 ∨ q = 4 ∨ q = 5 ∨ q = 6 ∨ q = 7 ∨ q = 8 ∨ q = 9 by omega) with rfl | rfl | rfl | rfl | rfl | rfl | rfl | rfl | rfl | rfl
          · have hu : uu 0 = 3870720 := by decide
            have hu1 : uu 1 = 1935360 := by decide
            rw [hu] at hne ⊢
            have hne2 : (SS == 3870720 * A) = false := by simpa using fun h => hne h.symm
            clear hne hu
            go_wp2_with fail
            go_roundg (10 - 1)
            case measure => omega
            case rel => exact ⟨1, by omega, rfl, by go_num, by rw [hu1], B0⟩
          · have hu : uu 1 = 1935360 := by decide
            have hu1 : uu 2 = 967680 := by decide
            rw [hu] at hne ⊢
            have hne2 : (SS == 1935360 * A) = false := by simpa using fun h => hne h.symm
            clear hne hu
            go_wp2_with fail
            go_roundg (10 - 2)
            case measure => omega
            case rel => exact ⟨2, by omega, rfl, by go_num, by rw [hu1], B0⟩
          · have hu : uu 2 = 967680 := by decide
            have hu1 : uu 3 = 483840 := by decide
            rw [hu] at hne ⊢
            have hne2 : (SS == 967680 * A) = false := by simpa using fun h => hne h.symm
            clear hne hu
            go_wp2_with fail
            go_roundg (10 - 3)
            case measure => omega
            case rel => exact ⟨3, by omega, rfl, by go_num, by rw [hu1], B0⟩
          · have hu : uu 3 = 483840 := by decide
            have hu1 : uu 4 = 241920 := by decide
            rw [hu] at hne ⊢
            have hne2 : (SS == 483840 * A) = false := by simpa using fun h => hne h.symm
            clear hne hu
            go_wp2_with fail
            go_roundg (10 - 4)
            case measure => omega
            case rel => exact ⟨4, by omega, rfl, by go_num, by rw [hu1], B0⟩
          · have hu : uu 4 = 241920 := by decide
            have hu1 : uu 5 = 120960 := by decide
            rw [hu] at hne ⊢
            have hne2 : (SS == 241920 * A) = false := by simpa using fun h => hne h.symm
            clear hne hu
            go_wp2_with fail
            go_roundg (10 - 5)
            case measure => omega
            case rel => exact ⟨5, by omega, rfl, by go_num, by rw [hu1], B0⟩
          · have hu : uu 5 = 120960 := by decide
            have hu1 : uu 6 = 60480 := by decide
            rw [hu] at hne ⊢
            have hne2 : (SS == 120960 * A) = false := by simpa using fun h => hne h.symm
            clear hne hu
            go_wp2_with fail
            go_roundg (10 - 6)
            case measure => omega
            case rel => exact ⟨6, by omega, rfl, by go_num, by rw [hu1], B0⟩
          · have hu : uu 6 = 60480 := by decide
            have hu1 : uu 7 = 30240 := by decide
            rw [hu] at hne ⊢
            have hne2 : (SS == 60480 * A) = false := by simpa using fun h => hne h.symm
            clear hne hu
            go_wp2_with fail
            go_roundg (10 - 7)
            case measure => omega
            case rel => exact ⟨7, by omega, rfl, by go_num, by rw [hu1], B0⟩
          · have hu : uu 7 = 30240 := by decide
            have hu1 : uu 8 = 15120 := by decide
            rw [hu] at hne ⊢
            have hne2 : (SS == 30240 * A) = false := by simpa using fun h => hne h.symm
            clear hne hu
            go_wp2_with fail
            go_roundg (10 - 8)
            case measure => omega
            case rel => exact ⟨8, by omega, rfl, by go_num, by rw [hu1], B0⟩
          · have hu : uu 8 = 15120 := by decide
            have hu1 : uu 9 = 7560 := by decide
            rw [hu] at hne ⊢
            have hne2 : (SS == 15120 * A) = false := by simpa using fun h => hne h.symm
            clear hne hu
            go_wp2_with fail
            go_roundg (10 - 9)
            case measure => omega
            case rel => exact ⟨9, by omega, rfl, by go_num, by rw [hu1], B0⟩
          · have hu : uu 9 = 7560 := by decide
            have hu1 : uu 10 = 3780 := by decide
            rw [hu] at hne ⊢
            have hne2 : (SS == 7560 * A) = false := by simpa using fun h => hne h.symm
            clear hne hu
            go_wp2_with fail
            go_roundg (10 - 10)
            case measure => omega
            case rel => exact ⟨10, by omega, rfl, by go_num, by rw [hu1], B0⟩
        · obtain rfl : q = 10 := by omega
          go_wp2_with fail
          go_ret2
          exact ⟨rfl, B0.out.out⟩
end Go.Proofs.Ytidggmfgbcmklaa
