/- Tuplets: under. -/
import Derived.Test.YtidggmfgbcmklaaTe
namespace Go.Proofs.Ytidggmfgbcmklaa
open Go.RowKit
set_option linter.unusedVariables false
set_option linter.unusedSimpArgs false

theorem Duo.aside1 {w : World} {b c i : Nat} {x y v : Value} (h : Duo w b x y) (hn : c ≠ b) : Duo (w.setCell ⟨c, i, none⟩ v) b x y := by
  obtain ⟨h0, h1, h2, h3, h4⟩ := h
  have hn' : b ≠ c := fun e => hn e.symm
  exact ⟨by simpa [go_sem] using h0, by simp [go_sem, *], by simp [go_sem, *], by simp [go_sem, *], by simp [go_sem, *]⟩
theorem cnt_le {f : Nat → Tp} {x : Int} {n : Nat} : ∀ {k : Nat}, k ≤ n → cnt f x k ≤ cnt f x n := by
  intro k hk
  obtain ⟨d, rfl⟩ : ∃ d, n = k + d := ⟨n - k, by omega⟩
  rw [cnt_add]; omega
theorem rat_yes {f : Nat → Tp} {x : Int} {k : Nat} {t : Tp} (ht : f k = t) (hx : t.has x) : rat f x (k + 1) = red ((rat f x k).1 * t.N.toNat) ((rat f x k).2 * t.A.toNat) := by
  subst ht
  exact if_pos hx
theorem rat_no {f : Nat → Tp} {x : Int} {k : Nat} {t : Tp} (ht : f k = t) (hx : ¬ t.has x) : rat f x (k + 1) = rat f x k := by
  subst ht
  exact if_neg hx
/-- tuplets that have passed the check -/
structure Gd (f : Nat → Tp) (n : Nat) : Prop where
  sm : ∀ k, k < n → Sm (f k)
  rg : rng f n
  ct : ∀ x, cnt f x n ≤ 3
theorem Gd.of {f : Nat → Tp} {n : Nat} {ev : Int} (h : good f ev n) (he : ev ≤ 128) : Gd f n := ⟨fun k hk => Sm.of (h.parts hk).1 he, h.rng, fun _ => cnt_bd h⟩
theorem Gd.sh {f : Nat → Tp} {a n : Nat} (h : Gd f (a + n)) : Gd (sh f a) n := ⟨fun k hk => h.sm (a + k) (by omega), h.rg.sh, fun x => by have := h.ct x; rw [cnt_add] at this; omega⟩
theorem rat_bd {f : Nat → Tp} {n : Nat} (h : Gd f n) (x : Int) {k : Nat} (hk : k ≤ n) : 1 ≤ (rat f x k).1 ∧ (rat f x k).1 ≤ 32768 ∧ 1 ≤ (rat f x k).2 ∧ (rat f x k).2 ≤ 32768 := by
  have hr := h.rg.le hk
  have hc := pow_bd (Nat.le_trans (cnt_le hk) (h.ct x))
  obtain ⟨a1, a2⟩ := pN_bd (x := x) hr
  obtain ⟨b1, b2⟩ := pA_bd (x := x) hr
  rw [rat_eq hr]
  obtain ⟨r1, r2, r3, r4⟩ := red_bd a1 b1
  omega
theorem reduce_int (a b : Nat) (x y : Int) (hx : x = a) (hy : y = b) (w : World) (ha : 1 ≤ a) (hb : 1 ≤ b) (ha1 : a ≤ 1099511627776) (hb1 : b ≤ 1099511627776) :
    Calls Try.prog 55 #[.int .i64 x, .int .i64 y] w fun e w' => e = .returned (.agg #[.int .i64 ((red a b).1 : Int), .int .i64 ((red a b).2 : Int)]) ∧ Below w.heap.size w w' := by
  subst hx hy
  exact reduce_ok a b w ha hb ha1 hb1
set_option maxRecDepth 100000 in
set_option maxHeartbeats 2000000 in
theorem under_ok (f : Nat → Tp) (n cap : Nat) (ad : Option Addr) (x : Int) (w : World) (hn : n ≤ 1048576) (hg : Gd f n) (h : TsAt w ad n f) :
    Calls Try.prog 44 #[.slice ad n cap, .int .i64 x] w fun e w' => e = .returned (.agg #[.int .i64 ((rat f x n).1 : Int), .int .i64 ((rat f x n).2 : Int)]) ∧ Below w.heap.size w w' := by
  have HT := Lib.hid h
  have HG := Lib.hid hg
  clear h hg
  have B0 := Lib.hid (((Bel.refl w).alloc (.cells #[.int .i64 0, .int .i64 0] 68)).alloc (.cells #[.int .i64 1, .int .i64 1] 68))
  have X0 := (Duo.new w (.int .i64 0) (.int .i64 0) 68 (w.heap.size) (by simp)).alloc (.cells #[.int .i64 1, .int .i64 1] 68)
  have D0 := Duo.new (w.alloc (.cells #[.int .i64 0, .int .i64 0] 68)) (.int .i64 1) (.int .i64 1) 68 (w.heap.size + 1) (by simp)
  go_enter Try.func44, Try.ntmps44
  obtain ⟨xf0, xf1, xf2, xf3, xf4⟩ := id X0
  obtain ⟨df0, df1, df2, df3, df4⟩ := id D0
  go_wp2_with fail
  go_loopg [11] n (fun gm i wr => ∃ k : Nat, k ≤ n ∧ gm = n - k ∧ i = .int .i64 (k : Int) ∧ Hid (Bel w wr) ∧ Duo wr w.heap.size (.int .i64 0) (.int .i64 0) ∧ Duo wr (w.heap.size + 1) (.int .i64 ((rat f x k).1 : Int)) (.int .i64 ((rat f x k).2 : Int)))
  case atStart => exact ⟨0, by omega, by omega, rfl, B0, X0, D0⟩
  case round =>
    clear B0 X0 D0
    obtain ⟨k, hk, rfl, rfl, HB, HX, HD⟩ := hrel
    obtain ⟨W0, hW0, B0, X0, D0⟩ : ∃ W0, W0 = _ ∧ Hid (Bel w W0) ∧ Duo W0 w.heap.size (.int .i64 0) (.int .i64 0) ∧ Duo W0 (w.heap.size + 1) (.int .i64 ((rat f x k).1 : Int)) (.int .i64 ((rat f x k).2 : Int)) := ⟨_, rfl, HB, HX, HD⟩
    subst hW0
    clear HB HX HD
    obtain ⟨p1, p2, p3, p4⟩ := rat_bd HG.out x hk
    by_cases hlt : k < n
    · obtain ⟨b, off, rfl, c0, c1, c2, c3⟩ := HT.out.up B0.out.out k hlt
      obtain ⟨⟨F, C, A, N⟩, ht⟩ : ∃ t, f k = t := ⟨_, rfl⟩
      have hs := Lib.hid (HG.out.sm k hlt)
      obtain ⟨a0, a1, n0, n1⟩ := HG.out.rg k hlt
      rw [ht] at c0 c1 c2 c3 hs a0 a1 n0 n1
      simp only at c0 c1 c2 c3 a0 a1 n0 n1
      obtain ⟨a, rfl⟩ := Int.eq_ofNat_of_zero_le (show 0 ≤ A by omega)
      obtain ⟨m, rfl⟩ := Int.eq_ofNat_of_zero_le (show 0 ≤ N by omega)
      have HY := Lib.hid (show ∀ hx : (⟨F, C, a, m⟩ : Tp).has x, rat f x (k + 1) = red ((rat f x k).1 * m) ((rat f x k).2 * a) from fun hx => rat_yes ht hx)
      have HZ := Lib.hid (show ∀ hx : ¬ (⟨F, C, a, m⟩ : Tp).has x, rat f x (k + 1) = rat f x k from fun hx => rat_no ht hx)
      replace ht := Lib.hid ht
      obtain ⟨⟨p, q⟩, hP⟩ : ∃ P, rat f x k = P := ⟨_, rfl⟩
      rw [hP] at D0 p1 p2 p3 p4 HY HZ
      simp only at D0 p1 p2 p3 p4 HY
      clear hP
      by_cases hx : (⟨F, C, a, m⟩ : Tp).has x
      · have hxd : decide ((⟨F, C, a, m⟩ : Tp).has x) = true := decide_eq_true hx
        have h1 : 1 ≤ p * m := Nat.mul_pos p1 (by omega)
        have h2 : p * m ≤ 32768 * 32 := Nat.mul_le_mul p2 (by omega)
        have h3 : 1 ≤ q * a := Nat.mul_pos p3 (by omega)
        have h4 : q * a ≤ 32768 * 32 := Nat.mul_le_mul p4 (by omega)
        have h5 : (p : Int) * (m : Int) = ((p * m : Nat) : Int) := by simp
        have h6 : (q : Int) * (a : Int) = ((q * a : Nat) : Int) := by simp
        have g1 : 0 ≤ (p : Int) * (m : Int) := by omega
        have g2 : (p : Int) * (m : Int) ≤ 1048576 := by omega
        have g3 : 0 ≤ (q : Int) * (a : Int) := by omega
        have g4 : (q : Int) * (a : Int) ≤ 1048576 := by omega
        replace HY := Lib.hid (HY.out hx)
        replace h5 := Lib.hid h5
        replace h6 := Lib.hid h6
        clear hx HZ
        obtain ⟨xf0, xf1, xf2, xf3, xf4⟩ := id X0
        obtain ⟨df0, df1, df2, df3, df4⟩ := id D0
        have B1 := Lib.hid (B0.out.alloc (.cells #[.int .i64 F, .int .i64 C, .int .i64 (a : Int), .int .i64 (m : Int)] 52))
        have X1 := X0.alloc (.cells #[.int .i64 F, .int .i64 C, .int .i64 (a : Int), .int .i64 (m : Int)] 52)
        obtain ⟨xk0, xk1, xk2, xk3, xk4⟩ := id X1
        have D1 := D0.alloc (.cells #[.int .i64 F, .int .i64 C, .int .i64 (a : Int), .int .i64 (m : Int)] 52)
        obtain ⟨dk0, dk1, dk2, dk3, dk4⟩ := id D1
        have Y1 := Quad.new W0 (.int .i64 F) (.int .i64 C) (.int .i64 (a : Int)) (.int .i64 (m : Int)) 52 _ rfl
        clear B0  X0 D0
        obtain ⟨yf0, yf1, yf2, yf3, yf4, yf5, yf6, yf7, yf8⟩ := id Y1
        go_wp2_with fail
        clear xf0 xf1 xf2 xf3 xf4 df0 df1 df2 df3 df4 yf0 yf1 yf2 yf3 yf4 yf5 yf6 yf7 yf8 xk0 xk1 xk2 xk3 xk4 dk0 dk1 dk2 dk3 dk4
        refine (contains_ok ⟨F, C, a, m⟩ x _ hs.out).mono ?_
        rintro e w2 ⟨rfl, hb⟩
        rw [hxd]
        have B2 := Lib.hid (B1.out.up hb)
        have X2 := X1.up hb
        have D2 := D1.up hb
        have Y2 := Y1.up hb
        clear hb B1  X1 D1 Y1
        obtain ⟨xf0, xf1, xf2, xf3, xf4⟩ := id X2
        obtain ⟨df0, df1, df2, df3, df4⟩ := id D2
        obtain ⟨yf0, yf1, yf2, yf3, yf4, yf5, yf6, yf7, yf8⟩ := id Y2
        go_wp2_with fail
        clear xf0 xf1 xf2 xf3 xf4 df0 df1 df2 df3 df4 yf0 yf1 yf2 yf3 yf4 yf5 yf6 yf7 yf8
        refine (reduce_int (p * m) (q * a) _ _ h5.out h6.out _ h1 h3 (by omega) (by omega)).mono ?_
        rintro e w3 ⟨rfl, hb⟩
        have B3 := Lib.hid (B2.out.up hb)
        have X3 := X2.up hb
        have D3 := D2.up hb
        have Y3 := Y2.up hb
        clear hb B2  X2 D2 Y2
        obtain ⟨xf0, xf1, xf2, xf3, xf4⟩ := id X3
        obtain ⟨df0, df1, df2, df3, df4⟩ := id D3
        obtain ⟨yf0, yf1, yf2, yf3, yf4, yf5, yf6, yf7, yf8⟩ := id Y3
        go_wp2_with fail
        have hD := D3.store (u := .int .i64 ((red (p * m) (q * a)).1 : Int)) (v := .int .i64 ((red (p * m) (q * a)).2 : Int))
        have hX := (X3.aside1 (c := w.heap.size + 1) (i := 0) (v := .int .i64 ((red (p * m) (q * a)).1 : Int)) (by omega)).aside1 (c := w.heap.size + 1) (i := 1) (v := .int .i64 ((red (p * m) (q * a)).2 : Int)) (by omega)
        have hB := Lib.hid ((B3.out.set (b := w.heap.size + 1) (by omega) 0 (.int .i64 ((red (p * m) (q * a)).1 : Int))).set (b := w.heap.size + 1) (by omega) 1 (.int .i64 ((red (p * m) (q * a)).2 : Int)))
        go_roundg (n - (k + 1))
        case measure => omega
        case rel => exact ⟨k + 1, by omega, rfl, by go_num, hB, hX, by rw [HY.out]; exact hD⟩
      · have hxd : decide ((⟨F, C, a, m⟩ : Tp).has x) = false := decide_eq_false hx
        replace HZ := Lib.hid (HZ.out hx)
        clear hx HY
        obtain ⟨xf0, xf1, xf2, xf3, xf4⟩ := id X0
        obtain ⟨df0, df1, df2, df3, df4⟩ := id D0
        have B1 := Lib.hid (B0.out.alloc (.cells #[.int .i64 F, .int .i64 C, .int .i64 (a : Int), .int .i64 (m : Int)] 52))
        have X1 := X0.alloc (.cells #[.int .i64 F, .int .i64 C, .int .i64 (a : Int), .int .i64 (m : Int)] 52)
        obtain ⟨xk0, xk1, xk2, xk3, xk4⟩ := id X1
        have D1 := D0.alloc (.cells #[.int .i64 F, .int .i64 C, .int .i64 (a : Int), .int .i64 (m : Int)] 52)
        obtain ⟨dk0, dk1, dk2, dk3, dk4⟩ := id D1
        have Y1 := Quad.new W0 (.int .i64 F) (.int .i64 C) (.int .i64 (a : Int)) (.int .i64 (m : Int)) 52 _ rfl
        clear B0  X0 D0
        obtain ⟨yf0, yf1, yf2, yf3, yf4, yf5, yf6, yf7, yf8⟩ := id Y1
        go_wp2_with fail
        clear xf0 xf1 xf2 xf3 xf4 df0 df1 df2 df3 df4 yf0 yf1 yf2 yf3 yf4 yf5 yf6 yf7 yf8 xk0 xk1 xk2 xk3 xk4 dk0 dk1 dk2 dk3 dk4
        refine (contains_ok ⟨F, C, a, m⟩ x _ hs.out).mono ?_
        rintro e w2 ⟨rfl, hb⟩
        rw [hxd]
        have B2 := Lib.hid (B1.out.up hb)
        have X2 := X1.up hb
        have D2 := D1.up hb
        have Y2 := Y1.up hb
        clear hb B1  X1 D1 Y1
        obtain ⟨xf0, xf1, xf2, xf3, xf4⟩ := id X2
        obtain ⟨df0, df1, df2, df3, df4⟩ := id D2
        obtain ⟨yf0, yf1, yf2, yf3, yf4, yf5, yf6, yf7, yf8⟩ := id Y2
        go_wp2_with fail
        go_roundg (n - (k + 1))
        case measure => omega
        case rel => exact ⟨k + 1, by omega, rfl, by go_num, B2, X2, by rw [HZ.out]; exact D2⟩
    · obtain rfl : k = n := by omega
      obtain ⟨xf0, xf1, xf2, xf3, xf4⟩ := id X0
      obtain ⟨df0, df1, df2, df3, df4⟩ := id D0
      go_wp2_with fail
      have Tf := X0.store (u := .int .i64 ((rat f x k).1 : Int)) (v := .int .i64 ((rat f x k).2 : Int))
      exact bodyPost_ret (v := .agg #[.int .i64 ((rat f x k).1 : Int), .int .i64 ((rat f x k).2 : Int)]) (by first | (simp [results, Try.results44, go_sem, Tf.c0, Tf.c1]; done) | (simp [results, Try.results44, go_sem, Tf.c0, Tf.c1]; omega)) rfl ⟨rfl, ((B0.out.set (Nat.le_refl _) _ _).set (Nat.le_refl _) _ _)⟩
end Go.Proofs.Ytidggmfgbcmklaa
