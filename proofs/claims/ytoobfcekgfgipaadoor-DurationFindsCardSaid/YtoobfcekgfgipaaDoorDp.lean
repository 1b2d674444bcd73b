/- Durations: Scale, law Scales but for longer values. -/
import Derived.Test.YtoobfcekgfgipaaDoorDm
namespace Go.Proofs.YtoobfcekgfgipaaDoor
open Go.RowKit
set_option linter.unusedVariables false
set_option linter.unusedSimpArgs false

set_option maxRecDepth 100000 in
set_option maxHeartbeats 2000000 in
theorem scale_n (l d n M : Int) (w : World) (h : ¬ Va l d) (hM : IntKind.i64.wrap (l - n) = M) :
    Calls Tryd.prog 22 #[.agg #[.int .i64 l, .int .i64 d], .int .i64 n] w fun e w' => e = .returned (.tuple #[.agg #[.int .i64 0, .int .i64 0], .int .i64 17]) ∧ Below w.heap.size w w' := by
  have H := Lib.hid h
  have B0 := Lib.hid ((((Bel.refl w).alloc (.cells #[.int .i64 l, .int .i64 d] 23)).alloc (.cells #[.int .i64 0, .int .i64 0] 23)).alloc (.cells #[.int .i64 M, .int .i64 d] 23))
  have X0 := ((Duo.new w (.int .i64 l) (.int .i64 d) 23 (w.heap.size) (by simp)).alloc (.cells #[.int .i64 0, .int .i64 0] 23)).alloc (.cells #[.int .i64 M, .int .i64 d] 23)
  have R0 := (Duo.new (w.alloc (.cells #[.int .i64 l, .int .i64 d] 23)) (.int .i64 0) (.int .i64 0) 23 (w.heap.size + 1) (by simp)).alloc (.cells #[.int .i64 M, .int .i64 d] 23)
  have S0 := Duo.new ((w.alloc (.cells #[.int .i64 l, .int .i64 d] 23)).alloc (.cells #[.int .i64 0, .int .i64 0] 23)) (.int .i64 M) (.int .i64 d) 23 (w.heap.size + 1 + 1) (by simp)
  obtain ⟨pf0, pf1, pf2, pf3, pf4⟩ := (Duo.new w (.int .i64 l) (.int .i64 d) 23 (w.heap.size) (by simp)).alloc (.cells #[.int .i64 0, .int .i64 0] 23)
  clear h
  go_enter Tryd.func22, Tryd.ntmps22
  obtain ⟨xf0, xf1, xf2, xf3, xf4⟩ := id X0
  obtain ⟨rf0, rf1, rf2, rf3, rf4⟩ := id R0
  obtain ⟨sf0, sf1, sf2, sf3, sf4⟩ := id S0
  go_wp2_with fail
  clear pf0 pf1 pf2 pf3 pf4
  clear xf0 xf1 xf2 xf3 xf4 rf0 rf1 rf2 rf3 rf4 sf0 sf1 sf2 sf3 sf4
  refine (check_n l d _ H.out).mono ?_
  rintro e w1 ⟨rfl, hb⟩
  have B1 := Lib.hid (B0.out.up hb)
  have X1 := X0.up hb
  have R1 := R0.up hb
  have S1 := S0.up hb
  clear hb B0  X0 R0 S0
  obtain ⟨xf0, xf1, xf2, xf3, xf4⟩ := id X1
  obtain ⟨rf0, rf1, rf2, rf3, rf4⟩ := id R1
  obtain ⟨sf0, sf1, sf2, sf3, sf4⟩ := id S1
  go_wp2_with fail
  have Tf := R1.store (u := .int .i64 0) (v := .int .i64 0)
  exact bodyPost_ret (v := .tuple #[.agg #[.int .i64 0, .int .i64 0], .int .i64 17]) (by first | (simp [results, Tryd.results22, go_sem, Tf.c0, Tf.c1]; done) | (simp [results, Tryd.results22, go_sem, Tf.c0, Tf.c1]; omega)) rfl ⟨rfl, ((B1.out.set (Nat.le_succ _) _ _).set (Nat.le_succ _) _ _)⟩
set_option maxRecDepth 100000 in
set_option maxHeartbeats 2000000 in
theorem scale_b (l d n M : Int) (w : World) (h : Va l d) (g : ¬ Va M d) (hM : IntKind.i64.wrap (l - n) = M) :
    Calls Tryd.prog 22 #[.agg #[.int .i64 l, .int .i64 d], .int .i64 n] w fun e w' => e = .returned (.tuple #[.agg #[.int .i64 0, .int .i64 0], .int .i64 17]) ∧ Below w.heap.size w w' := by
  have H := Lib.hid h
  have G := Lib.hid g
  clear g
  have B0 := Lib.hid ((((Bel.refl w).alloc (.cells #[.int .i64 l, .int .i64 d] 23)).alloc (.cells #[.int .i64 0, .int .i64 0] 23)).alloc (.cells #[.int .i64 M, .int .i64 d] 23))
  have X0 := ((Duo.new w (.int .i64 l) (.int .i64 d) 23 (w.heap.size) (by simp)).alloc (.cells #[.int .i64 0, .int .i64 0] 23)).alloc (.cells #[.int .i64 M, .int .i64 d] 23)
  have R0 := (Duo.new (w.alloc (.cells #[.int .i64 l, .int .i64 d] 23)) (.int .i64 0) (.int .i64 0) 23 (w.heap.size + 1) (by simp)).alloc (.cells #[.int .i64 M, .int .i64 d] 23)
  have S0 := Duo.new ((w.alloc (.cells #[.int .i64 l, .int .i64 d] 23)).alloc (.cells #[.int .i64 0, .int .i64 0] 23)) (.int .i64 M) (.int .i64 d) 23 (w.heap.size + 1 + 1) (by simp)
  obtain ⟨pf0, pf1, pf2, pf3, pf4⟩ := (Duo.new w (.int .i64 l) (.int .i64 d) 23 (w.heap.size) (by simp)).alloc (.cells #[.int .i64 0, .int .i64 0] 23)
  clear h
  go_enter Tryd.func22, Tryd.ntmps22
  obtain ⟨xf0, xf1, xf2, xf3, xf4⟩ := id X0
  obtain ⟨rf0, rf1, rf2, rf3, rf4⟩ := id R0
  obtain ⟨sf0, sf1, sf2, sf3, sf4⟩ := id S0
  go_wp2_with fail
  clear pf0 pf1 pf2 pf3 pf4
  clear xf0 xf1 xf2 xf3 xf4 rf0 rf1 rf2 rf3 rf4 sf0 sf1 sf2 sf3 sf4
  refine (check_y l d _ H.out).mono ?_
  rintro e w1 ⟨rfl, hb⟩
  have B1 := Lib.hid (B0.out.up hb)
  have X1 := X0.up hb
  have R1 := R0.up hb
  have S1 := S0.up hb
  clear hb B0  X0 R0 S0
  obtain ⟨xf0, xf1, xf2, xf3, xf4⟩ := id X1
  obtain ⟨rf0, rf1, rf2, rf3, rf4⟩ := id R1
  obtain ⟨sf0, sf1, sf2, sf3, sf4⟩ := id S1
  go_wp2_with fail
  clear xf0 xf1 xf2 xf3 xf4 rf0 rf1 rf2 rf3 rf4 sf0 sf1 sf2 sf3 sf4
  refine (check_n M d _ G.out).mono ?_
  rintro e w2 ⟨rfl, hb⟩
  have B2 := Lib.hid (B1.out.up hb)
  have X2 := X1.up hb
  have R2 := R1.up hb
  have S2 := S1.up hb
  clear hb B1  X1 R1 S1
  obtain ⟨xf0, xf1, xf2, xf3, xf4⟩ := id X2
  obtain ⟨rf0, rf1, rf2, rf3, rf4⟩ := id R2
  obtain ⟨sf0, sf1, sf2, sf3, sf4⟩ := id S2
  go_wp2_with fail
  have Tf := R2.store (u := .int .i64 0) (v := .int .i64 0)
  exact bodyPost_ret (v := .tuple #[.agg #[.int .i64 0, .int .i64 0], .int .i64 17]) (by first | (simp [results, Tryd.results22, go_sem, Tf.c0, Tf.c1]; done) | (simp [results, Tryd.results22, go_sem, Tf.c0, Tf.c1]; omega)) rfl ⟨rfl, ((B2.out.set (Nat.le_succ _) _ _).set (Nat.le_succ _) _ _)⟩
set_option maxRecDepth 100000 in
set_option maxHeartbeats 2000000 in
theorem scale_y (l d n M : Int) (w : World) (h : Va l d) (g : Va M d) (hM : IntKind.i64.wrap (l - n) = M) :
    Calls Tryd.prog 22 #[.agg #[.int .i64 l, .int .i64 d], .int .i64 n] w fun e w' => e = .returned (.tuple #[.agg #[.int .i64 M, .int .i64 d], .int .i64 0]) ∧ Below w.heap.size w w' := by
  have H := Lib.hid h
  have G := Lib.hid g
  clear g
  have B0 := Lib.hid ((((Bel.refl w).alloc (.cells #[.int .i64 l, .int .i64 d] 23)).alloc (.cells #[.int .i64 0, .int .i64 0] 23)).alloc (.cells #[.int .i64 M, .int .i64 d] 23))
  have X0 := ((Duo.new w (.int .i64 l) (.int .i64 d) 23 (w.heap.size) (by simp)).alloc (.cells #[.int .i64 0, .int .i64 0] 23)).alloc (.cells #[.int .i64 M, .int .i64 d] 23)
  have R0 := (Duo.new (w.alloc (.cells #[.int .i64 l, .int .i64 d] 23)) (.int .i64 0) (.int .i64 0) 23 (w.heap.size + 1) (by simp)).alloc (.cells #[.int .i64 M, .int .i64 d] 23)
  have S0 := Duo.new ((w.alloc (.cells #[.int .i64 l, .int .i64 d] 23)).alloc (.cells #[.int .i64 0, .int .i64 0] 23)) (.int .i64 M) (.int .i64 d) 23 (w.heap.size + 1 + 1) (by simp)
  obtain ⟨pf0, pf1, pf2, pf3, pf4⟩ := (Duo.new w (.int .i64 l) (.int .i64 d) 23 (w.heap.size) (by simp)).alloc (.cells #[.int .i64 0, .int .i64 0] 23)
  clear h
  go_enter Tryd.func22, Tryd.ntmps22
  obtain ⟨xf0, xf1, xf2, xf3, xf4⟩ := id X0
  obtain ⟨rf0, rf1, rf2, rf3, rf4⟩ := id R0
  obtain ⟨sf0, sf1, sf2, sf3, sf4⟩ := id S0
  go_wp2_with fail
  clear pf0 pf1 pf2 pf3 pf4
  clear xf0 xf1 xf2 xf3 xf4 rf0 rf1 rf2 rf3 rf4 sf0 sf1 sf2 sf3 sf4
  refine (check_y l d _ H.out).mono ?_
  rintro e w1 ⟨rfl, hb⟩
  have B1 := Lib.hid (B0.out.up hb)
  have X1 := X0.up hb
  have R1 := R0.up hb
  have S1 := S0.up hb
  clear hb B0  X0 R0 S0
  obtain ⟨xf0, xf1, xf2, xf3, xf4⟩ := id X1
  obtain ⟨rf0, rf1, rf2, rf3, rf4⟩ := id R1
  obtain ⟨sf0, sf1, sf2, sf3, sf4⟩ := id S1
  go_wp2_with fail
  clear xf0 xf1 xf2 xf3 xf4 rf0 rf1 rf2 rf3 rf4 sf0 sf1 sf2 sf3 sf4
  refine (check_y M d _ G.out).mono ?_
  rintro e w2 ⟨rfl, hb⟩
  have B2 := Lib.hid (B1.out.up hb)
  have X2 := X1.up hb
  have R2 := R1.up hb
  have S2 := S1.up hb
  clear hb B1  X1 R1 S1
  obtain ⟨xf0, xf1, xf2, xf3, xf4⟩ := id X2
  obtain ⟨rf0, rf1, rf2, rf3, rf4⟩ := id R2
  obtain ⟨sf0, sf1, sf2, sf3, sf4⟩ := id S2
  go_wp2_with fail
  have Tf := R2.store (u := .int .i64 M) (v := .int .i64 d)
  exact bodyPost_ret (v := .tuple #[.agg #[.int .i64 M, .int .i64 d], .int .i64 0]) (by first | (simp [results, Tryd.results22, go_sem, Tf.c0, Tf.c1]; done) | (simp [results, Tryd.results22, go_sem, Tf.c0, Tf.c1]; omega)) rfl ⟨rfl, ((B2.out.set (Nat.le_succ _) _ _).set (Nat.le_succ _) _ _)⟩
theorem wrapI (x : Int) : IntKind.i64.wrap x = (x + 9223372036854775808) % 18446744073709551616 - 9223372036854775808 := IntKind.wrap_i64 x
theorem wrap_in (x : Int) (h : -9223372036854775808 ≤ x ∧ x ≤ 9223372036854775807) : IntKind.i64.wrap x = x := by rw [wrapI]; omega
theorem far_off {l d n : Int} (h : Va l d) (n0 : -9223372036854775808 ≤ n) (n1 : n ≤ 9223372036854775807) (hn : n < -9 ∨ 9 < n) : ¬ Va (IntKind.i64.wrap (l - n)) d := by
  rw [wrapI]
  rintro ⟨a, b, _, _⟩
  obtain ⟨l0, l1, _, _⟩ := h
  omega
theorem lenV_dbl {l d : Int} (h : Va l d) (g : Va (l - 1) d) : 2 * lenV l d = lenV (l - 1) d := by
  obtain ⟨l0, l1, d0, d1⟩ := h
  have g0 := g.l0
  rcases log_cases l0 l1 with rfl | rfl | rfl | rfl | rfl | rfl | rfl | rfl | rfl | rfl <;> (rcases (show d = 0 ∨ d = 1 ∨ d = 2 ∨ d = 3 by omega) with rfl | rfl | rfl | rfl <;> first | omega | decide)
theorem lenV_half {l d : Int} (h : Va l d) (g : Va (l + 1) d) : (lenV l d).tdiv 2 = lenV (l + 1) d := by
  obtain ⟨l0, l1, d0, d1⟩ := h
  have g0 := g.l1
  rcases log_cases l0 l1 with rfl | rfl | rfl | rfl | rfl | rfl | rfl | rfl | rfl | rfl <;> (rcases (show d = 0 ∨ d = 1 ∨ d = 2 ∨ d = 3 by omega) with rfl | rfl | rfl | rfl <;> first | omega | decide)
set_option maxRecDepth 100000 in
set_option maxHeartbeats 2000000 in
theorem scalesL_n (l d n : Int) (w : World) (h : ¬ Va l d) (hk : KT w) :
    Calls Tryd.prog 7 #[.agg #[.int .i64 l, .int .i64 d], .int .i64 n] w fun e w' => e = .returned (.bool true) ∧ Below w.heap.size w w' := by
  have H := Lib.hid h
  have B0 := Lib.hid ((Bel.refl w).alloc (.cells #[.int .i64 l, .int .i64 d] 23))
  have K0 := Lib.hid ((Lib.hid hk).out.below ((Below.refl _ _).alloc (Nat.le_refl _) (.cells #[.int .i64 l, .int .i64 d] 23)))
  have X0 := Duo.new w (.int .i64 l) (.int .i64 d) 23 (w.heap.size) (by simp)
  clear hk
  go_enter Tryd.func7, Tryd.ntmps7
  obtain ⟨xf0, xf1, xf2, xf3, xf4⟩ := id X0
  go_wp2_with fail
  clear xf0 xf1 xf2 xf3 xf4
  refine (scale_n l d n _ _ H.out rfl).mono ?_
  rintro e w1 ⟨rfl, hb⟩
  have B1 := Lib.hid ((B0.out.up hb).alloc (.cells #[.int .i64 0, .int .i64 0] 23))
  have K1 := Lib.hid ((K0.out.below hb).below ((Below.refl _ _).alloc (Nat.le_refl _) (.cells #[.int .i64 0, .int .i64 0] 23)))
  have X1 := (X0.up hb).alloc (.cells #[.int .i64 0, .int .i64 0] 23)
  have Y1 := Duo.new w1 (.int .i64 0) (.int .i64 0) 23 (w1.heap.size) (by simp)
  clear hb B0 K0 X0
  obtain ⟨xf0, xf1, xf2, xf3, xf4⟩ := id X1
  obtain ⟨yf0, yf1, yf2, yf3, yf4⟩ := id Y1
  go_wp2_with fail
  clear xf0 xf1 xf2 xf3 xf4 yf0 yf1 yf2 yf3 yf4
  refine (known_ok _ K1.out).mono ?_
  rintro e w2 ⟨rfl, hb⟩
  have B2 := Lib.hid (B1.out.up hb)
  have K2 := Lib.hid (K1.out.below hb)
  have X2 := X1.up hb
  have Y2 := Y1.up hb
  clear hb B1 K1 X1 Y1
  obtain ⟨xf0, xf1, xf2, xf3, xf4⟩ := id X2
  obtain ⟨yf0, yf1, yf2, yf3, yf4⟩ := id Y2
  go_wp2_with fail
  clear xf0 xf1 xf2 xf3 xf4 yf0 yf1 yf2 yf3 yf4
  refine (valid_n l d _ H.out).mono ?_
  rintro e w3 ⟨rfl, hb⟩
  have B3 := Lib.hid (B2.out.up hb)
  have K3 := Lib.hid (K2.out.below hb)
  have X3 := X2.up hb
  have Y3 := Y2.up hb
  clear hb B2 K2 X2 Y2
  obtain ⟨xf0, xf1, xf2, xf3, xf4⟩ := id X3
  obtain ⟨yf0, yf1, yf2, yf3, yf4⟩ := id Y3
  go_wp2_with fail
  go_ret
  exact ⟨rfl, B3.out.out⟩
set_option maxRecDepth 100000 in
set_option maxHeartbeats 2000000 in
theorem scalesL_a (l d n : Int) (w : World) (h : Va l d) (n0 : -9223372036854775808 ≤ n) (n1 : n ≤ 9223372036854775807) (hn : n < -9) (hk : KT w) :
    Calls Tryd.prog 7 #[.agg #[.int .i64 l, .int .i64 d], .int .i64 n] w fun e w' => e = .returned (.bool true) ∧ Below w.heap.size w w' := by
  have H := Lib.hid h
  have G := Lib.hid (far_off h n0 n1 (by omega))
  obtain ⟨l0, l1, d0, d1⟩ := h
  have a0 : decide (n < -9) = true := decide_eq_true hn
  have B0 := Lib.hid ((Bel.refl w).alloc (.cells #[.int .i64 l, .int .i64 d] 23))
  have K0 := Lib.hid ((Lib.hid hk).out.below ((Below.refl _ _).alloc (Nat.le_refl _) (.cells #[.int .i64 l, .int .i64 d] 23)))
  have X0 := Duo.new w (.int .i64 l) (.int .i64 d) 23 (w.heap.size) (by simp)
  clear hk
  go_enter Tryd.func7, Tryd.ntmps7
  obtain ⟨xf0, xf1, xf2, xf3, xf4⟩ := id X0
  go_wp2_with fail
  clear xf0 xf1 xf2 xf3 xf4
  refine (scale_b l d n _ _ H.out G.out rfl).mono ?_
  rintro e w1 ⟨rfl, hb⟩
  have B1 := Lib.hid ((B0.out.up hb).alloc (.cells #[.int .i64 0, .int .i64 0] 23))
  have K1 := Lib.hid ((K0.out.below hb).below ((Below.refl _ _).alloc (Nat.le_refl _) (.cells #[.int .i64 0, .int .i64 0] 23)))
  have X1 := (X0.up hb).alloc (.cells #[.int .i64 0, .int .i64 0] 23)
  have Y1 := Duo.new w1 (.int .i64 0) (.int .i64 0) 23 (w1.heap.size) (by simp)
  clear hb B0 K0 X0
  obtain ⟨xf0, xf1, xf2, xf3, xf4⟩ := id X1
  obtain ⟨yf0, yf1, yf2, yf3, yf4⟩ := id Y1
  go_wp2_with fail
  clear xf0 xf1 xf2 xf3 xf4 yf0 yf1 yf2 yf3 yf4
  refine (known_ok _ K1.out).mono ?_
  rintro e w2 ⟨rfl, hb⟩
  have B2 := Lib.hid (B1.out.up hb)
  have K2 := Lib.hid (K1.out.below hb)
  have X2 := X1.up hb
  have Y2 := Y1.up hb
  clear hb B1 K1 X1 Y1
  obtain ⟨xf0, xf1, xf2, xf3, xf4⟩ := id X2
  obtain ⟨yf0, yf1, yf2, yf3, yf4⟩ := id Y2
  go_wp2_with fail
  clear xf0 xf1 xf2 xf3 xf4 yf0 yf1 yf2 yf3 yf4
  refine (valid_y l d _ H.out).mono ?_
  rintro e w3 ⟨rfl, hb⟩
  have B3 := Lib.hid (B2.out.up hb)
  have K3 := Lib.hid (K2.out.below hb)
  have X3 := X2.up hb
  have Y3 := Y2.up hb
  clear hb B2 K2 X2 Y2
  obtain ⟨xf0, xf1, xf2, xf3, xf4⟩ := id X3
  obtain ⟨yf0, yf1, yf2, yf3, yf4⟩ := id Y3
  go_wp2_with fail
  go_ret
  exact ⟨rfl, B3.out.out⟩
set_option maxRecDepth 100000 in
set_option maxHeartbeats 2000000 in
theorem scalesL_b (l d n : Int) (w : World) (h : Va l d) (n0 : -9223372036854775808 ≤ n) (n1 : n ≤ 9223372036854775807) (hn : 9 < n) (hk : KT w) :
    Calls Tryd.prog 7 #[.agg #[.int .i64 l, .int .i64 d], .int .i64 n] w fun e w' => e = .returned (.bool true) ∧ Below w.heap.size w w' := by
  have H := Lib.hid h
  have G := Lib.hid (far_off h n0 n1 (by omega))
  obtain ⟨l0, l1, d0, d1⟩ := h
  have a0 : decide (n < -9) = false := decide_eq_false (by omega)
  have a1 : decide (9 < n) = true := decide_eq_true hn
  have B0 := Lib.hid ((Bel.refl w).alloc (.cells #[.int .i64 l, .int .i64 d] 23))
  have K0 := Lib.hid ((Lib.hid hk).out.below ((Below.refl _ _).alloc (Nat.le_refl _) (.cells #[.int .i64 l, .int .i64 d] 23)))
  have X0 := Duo.new w (.int .i64 l) (.int .i64 d) 23 (w.heap.size) (by simp)
  clear hk
  go_enter Tryd.func7, Tryd.ntmps7
  obtain ⟨xf0, xf1, xf2, xf3, xf4⟩ := id X0
  go_wp2_with fail
  clear xf0 xf1 xf2 xf3 xf4
  refine (scale_b l d n _ _ H.out G.out rfl).mono ?_
  rintro e w1 ⟨rfl, hb⟩
  have B1 := Lib.hid ((B0.out.up hb).alloc (.cells #[.int .i64 0, .int .i64 0] 23))
  have K1 := Lib.hid ((K0.out.below hb).below ((Below.refl _ _).alloc (Nat.le_refl _) (.cells #[.int .i64 0, .int .i64 0] 23)))
  have X1 := (X0.up hb).alloc (.cells #[.int .i64 0, .int .i64 0] 23)
  have Y1 := Duo.new w1 (.int .i64 0) (.int .i64 0) 23 (w1.heap.size) (by simp)
  clear hb B0 K0 X0
  obtain ⟨xf0, xf1, xf2, xf3, xf4⟩ := id X1
  obtain ⟨yf0, yf1, yf2, yf3, yf4⟩ := id Y1
  go_wp2_with fail
  clear xf0 xf1 xf2 xf3 xf4 yf0 yf1 yf2 yf3 yf4
  refine (known_ok _ K1.out).mono ?_
  rintro e w2 ⟨rfl, hb⟩
  have B2 := Lib.hid (B1.out.up hb)
  have K2 := Lib.hid (K1.out.below hb)
  have X2 := X1.up hb
  have Y2 := Y1.up hb
  clear hb B1 K1 X1 Y1
  obtain ⟨xf0, xf1, xf2, xf3, xf4⟩ := id X2
  obtain ⟨yf0, yf1, yf2, yf3, yf4⟩ := id Y2
  go_wp2_with fail
  clear xf0 xf1 xf2 xf3 xf4 yf0 yf1 yf2 yf3 yf4
  refine (valid_y l d _ H.out).mono ?_
  rintro e w3 ⟨rfl, hb⟩
  have B3 := Lib.hid (B2.out.up hb)
  have K3 := Lib.hid (K2.out.below hb)
  have X3 := X2.up hb
  have Y3 := Y2.up hb
  clear hb B2 K2 X2 Y2
  obtain ⟨xf0, xf1, xf2, xf3, xf4⟩ := id X3
  obtain ⟨yf0, yf1, yf2, yf3, yf4⟩ := id Y3
  go_wp2_with fail
  go_ret
  exact ⟨rfl, B3.out.out⟩
set_option maxRecDepth 100000 in
set_option maxHeartbeats 2000000 in
theorem scalesL_c (l d n : Int) (w : World) (h : Va l d) (g : ¬ Va (l - n) d) (n0 : -9 ≤ n) (n1 : n ≤ 9) (hk : KT w) :
    Calls Tryd.prog 7 #[.agg #[.int .i64 l, .int .i64 d], .int .i64 n] w fun e w' => e = .returned (.bool true) ∧ Below w.heap.size w w' := by
  have H := Lib.hid h
  have G := Lib.hid g
  clear g
  obtain ⟨l0, l1, d0, d1⟩ := h
  have hM := Lib.hid (wrap_in (l - n) (by omega))
  have a0 : decide (n < -9) = false := decide_eq_false (by omega)
  have a1 : decide (9 < n) = false := decide_eq_false (by omega)
  have B0 := Lib.hid ((Bel.refl w).alloc (.cells #[.int .i64 l, .int .i64 d] 23))
  have K0 := Lib.hid ((Lib.hid hk).out.below ((Below.refl _ _).alloc (Nat.le_refl _) (.cells #[.int .i64 l, .int .i64 d] 23)))
  have X0 := Duo.new w (.int .i64 l) (.int .i64 d) 23 (w.heap.size) (by simp)
  clear hk
  go_enter Tryd.func7, Tryd.ntmps7
  obtain ⟨xf0, xf1, xf2, xf3, xf4⟩ := id X0
  go_wp2_with fail
  clear xf0 xf1 xf2 xf3 xf4
  refine (scale_b l d n _ _ H.out G.out hM.out).mono ?_
  rintro e w1 ⟨rfl, hb⟩
  have B1 := Lib.hid ((B0.out.up hb).alloc (.cells #[.int .i64 0, .int .i64 0] 23))
  have K1 := Lib.hid ((K0.out.below hb).below ((Below.refl _ _).alloc (Nat.le_refl _) (.cells #[.int .i64 0, .int .i64 0] 23)))
  have X1 := (X0.up hb).alloc (.cells #[.int .i64 0, .int .i64 0] 23)
  have Y1 := Duo.new w1 (.int .i64 0) (.int .i64 0) 23 (w1.heap.size) (by simp)
  clear hb B0 K0 X0
  obtain ⟨xf0, xf1, xf2, xf3, xf4⟩ := id X1
  obtain ⟨yf0, yf1, yf2, yf3, yf4⟩ := id Y1
  go_wp2_with fail
  clear xf0 xf1 xf2 xf3 xf4 yf0 yf1 yf2 yf3 yf4
  refine (known_ok _ K1.out).mono ?_
  rintro e w2 ⟨rfl, hb⟩
  have B2 := Lib.hid (B1.out.up hb)
  have K2 := Lib.hid (K1.out.below hb)
  have X2 := X1.up hb
  have Y2 := Y1.up hb
  clear hb B1 K1 X1 Y1
  obtain ⟨xf0, xf1, xf2, xf3, xf4⟩ := id X2
  obtain ⟨yf0, yf1, yf2, yf3, yf4⟩ := id Y2
  go_wp2_with fail
  clear xf0 xf1 xf2 xf3 xf4 yf0 yf1 yf2 yf3 yf4
  refine (valid_y l d _ H.out).mono ?_
  rintro e w3 ⟨rfl, hb⟩
  have B3 := Lib.hid (B2.out.up hb)
  have K3 := Lib.hid (K2.out.below hb)
  have X3 := X2.up hb
  have Y3 := Y2.up hb
  clear hb B2 K2 X2 Y2
  obtain ⟨xf0, xf1, xf2, xf3, xf4⟩ := id X3
  obtain ⟨yf0, yf1, yf2, yf3, yf4⟩ := id Y3
  go_wp2_with fail
  clear xf0 xf1 xf2 xf3 xf4 yf0 yf1 yf2 yf3 yf4
  refine (valid_n (l - n) d _ G.out).mono ?_
  rintro e w4 ⟨rfl, hb⟩
  have B4 := Lib.hid (B3.out.up hb)
  have K4 := Lib.hid (K3.out.below hb)
  have X4 := X3.up hb
  have Y4 := Y3.up hb
  clear hb B3 K3 X3 Y3
  obtain ⟨xf0, xf1, xf2, xf3, xf4⟩ := id X4
  obtain ⟨yf0, yf1, yf2, yf3, yf4⟩ := id Y4
  go_wp2_with fail
  go_ret
  exact ⟨rfl, B4.out.out⟩
set_option maxRecDepth 100000 in
set_option maxHeartbeats 2000000 in
theorem scalesL_p (l d n : Int) (w : World) (h : Va l d) (g : Va (l - n) d) (n0 : 0 ≤ n) (n1 : n ≤ 9) (hk : KT w) :
    Calls Tryd.prog 7 #[.agg #[.int .i64 l, .int .i64 d], .int .i64 n] w fun e w' => e = .returned (.bool true) ∧ Below w.heap.size w w' := by
  have H := Lib.hid h
  have G := Lib.hid g
  clear g
  obtain ⟨l0, l1, d0, d1⟩ := h
  have g0 := G.out.l0
  have g1 := G.out.l1
  have hM := Lib.hid (wrap_in (l - n) (by omega))
  have a0 : decide (n < -9) = false := decide_eq_false (by omega)
  have a1 : decide (9 < n) = false := decide_eq_false (by omega)
  have B0 := Lib.hid ((Bel.refl w).alloc (.cells #[.int .i64 l, .int .i64 d] 23))
  have K0 := Lib.hid ((Lib.hid hk).out.below ((Below.refl _ _).alloc (Nat.le_refl _) (.cells #[.int .i64 l, .int .i64 d] 23)))
  have X0 := Duo.new w (.int .i64 l) (.int .i64 d) 23 (w.heap.size) (by simp)
  clear hk
  go_enter Tryd.func7, Tryd.ntmps7
  obtain ⟨xf0, xf1, xf2, xf3, xf4⟩ := id X0
  go_wp2_with fail
  clear xf0 xf1 xf2 xf3 xf4
  refine (scale_y l d n _ _ H.out G.out hM.out).mono ?_
  rintro e w1 ⟨rfl, hb⟩
  have B1 := Lib.hid ((B0.out.up hb).alloc (.cells #[.int .i64 (l - n), .int .i64 d] 23))
  have K1 := Lib.hid ((K0.out.below hb).below ((Below.refl _ _).alloc (Nat.le_refl _) (.cells #[.int .i64 (l - n), .int .i64 d] 23)))
  have X1 := (X0.up hb).alloc (.cells #[.int .i64 (l - n), .int .i64 d] 23)
  have Y1 := Duo.new w1 (.int .i64 (l - n)) (.int .i64 d) 23 (w1.heap.size) (by simp)
  clear hb B0 K0 X0
  obtain ⟨xf0, xf1, xf2, xf3, xf4⟩ := id X1
  obtain ⟨yf0, yf1, yf2, yf3, yf4⟩ := id Y1
  go_wp2_with fail
  clear xf0 xf1 xf2 xf3 xf4 yf0 yf1 yf2 yf3 yf4
  refine (known_ok _ K1.out).mono ?_
  rintro e w2 ⟨rfl, hb⟩
  have B2 := Lib.hid (B1.out.up hb)
  have K2 := Lib.hid (K1.out.below hb)
  have X2 := X1.up hb
  have Y2 := Y1.up hb
  clear hb B1 K1 X1 Y1
  obtain ⟨xf0, xf1, xf2, xf3, xf4⟩ := id X2
  obtain ⟨yf0, yf1, yf2, yf3, yf4⟩ := id Y2
  go_wp2_with fail
  clear xf0 xf1 xf2 xf3 xf4 yf0 yf1 yf2 yf3 yf4
  refine (valid_y l d _ H.out).mono ?_
  rintro e w3 ⟨rfl, hb⟩
  have B3 := Lib.hid (B2.out.up hb)
  have K3 := Lib.hid (K2.out.below hb)
  have X3 := X2.up hb
  have Y3 := Y2.up hb
  clear hb B2 K2 X2 Y2
  obtain ⟨xf0, xf1, xf2, xf3, xf4⟩ := id X3
  obtain ⟨yf0, yf1, yf2, yf3, yf4⟩ := id Y3
  go_wp2_with fail
  clear xf0 xf1 xf2 xf3 xf4 yf0 yf1 yf2 yf3 yf4
  refine (valid_y (l - n) d _ G.out).mono ?_
  rintro e w4 ⟨rfl, hb⟩
  have B4 := Lib.hid (B3.out.up hb)
  have K4 := Lib.hid (K3.out.below hb)
  have X4 := X3.up hb
  have Y4 := Y3.up hb
  clear hb B3 K3 X3 Y3
  obtain ⟨xf0, xf1, xf2, xf3, xf4⟩ := id X4
  obtain ⟨yf0, yf1, yf2, yf3, yf4⟩ := id Y4
  go_wp2_with fail
  clear xf0 xf1 xf2 xf3 xf4 yf0 yf1 yf2 yf3 yf4
  refine (rticks_ok l d _ H.out).mono ?_
  rintro e w5 ⟨rfl, hb⟩
  have B5 := Lib.hid (B4.out.up hb)
  have K5 := Lib.hid (K4.out.below hb)
  have X5 := X4.up hb
  have Y5 := Y4.up hb
  clear hb B4 K4 X4 Y4
  obtain ⟨xf0, xf1, xf2, xf3, xf4⟩ := id X5
  obtain ⟨yf0, yf1, yf2, yf3, yf4⟩ := id Y5
  go_wp2_with fail
  clear xf0 xf1 xf2 xf3 xf4 yf0 yf1 yf2 yf3 yf4
  have HX := Lib.hid X5
  have HY := Lib.hid Y5
  clear X5 Y5
  obtain ⟨m, rfl⟩ : ∃ m : Nat, n = (m : Int) := ⟨n.toNat, by omega⟩
  go_loopg [7, 8] m (fun gm t i wr => ∃ k : Nat, k ≤ m ∧ gm = m - k ∧ i = .int .i64 (k : Int) ∧ t = .int .i64 (lenV (l - (k : Int)) d) ∧ Hid (Bel w wr) ∧ Hid (Duo wr w.heap.size (.int .i64 l) (.int .i64 d)) ∧ Hid (Duo wr w1.heap.size (.int .i64 (l - (m : Int))) (.int .i64 d)))
  case atStart => exact ⟨0, by omega, by omega, rfl, by rw [show l - ((0 : Nat) : Int) = l by omega], B5, HX, HY⟩
  case round =>
    clear B5 HX HY
    obtain ⟨k, hk, rfl, rfl, rfl, HB, HX, HY⟩ := hrel
    by_cases hlt : k < m
    · have V0 : Va (l - (k : Int)) d := ⟨by omega, by omega, d0, d1⟩
      have V1 := lenV_dbl V0 ⟨by omega, by omega, d0, d1⟩
      obtain ⟨u0, u1⟩ := lenV_bd V0
      obtain ⟨U, hU⟩ : ∃ U, lenV (l - (k : Int)) d = U := ⟨_, rfl⟩
      rw [hU] at V1 u0 u1 ⊢
      have HU := Lib.hid V1
      clear V0 V1 hU
      go_wp2_with fail
      go_roundg (m - (k + 1))
      case measure => omega
      case rel => exact ⟨k + 1, by omega, rfl, by go_num, by rw [HU.out, show l - (k : Int) - 1 = l - ((k + 1 : Nat) : Int) by omega], HB, HX, HY⟩
    · obtain rfl : k = m := by omega
      go_wp2_with fail
      go_loopg [7, 9] 0 (fun gm t i wr => gm = 0 ∧ t = .int .i64 (lenV (l - (k : Int)) d) ∧ i = .int .i64 0 ∧ Hid (Bel w wr) ∧ Hid (Duo wr w.heap.size (.int .i64 l) (.int .i64 d)) ∧ Hid (Duo wr w1.heap.size (.int .i64 (l - (k : Int))) (.int .i64 d)))
      case atStart => exact ⟨rfl, rfl, rfl, HB, HX, HY⟩
      case round =>
        clear HB HX HY
        obtain ⟨rfl, rfl, rfl, HB, HX, HY⟩ := hrel
        obtain ⟨xf0, xf1, xf2, xf3, xf4⟩ := id HX.out
        obtain ⟨yf0, yf1, yf2, yf3, yf4⟩ := id HY.out
        go_wp2_with fail
        refine (rticks_ok (l - (k : Int)) d _ G.out).mono ?_
        rintro e w9 ⟨rfl, hb⟩
        have B9 := Lib.hid (HB.out.up hb)
        clear hb
        go_wp2_with fail
        go_ret
        exact ⟨rfl, B9.out.out⟩
end Go.Proofs.YtoobfcekgfgipaaDoor
