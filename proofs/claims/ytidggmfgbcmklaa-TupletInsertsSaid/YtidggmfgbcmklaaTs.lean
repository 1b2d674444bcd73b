/- Tuplets: the reference, In, Within, After. -/
import Derived.Test.YtidggmfgbcmklaaTr
namespace Go.Proofs.Ytidggmfgbcmklaa
open Go.RowKit
set_option linter.unusedVariables false
set_option linter.unusedSimpArgs false

set_option maxRecDepth 100000 in
set_option maxHeartbeats 2000000 in
theorem in_y (t : Tp) (x : Int) (w : World) (h : Sm t) (hx : t.has x) :
    Calls Try.prog 23 #[.agg #[.int .i64 t.F, .int .i64 t.C, .int .i64 t.A, .int .i64 t.N], .int .i64 x] w fun e w' => e = .returned (.bool true) ∧ Below w.heap.size w w' := by
  obtain ⟨f0, f1, c0, c1, e1⟩ := id h
  unfold Tp.has at hx
  obtain ⟨x0, x1⟩ := hx
  have g0 : decide (t.F ≤ x) = true := decide_eq_true x0
  have g1 : decide (x < t.F + t.C) = true := decide_eq_true x1
  clear x0 x1
  have B0 := Lib.hid ((Bel.refl w).alloc (.cells #[.int .i64 t.F, .int .i64 t.C, .int .i64 t.A, .int .i64 t.N] 39))
  have X0 := Quad.new w (.int .i64 t.F) (.int .i64 t.C) (.int .i64 t.A) (.int .i64 t.N) 39 (w.heap.size) (by simp)
  go_enter Try.func23, Try.ntmps23
  obtain ⟨xf0, xf1, xf2, xf3, xf4, xf5, xf6, xf7, xf8⟩ := id X0
  go_wp2_with fail
  go_ret
  exact ⟨rfl, B0.out.out⟩
set_option maxRecDepth 100000 in
set_option maxHeartbeats 2000000 in
theorem in_a (t : Tp) (x : Int) (w : World) (h : Sm t) (hx : ¬ t.F ≤ x) :
    Calls Try.prog 23 #[.agg #[.int .i64 t.F, .int .i64 t.C, .int .i64 t.A, .int .i64 t.N], .int .i64 x] w fun e w' => e = .returned (.bool false) ∧ Below w.heap.size w w' := by
  obtain ⟨f0, f1, c0, c1, e1⟩ := id h
  have g0 : decide (t.F ≤ x) = false := decide_eq_false hx
  clear hx
  have B0 := Lib.hid ((Bel.refl w).alloc (.cells #[.int .i64 t.F, .int .i64 t.C, .int .i64 t.A, .int .i64 t.N] 39))
  have X0 := Quad.new w (.int .i64 t.F) (.int .i64 t.C) (.int .i64 t.A) (.int .i64 t.N) 39 (w.heap.size) (by simp)
  go_enter Try.func23, Try.ntmps23
  obtain ⟨xf0, xf1, xf2, xf3, xf4, xf5, xf6, xf7, xf8⟩ := id X0
  go_wp2_with fail
  go_ret
  exact ⟨rfl, B0.out.out⟩
set_option maxRecDepth 100000 in
set_option maxHeartbeats 2000000 in
theorem in_b (t : Tp) (x : Int) (w : World) (h : Sm t) (x0 : t.F ≤ x) (hx : ¬ x < t.F + t.C) :
    Calls Try.prog 23 #[.agg #[.int .i64 t.F, .int .i64 t.C, .int .i64 t.A, .int .i64 t.N], .int .i64 x] w fun e w' => e = .returned (.bool false) ∧ Below w.heap.size w w' := by
  obtain ⟨f0, f1, c0, c1, e1⟩ := id h
  have g0 : decide (t.F ≤ x) = true := decide_eq_true x0
  have g1 : decide (x < t.F + t.C) = false := decide_eq_false hx
  clear x0 hx
  have B0 := Lib.hid ((Bel.refl w).alloc (.cells #[.int .i64 t.F, .int .i64 t.C, .int .i64 t.A, .int .i64 t.N] 39))
  have X0 := Quad.new w (.int .i64 t.F) (.int .i64 t.C) (.int .i64 t.A) (.int .i64 t.N) 39 (w.heap.size) (by simp)
  go_enter Try.func23, Try.ntmps23
  obtain ⟨xf0, xf1, xf2, xf3, xf4, xf5, xf6, xf7, xf8⟩ := id X0
  go_wp2_with fail
  go_ret
  exact ⟨rfl, B0.out.out⟩
theorem in_ok (t : Tp) (x : Int) (w : World) (h : Sm t) : Calls Try.prog 23 #[.agg #[.int .i64 t.F, .int .i64 t.C, .int .i64 t.A, .int .i64 t.N], .int .i64 x] w fun e w' => e = .returned (.bool (decide (t.has x))) ∧ Below w.heap.size w w' := by
  by_cases hx : t.has x
  · rw [decide_eq_true hx]; exact in_y t x w h hx
  · rw [decide_eq_false hx]
    by_cases h0 : t.F ≤ x
    · exact in_b t x w h h0 (fun h1 => hx ⟨h0, h1⟩)
    · exact in_a t x w h h0
set_option maxRecDepth 100000 in
set_option maxHeartbeats 2000000 in
theorem wi_a (a b : Tp) (w : World) (ha : Sm a) (hb : Sm b) (h : ¬ b.F ≤ a.F) :
    Calls Try.prog 31 #[.agg #[.int .i64 a.F, .int .i64 a.C, .int .i64 a.A, .int .i64 a.N], .agg #[.int .i64 b.F, .int .i64 b.C, .int .i64 b.A, .int .i64 b.N]] w fun e w' => e = .returned (.bool false) ∧ Below w.heap.size w w' := by
  obtain ⟨af0, af1, ac0, ac1, ae1⟩ := id ha
  obtain ⟨bf0, bf1, bc0, bc1, be1⟩ := id hb
  have g0 : decide (b.F ≤ a.F) = false := decide_eq_false h
  clear h
  have B0 := Lib.hid (((Bel.refl w).alloc (.cells #[.int .i64 a.F, .int .i64 a.C, .int .i64 a.A, .int .i64 a.N] 39)).alloc (.cells #[.int .i64 b.F, .int .i64 b.C, .int .i64 b.A, .int .i64 b.N] 39))
  have X0 := (Quad.new w (.int .i64 a.F) (.int .i64 a.C) (.int .i64 a.A) (.int .i64 a.N) 39 (w.heap.size) (by simp)).alloc (.cells #[.int .i64 b.F, .int .i64 b.C, .int .i64 b.A, .int .i64 b.N] 39)
  have Y0 := Quad.new (w.alloc (.cells #[.int .i64 a.F, .int .i64 a.C, .int .i64 a.A, .int .i64 a.N] 39)) (.int .i64 b.F) (.int .i64 b.C) (.int .i64 b.A) (.int .i64 b.N) 39 (w.heap.size + 1) (by simp)
  go_enter Try.func31, Try.ntmps31
  obtain ⟨xf0, xf1, xf2, xf3, xf4, xf5, xf6, xf7, xf8⟩ := id X0
  obtain ⟨yf0, yf1, yf2, yf3, yf4, yf5, yf6, yf7, yf8⟩ := id Y0
  go_wp2_with fail
  go_ret
  exact ⟨rfl, B0.out.out⟩
set_option maxRecDepth 100000 in
set_option maxHeartbeats 2000000 in
theorem wi_b (a b : Tp) (w : World) (ha : Sm a) (hb : Sm b) (h0 : b.F ≤ a.F) (h : ¬ a.F + a.C ≤ b.F + b.C) :
    Calls Try.prog 31 #[.agg #[.int .i64 a.F, .int .i64 a.C, .int .i64 a.A, .int .i64 a.N], .agg #[.int .i64 b.F, .int .i64 b.C, .int .i64 b.A, .int .i64 b.N]] w fun e w' => e = .returned (.bool false) ∧ Below w.heap.size w w' := by
  obtain ⟨af0, af1, ac0, ac1, ae1⟩ := id ha
  obtain ⟨bf0, bf1, bc0, bc1, be1⟩ := id hb
  have g0 : decide (b.F ≤ a.F) = true := decide_eq_true h0
  have g1 : decide (a.F + a.C ≤ b.F + b.C) = false := decide_eq_false h
  clear h h0
  have B0 := Lib.hid (((Bel.refl w).alloc (.cells #[.int .i64 a.F, .int .i64 a.C, .int .i64 a.A, .int .i64 a.N] 39)).alloc (.cells #[.int .i64 b.F, .int .i64 b.C, .int .i64 b.A, .int .i64 b.N] 39))
  have X0 := (Quad.new w (.int .i64 a.F) (.int .i64 a.C) (.int .i64 a.A) (.int .i64 a.N) 39 (w.heap.size) (by simp)).alloc (.cells #[.int .i64 b.F, .int .i64 b.C, .int .i64 b.A, .int .i64 b.N] 39)
  have Y0 := Quad.new (w.alloc (.cells #[.int .i64 a.F, .int .i64 a.C, .int .i64 a.A, .int .i64 a.N] 39)) (.int .i64 b.F) (.int .i64 b.C) (.int .i64 b.A) (.int .i64 b.N) 39 (w.heap.size + 1) (by simp)
  go_enter Try.func31, Try.ntmps31
  obtain ⟨xf0, xf1, xf2, xf3, xf4, xf5, xf6, xf7, xf8⟩ := id X0
  obtain ⟨yf0, yf1, yf2, yf3, yf4, yf5, yf6, yf7, yf8⟩ := id Y0
  go_wp2_with fail
  go_ret
  exact ⟨rfl, B0.out.out⟩
set_option maxRecDepth 100000 in
set_option maxHeartbeats 2000000 in
theorem wi_y (a b : Tp) (w : World) (ha : Sm a) (hb : Sm b) (h0 : b.F ≤ a.F) (h : a.F + a.C ≤ b.F + b.C) :
    Calls Try.prog 31 #[.agg #[.int .i64 a.F, .int .i64 a.C, .int .i64 a.A, .int .i64 a.N], .agg #[.int .i64 b.F, .int .i64 b.C, .int .i64 b.A, .int .i64 b.N]] w fun e w' => e = .returned (.bool true) ∧ Below w.heap.size w w' := by
  obtain ⟨af0, af1, ac0, ac1, ae1⟩ := id ha
  obtain ⟨bf0, bf1, bc0, bc1, be1⟩ := id hb
  have g0 : decide (b.F ≤ a.F) = true := decide_eq_true h0
  have g1 : decide (a.F + a.C ≤ b.F + b.C) = true := decide_eq_true h
  clear h h0
  have B0 := Lib.hid (((Bel.refl w).alloc (.cells #[.int .i64 a.F, .int .i64 a.C, .int .i64 a.A, .int .i64 a.N] 39)).alloc (.cells #[.int .i64 b.F, .int .i64 b.C, .int .i64 b.A, .int .i64 b.N] 39))
  have X0 := (Quad.new w (.int .i64 a.F) (.int .i64 a.C) (.int .i64 a.A) (.int .i64 a.N) 39 (w.heap.size) (by simp)).alloc (.cells #[.int .i64 b.F, .int .i64 b.C, .int .i64 b.A, .int .i64 b.N] 39)
  have Y0 := Quad.new (w.alloc (.cells #[.int .i64 a.F, .int .i64 a.C, .int .i64 a.A, .int .i64 a.N] 39)) (.int .i64 b.F) (.int .i64 b.C) (.int .i64 b.A) (.int .i64 b.N) 39 (w.heap.size + 1) (by simp)
  go_enter Try.func31, Try.ntmps31
  obtain ⟨xf0, xf1, xf2, xf3, xf4, xf5, xf6, xf7, xf8⟩ := id X0
  obtain ⟨yf0, yf1, yf2, yf3, yf4, yf5, yf6, yf7, yf8⟩ := id Y0
  go_wp2_with fail
  go_ret
  exact ⟨rfl, B0.out.out⟩
theorem within_ok (a b : Tp) (w : World) (ha : Sm a) (hb : Sm b) : Calls Try.prog 31 #[.agg #[.int .i64 a.F, .int .i64 a.C, .int .i64 a.A, .int .i64 a.N], .agg #[.int .i64 b.F, .int .i64 b.C, .int .i64 b.A, .int .i64 b.N]] w fun e w' => e = .returned (.bool (decide (wi a b))) ∧ Below w.heap.size w w' := by
  by_cases h0 : b.F ≤ a.F
  · by_cases h1 : a.F + a.C ≤ b.F + b.C
    · rw [show decide (wi a b) = true from decide_eq_true ⟨h0, h1⟩]; exact wi_y a b w ha hb h0 h1
    · rw [show decide (wi a b) = false from decide_eq_false (fun h => h1 h.2)]; exact wi_b a b w ha hb h0 h1
  · rw [show decide (wi a b) = false from decide_eq_false (fun h => h0 h.1)]; exact wi_a a b w ha hb h0
set_option maxRecDepth 100000 in
set_option maxHeartbeats 2000000 in
theorem af_a (a b : Tp) (w : World) (h : a.F < b.F) :
    Calls Try.prog 38 #[.agg #[.int .i64 a.F, .int .i64 a.C, .int .i64 a.A, .int .i64 a.N], .agg #[.int .i64 b.F, .int .i64 b.C, .int .i64 b.A, .int .i64 b.N]] w fun e w' => e = .returned (.bool true) ∧ Below w.heap.size w w' := by
  have g0 : decide (a.F < b.F) = true := decide_eq_true h
  clear h
  have B0 := Lib.hid (((Bel.refl w).alloc (.cells #[.int .i64 a.F, .int .i64 a.C, .int .i64 a.A, .int .i64 a.N] 39)).alloc (.cells #[.int .i64 b.F, .int .i64 b.C, .int .i64 b.A, .int .i64 b.N] 39))
  have X0 := (Quad.new w (.int .i64 a.F) (.int .i64 a.C) (.int .i64 a.A) (.int .i64 a.N) 39 (w.heap.size) (by simp)).alloc (.cells #[.int .i64 b.F, .int .i64 b.C, .int .i64 b.A, .int .i64 b.N] 39)
  have Y0 := Quad.new (w.alloc (.cells #[.int .i64 a.F, .int .i64 a.C, .int .i64 a.A, .int .i64 a.N] 39)) (.int .i64 b.F) (.int .i64 b.C) (.int .i64 b.A) (.int .i64 b.N) 39 (w.heap.size + 1) (by simp)
  go_enter Try.func38, Try.ntmps38
  obtain ⟨xf0, xf1, xf2, xf3, xf4, xf5, xf6, xf7, xf8⟩ := id X0
  obtain ⟨yf0, yf1, yf2, yf3, yf4, yf5, yf6, yf7, yf8⟩ := id Y0
  go_wp2_with fail
  go_ret
  exact ⟨rfl, B0.out.out⟩
set_option maxRecDepth 100000 in
set_option maxHeartbeats 2000000 in
theorem af_b (a b : Tp) (w : World) (h0 : ¬ a.F < b.F) (h : a.F ≠ b.F) :
    Calls Try.prog 38 #[.agg #[.int .i64 a.F, .int .i64 a.C, .int .i64 a.A, .int .i64 a.N], .agg #[.int .i64 b.F, .int .i64 b.C, .int .i64 b.A, .int .i64 b.N]] w fun e w' => e = .returned (.bool false) ∧ Below w.heap.size w w' := by
  have g0 : decide (a.F < b.F) = false := decide_eq_false h0
  have g1 : (a.F == b.F) = false := by simpa using h
  clear h h0
  have B0 := Lib.hid (((Bel.refl w).alloc (.cells #[.int .i64 a.F, .int .i64 a.C, .int .i64 a.A, .int .i64 a.N] 39)).alloc (.cells #[.int .i64 b.F, .int .i64 b.C, .int .i64 b.A, .int .i64 b.N] 39))
  have X0 := (Quad.new w (.int .i64 a.F) (.int .i64 a.C) (.int .i64 a.A) (.int .i64 a.N) 39 (w.heap.size) (by simp)).alloc (.cells #[.int .i64 b.F, .int .i64 b.C, .int .i64 b.A, .int .i64 b.N] 39)
  have Y0 := Quad.new (w.alloc (.cells #[.int .i64 a.F, .int .i64 a.C, .int .i64 a.A, .int .i64 a.N] 39)) (.int .i64 b.F) (.int .i64 b.C) (.int .i64 b.A) (.int .i64 b.N) 39 (w.heap.size + 1) (by simp)
  go_enter Try.func38, Try.ntmps38
  obtain ⟨xf0, xf1, xf2, xf3, xf4, xf5, xf6, xf7, xf8⟩ := id X0
  obtain ⟨yf0, yf1, yf2, yf3, yf4, yf5, yf6, yf7, yf8⟩ := id Y0
  go_wp2_with fail
  go_ret
  exact ⟨rfl, B0.out.out⟩
set_option maxRecDepth 100000 in
set_option maxHeartbeats 2000000 in
theorem af_c (a b : Tp) (w : World) (h0 : ¬ a.F < b.F) (h1 : a.F = b.F) (h : b.C < a.C) :
    Calls Try.prog 38 #[.agg #[.int .i64 a.F, .int .i64 a.C, .int .i64 a.A, .int .i64 a.N], .agg #[.int .i64 b.F, .int .i64 b.C, .int .i64 b.A, .int .i64 b.N]] w fun e w' => e = .returned (.bool true) ∧ Below w.heap.size w w' := by
  have g0 : decide (a.F < b.F) = false := decide_eq_false h0
  have g1 : (a.F == b.F) = true := by simpa using h1
  have g2 : decide (b.C < a.C) = true := decide_eq_true h
  clear h h0 h1
  have B0 := Lib.hid (((Bel.refl w).alloc (.cells #[.int .i64 a.F, .int .i64 a.C, .int .i64 a.A, .int .i64 a.N] 39)).alloc (.cells #[.int .i64 b.F, .int .i64 b.C, .int .i64 b.A, .int .i64 b.N] 39))
  have X0 := (Quad.new w (.int .i64 a.F) (.int .i64 a.C) (.int .i64 a.A) (.int .i64 a.N) 39 (w.heap.size) (by simp)).alloc (.cells #[.int .i64 b.F, .int .i64 b.C, .int .i64 b.A, .int .i64 b.N] 39)
  have Y0 := Quad.new (w.alloc (.cells #[.int .i64 a.F, .int .i64 a.C, .int .i64 a.A, .int .i64 a.N] 39)) (.int .i64 b.F) (.int .i64 b.C) (.int .i64 b.A) (.int .i64 b.N) 39 (w.heap.size + 1) (by simp)
  go_enter Try.func38, Try.ntmps38
  obtain ⟨xf0, xf1, xf2, xf3, xf4, xf5, xf6, xf7, xf8⟩ := id X0
  obtain ⟨yf0, yf1, yf2, yf3, yf4, yf5, yf6, yf7, yf8⟩ := id Y0
  go_wp2_with fail
  go_ret
  exact ⟨rfl, B0.out.out⟩
set_option maxRecDepth 100000 in
set_option maxHeartbeats 2000000 in
theorem af_d (a b : Tp) (w : World) (h0 : ¬ a.F < b.F) (h1 : a.F = b.F) (h : ¬ b.C < a.C) :
    Calls Try.prog 38 #[.agg #[.int .i64 a.F, .int .i64 a.C, .int .i64 a.A, .int .i64 a.N], .agg #[.int .i64 b.F, .int .i64 b.C, .int .i64 b.A, .int .i64 b.N]] w fun e w' => e = .returned (.bool false) ∧ Below w.heap.size w w' := by
  have g0 : decide (a.F < b.F) = false := decide_eq_false h0
  have g1 : (a.F == b.F) = true := by simpa using h1
  have g2 : decide (b.C < a.C) = false := decide_eq_false h
  clear h h0 h1
  have B0 := Lib.hid (((Bel.refl w).alloc (.cells #[.int .i64 a.F, .int .i64 a.C, .int .i64 a.A, .int .i64 a.N] 39)).alloc (.cells #[.int .i64 b.F, .int .i64 b.C, .int .i64 b.A, .int .i64 b.N] 39))
  have X0 := (Quad.new w (.int .i64 a.F) (.int .i64 a.C) (.int .i64 a.A) (.int .i64 a.N) 39 (w.heap.size) (by simp)).alloc (.cells #[.int .i64 b.F, .int .i64 b.C, .int .i64 b.A, .int .i64 b.N] 39)
  have Y0 := Quad.new (w.alloc (.cells #[.int .i64 a.F, .int .i64 a.C, .int .i64 a.A, .int .i64 a.N] 39)) (.int .i64 b.F) (.int .i64 b.C) (.int .i64 b.A) (.int .i64 b.N) 39 (w.heap.size + 1) (by simp)
  go_enter Try.func38, Try.ntmps38
  obtain ⟨xf0, xf1, xf2, xf3, xf4, xf5, xf6, xf7, xf8⟩ := id X0
  obtain ⟨yf0, yf1, yf2, yf3, yf4, yf5, yf6, yf7, yf8⟩ := id Y0
  go_wp2_with fail
  go_ret
  exact ⟨rfl, B0.out.out⟩
theorem after_ok (a b : Tp) (w : World) : Calls Try.prog 38 #[.agg #[.int .i64 a.F, .int .i64 a.C, .int .i64 a.A, .int .i64 a.N], .agg #[.int .i64 b.F, .int .i64 b.C, .int .i64 b.A, .int .i64 b.N]] w fun e w' => e = .returned (.bool (decide (a.after b))) ∧ Below w.heap.size w w' := by
  by_cases h0 : a.F < b.F
  · rw [show decide (a.after b) = true from decide_eq_true (.inl h0)]; exact af_a a b w h0
  · by_cases h1 : a.F = b.F
    · by_cases h2 : b.C < a.C
      · rw [show decide (a.after b) = true from decide_eq_true (.inr ⟨h1, h2⟩)]; exact af_c a b w h0 h1 h2
      · rw [show decide (a.after b) = false from decide_eq_false (by unfold Tp.after; omega)]; exact af_d a b w h0 h1 h2
    · rw [show decide (a.after b) = false from decide_eq_false (by unfold Tp.after; omega)]; exact af_b a b w h0 h1
end Go.Proofs.Ytidggmfgbcmklaa
