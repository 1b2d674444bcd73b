/- Spans: the reference's Compare, in. -/
import Derived.Test.YtabafabebodojaaDoorSd
namespace Go.Proofs.YtabafabebodojaaDoor
open Go.RowKit
set_option linter.unusedVariables false
set_option linter.unusedSimpArgs false

set_option maxRecDepth 100000 in
set_option maxHeartbeats 2000000 in
theorem rcompare_0 (a b : Pl) (w : World) (h0 : a.m < b.m) :
    Calls Tryd.prog 19 #[.agg #[.int .i64 a.m, .int .i64 a.a, .int .i64 a.s, .int .i64 a.v], .agg #[.int .i64 b.m, .int .i64 b.a, .int .i64 b.s, .int .i64 b.v]] w fun e w' => e = .returned (.int .i64 (-1)) ∧ Below w.heap.size w w' := by
  have g0 : decide (a.m < b.m) = true := decide_eq_true h0
  have B0 := Lib.hid (((Bel.refl w).alloc (.cells #[.int .i64 a.m, .int .i64 a.a, .int .i64 a.s, .int .i64 a.v] 23)).alloc (.cells #[.int .i64 b.m, .int .i64 b.a, .int .i64 b.s, .int .i64 b.v] 23))
  have X0 := (Quad.new w (.int .i64 a.m) (.int .i64 a.a) (.int .i64 a.s) (.int .i64 a.v) 23 (w.heap.size) (by simp)).alloc (.cells #[.int .i64 b.m, .int .i64 b.a, .int .i64 b.s, .int .i64 b.v] 23)
  have Y0 := Quad.new (w.alloc (.cells #[.int .i64 a.m, .int .i64 a.a, .int .i64 a.s, .int .i64 a.v] 23)) (.int .i64 b.m) (.int .i64 b.a) (.int .i64 b.s) (.int .i64 b.v) 23 (w.heap.size + 1) (by simp)
  go_enter Tryd.func19, Tryd.ntmps19
  obtain ⟨xf0, xf1, xf2, xf3, xf4, xf5, xf6, xf7, xf8⟩ := id X0
  obtain ⟨yf0, yf1, yf2, yf3, yf4, yf5, yf6, yf7, yf8⟩ := id Y0
  go_wp2_with fail
  go_ret
  exact ⟨rfl, B0.out.out⟩
set_option maxRecDepth 100000 in
set_option maxHeartbeats 2000000 in
theorem rcompare_1 (a b : Pl) (w : World) (h0 : ¬ a.m < b.m) (h1 : a.m = b.m) (h2 : a.a < b.a) :
    Calls Tryd.prog 19 #[.agg #[.int .i64 a.m, .int .i64 a.a, .int .i64 a.s, .int .i64 a.v], .agg #[.int .i64 b.m, .int .i64 b.a, .int .i64 b.s, .int .i64 b.v]] w fun e w' => e = .returned (.int .i64 (-1)) ∧ Below w.heap.size w w' := by
  have g0 : decide (a.m < b.m) = false := decide_eq_false h0
  have e1 : (a.m == b.m) = true := by simpa using h1
  clear h0 h1
  have g2 : decide (a.a < b.a) = true := decide_eq_true h2
  have B0 := Lib.hid (((Bel.refl w).alloc (.cells #[.int .i64 a.m, .int .i64 a.a, .int .i64 a.s, .int .i64 a.v] 23)).alloc (.cells #[.int .i64 b.m, .int .i64 b.a, .int .i64 b.s, .int .i64 b.v] 23))
  have X0 := (Quad.new w (.int .i64 a.m) (.int .i64 a.a) (.int .i64 a.s) (.int .i64 a.v) 23 (w.heap.size) (by simp)).alloc (.cells #[.int .i64 b.m, .int .i64 b.a, .int .i64 b.s, .int .i64 b.v] 23)
  have Y0 := Quad.new (w.alloc (.cells #[.int .i64 a.m, .int .i64 a.a, .int .i64 a.s, .int .i64 a.v] 23)) (.int .i64 b.m) (.int .i64 b.a) (.int .i64 b.s) (.int .i64 b.v) 23 (w.heap.size + 1) (by simp)
  go_enter Tryd.func19, Tryd.ntmps19
  obtain ⟨xf0, xf1, xf2, xf3, xf4, xf5, xf6, xf7, xf8⟩ := id X0
  obtain ⟨yf0, yf1, yf2, yf3, yf4, yf5, yf6, yf7, yf8⟩ := id Y0
  go_wp2_with fail
  go_ret
  exact ⟨rfl, B0.out.out⟩
set_option maxRecDepth 100000 in
set_option maxHeartbeats 2000000 in
theorem rcompare_2 (a b : Pl) (w : World) (h0 : ¬ a.m < b.m) (h1 : a.m = b.m) (h2 : ¬ a.a < b.a) (h3 : a.a = b.a) :
    Calls Tryd.prog 19 #[.agg #[.int .i64 a.m, .int .i64 a.a, .int .i64 a.s, .int .i64 a.v], .agg #[.int .i64 b.m, .int .i64 b.a, .int .i64 b.s, .int .i64 b.v]] w fun e w' => e = .returned (.int .i64 0) ∧ Below w.heap.size w w' := by
  have g0 : decide (a.m < b.m) = false := decide_eq_false h0
  have e1 : (a.m == b.m) = true := by simpa using h1
  clear h0 h1
  have g2 : decide (a.a < b.a) = false := decide_eq_false h2
  have e3 : (a.a == b.a) = true := by simpa using h3
  clear h2 h3
  have B0 := Lib.hid (((Bel.refl w).alloc (.cells #[.int .i64 a.m, .int .i64 a.a, .int .i64 a.s, .int .i64 a.v] 23)).alloc (.cells #[.int .i64 b.m, .int .i64 b.a, .int .i64 b.s, .int .i64 b.v] 23))
  have X0 := (Quad.new w (.int .i64 a.m) (.int .i64 a.a) (.int .i64 a.s) (.int .i64 a.v) 23 (w.heap.size) (by simp)).alloc (.cells #[.int .i64 b.m, .int .i64 b.a, .int .i64 b.s, .int .i64 b.v] 23)
  have Y0 := Quad.new (w.alloc (.cells #[.int .i64 a.m, .int .i64 a.a, .int .i64 a.s, .int .i64 a.v] 23)) (.int .i64 b.m) (.int .i64 b.a) (.int .i64 b.s) (.int .i64 b.v) 23 (w.heap.size + 1) (by simp)
  go_enter Tryd.func19, Tryd.ntmps19
  obtain ⟨xf0, xf1, xf2, xf3, xf4, xf5, xf6, xf7, xf8⟩ := id X0
  obtain ⟨yf0, yf1, yf2, yf3, yf4, yf5, yf6, yf7, yf8⟩ := id Y0
  go_wp2_with fail
  go_ret
  exact ⟨rfl, B0.out.out⟩
set_option maxRecDepth 100000 in
set_option maxHeartbeats 2000000 in
theorem rcompare_3 (a b : Pl) (w : World) (h0 : ¬ a.m < b.m) (h1 : a.m = b.m) (h2 : ¬ a.a < b.a) (h3 : a.a ≠ b.a) :
    Calls Tryd.prog 19 #[.agg #[.int .i64 a.m, .int .i64 a.a, .int .i64 a.s, .int .i64 a.v], .agg #[.int .i64 b.m, .int .i64 b.a, .int .i64 b.s, .int .i64 b.v]] w fun e w' => e = .returned (.int .i64 1) ∧ Below w.heap.size w w' := by
  have g0 : decide (a.m < b.m) = false := decide_eq_false h0
  have e1 : (a.m == b.m) = true := by simpa using h1
  clear h0 h1
  have g2 : decide (a.a < b.a) = false := decide_eq_false h2
  have e3 : (a.a == b.a) = false := by simpa using h3
  clear h2 h3
  have B0 := Lib.hid (((Bel.refl w).alloc (.cells #[.int .i64 a.m, .int .i64 a.a, .int .i64 a.s, .int .i64 a.v] 23)).alloc (.cells #[.int .i64 b.m, .int .i64 b.a, .int .i64 b.s, .int .i64 b.v] 23))
  have X0 := (Quad.new w (.int .i64 a.m) (.int .i64 a.a) (.int .i64 a.s) (.int .i64 a.v) 23 (w.heap.size) (by simp)).alloc (.cells #[.int .i64 b.m, .int .i64 b.a, .int .i64 b.s, .int .i64 b.v] 23)
  have Y0 := Quad.new (w.alloc (.cells #[.int .i64 a.m, .int .i64 a.a, .int .i64 a.s, .int .i64 a.v] 23)) (.int .i64 b.m) (.int .i64 b.a) (.int .i64 b.s) (.int .i64 b.v) 23 (w.heap.size + 1) (by simp)
  go_enter Tryd.func19, Tryd.ntmps19
  obtain ⟨xf0, xf1, xf2, xf3, xf4, xf5, xf6, xf7, xf8⟩ := id X0
  obtain ⟨yf0, yf1, yf2, yf3, yf4, yf5, yf6, yf7, yf8⟩ := id Y0
  go_wp2_with fail
  go_ret
  exact ⟨rfl, B0.out.out⟩
set_option maxRecDepth 100000 in
set_option maxHeartbeats 2000000 in
theorem rcompare_4 (a b : Pl) (w : World) (h0 : ¬ a.m < b.m) (h1 : a.m ≠ b.m) :
    Calls Tryd.prog 19 #[.agg #[.int .i64 a.m, .int .i64 a.a, .int .i64 a.s, .int .i64 a.v], .agg #[.int .i64 b.m, .int .i64 b.a, .int .i64 b.s, .int .i64 b.v]] w fun e w' => e = .returned (.int .i64 1) ∧ Below w.heap.size w w' := by
  have g0 : decide (a.m < b.m) = false := decide_eq_false h0
  have e1 : (a.m == b.m) = false := by simpa using h1
  clear h0 h1
  have B0 := Lib.hid (((Bel.refl w).alloc (.cells #[.int .i64 a.m, .int .i64 a.a, .int .i64 a.s, .int .i64 a.v] 23)).alloc (.cells #[.int .i64 b.m, .int .i64 b.a, .int .i64 b.s, .int .i64 b.v] 23))
  have X0 := (Quad.new w (.int .i64 a.m) (.int .i64 a.a) (.int .i64 a.s) (.int .i64 a.v) 23 (w.heap.size) (by simp)).alloc (.cells #[.int .i64 b.m, .int .i64 b.a, .int .i64 b.s, .int .i64 b.v] 23)
  have Y0 := Quad.new (w.alloc (.cells #[.int .i64 a.m, .int .i64 a.a, .int .i64 a.s, .int .i64 a.v] 23)) (.int .i64 b.m) (.int .i64 b.a) (.int .i64 b.s) (.int .i64 b.v) 23 (w.heap.size + 1) (by simp)
  go_enter Tryd.func19, Tryd.ntmps19
  obtain ⟨xf0, xf1, xf2, xf3, xf4, xf5, xf6, xf7, xf8⟩ := id X0
  obtain ⟨yf0, yf1, yf2, yf3, yf4, yf5, yf6, yf7, yf8⟩ := id Y0
  go_wp2_with fail
  go_ret
  exact ⟨rfl, B0.out.out⟩
theorem rcompare_at (a b : Pl) (c : Int) (w : World) (h : cmpP a b = c) : Calls Tryd.prog 19 #[.agg #[.int .i64 a.m, .int .i64 a.a, .int .i64 a.s, .int .i64 a.v], .agg #[.int .i64 b.m, .int .i64 b.a, .int .i64 b.s, .int .i64 b.v]] w fun e w' => e = .returned (.int .i64 c) ∧ Below w.heap.size w w' := by
  subst h
  by_cases h0 : a.m < b.m
  · rw [show cmpP a b = -1 from by simp [cmpP, orF2, cmpI, h0]]; exact rcompare_0 a b w h0
  · by_cases h1 : a.m = b.m
    · by_cases h2 : a.a < b.a
      · rw [show cmpP a b = -1 from by simp [cmpP, orF2, cmpI, h1, h2]]; exact rcompare_1 a b w h0 h1 h2
      · by_cases h3 : a.a = b.a
        · rw [show cmpP a b = 0 from by simp [cmpP, orF2, cmpI, h1, h3]]; exact rcompare_2 a b w h0 h1 h2 h3
        · rw [show cmpP a b = 1 from by simp [cmpP, orF2, cmpI, h1, h2]; omega]; exact rcompare_3 a b w h0 h1 h2 h3
    · rw [show cmpP a b = 1 from by simp [cmpP, orF2, cmpI, h0]; omega]; exact rcompare_4 a b w h0 h1
set_option maxRecDepth 100000 in
set_option maxHeartbeats 2000000 in
theorem rin_0 (p : Pl) (w : World)  (h0 : ¬ 0 ≤ p.m) :
    Calls Tryd.prog 41 #[.agg #[.int .i64 p.m, .int .i64 p.a, .int .i64 p.s, .int .i64 p.v]] w fun e w' => e = .returned (.bool false) ∧ Below w.heap.size w w' := by
  have g0 : decide (0 ≤ p.m) = false := decide_eq_false h0
  have B0 := Lib.hid ((Bel.refl w).alloc (.cells #[.int .i64 p.m, .int .i64 p.a, .int .i64 p.s, .int .i64 p.v] 23))
  have X0 := Quad.new w (.int .i64 p.m) (.int .i64 p.a) (.int .i64 p.s) (.int .i64 p.v) 23 (w.heap.size) (by simp)
  go_enter Tryd.func41, Tryd.ntmps41
  obtain ⟨xf0, xf1, xf2, xf3, xf4, xf5, xf6, xf7, xf8⟩ := id X0
  go_wp2_with fail
  go_ret
  exact ⟨rfl, B0.out.out⟩
set_option maxRecDepth 100000 in
set_option maxHeartbeats 2000000 in
theorem rin_1 (p : Pl) (w : World) (h0 : 0 ≤ p.m) (h1 : ¬ p.m < 1024) :
    Calls Tryd.prog 41 #[.agg #[.int .i64 p.m, .int .i64 p.a, .int .i64 p.s, .int .i64 p.v]] w fun e w' => e = .returned (.bool false) ∧ Below w.heap.size w w' := by
  have g0 : decide (0 ≤ p.m) = true := decide_eq_true h0
  have g1 : decide (p.m < 1024) = false := decide_eq_false h1
  have B0 := Lib.hid ((Bel.refl w).alloc (.cells #[.int .i64 p.m, .int .i64 p.a, .int .i64 p.s, .int .i64 p.v] 23))
  have X0 := Quad.new w (.int .i64 p.m) (.int .i64 p.a) (.int .i64 p.s) (.int .i64 p.v) 23 (w.heap.size) (by simp)
  go_enter Tryd.func41, Tryd.ntmps41
  obtain ⟨xf0, xf1, xf2, xf3, xf4, xf5, xf6, xf7, xf8⟩ := id X0
  go_wp2_with fail
  go_ret
  exact ⟨rfl, B0.out.out⟩
set_option maxRecDepth 100000 in
set_option maxHeartbeats 2000000 in
theorem rin_2 (p : Pl) (w : World) (h0 : 0 ≤ p.m) (h1 : p.m < 1024) (h2 : ¬ 0 ≤ p.a) :
    Calls Tryd.prog 41 #[.agg #[.int .i64 p.m, .int .i64 p.a, .int .i64 p.s, .int .i64 p.v]] w fun e w' => e = .returned (.bool false) ∧ Below w.heap.size w w' := by
  have g0 : decide (0 ≤ p.m) = true := decide_eq_true h0
  have g1 : decide (p.m < 1024) = true := decide_eq_true h1
  have g2 : decide (0 ≤ p.a) = false := decide_eq_false h2
  have B0 := Lib.hid ((Bel.refl w).alloc (.cells #[.int .i64 p.m, .int .i64 p.a, .int .i64 p.s, .int .i64 p.v] 23))
  have X0 := Quad.new w (.int .i64 p.m) (.int .i64 p.a) (.int .i64 p.s) (.int .i64 p.v) 23 (w.heap.size) (by simp)
  go_enter Tryd.func41, Tryd.ntmps41
  obtain ⟨xf0, xf1, xf2, xf3, xf4, xf5, xf6, xf7, xf8⟩ := id X0
  go_wp2_with fail
  go_ret
  exact ⟨rfl, B0.out.out⟩
set_option maxRecDepth 100000 in
set_option maxHeartbeats 2000000 in
theorem rin_3 (p : Pl) (w : World) (h0 : 0 ≤ p.m) (h1 : p.m < 1024) (h2 : 0 ≤ p.a) (h3 : ¬ p.a ≤ 4398046511104) :
    Calls Tryd.prog 41 #[.agg #[.int .i64 p.m, .int .i64 p.a, .int .i64 p.s, .int .i64 p.v]] w fun e w' => e = .returned (.bool false) ∧ Below w.heap.size w w' := by
  have g0 : decide (0 ≤ p.m) = true := decide_eq_true h0
  have g1 : decide (p.m < 1024) = true := decide_eq_true h1
  have g2 : decide (0 ≤ p.a) = true := decide_eq_true h2
  have g3 : decide (p.a ≤ 4398046511104) = false := decide_eq_false h3
  have B0 := Lib.hid ((Bel.refl w).alloc (.cells #[.int .i64 p.m, .int .i64 p.a, .int .i64 p.s, .int .i64 p.v] 23))
  have X0 := Quad.new w (.int .i64 p.m) (.int .i64 p.a) (.int .i64 p.s) (.int .i64 p.v) 23 (w.heap.size) (by simp)
  go_enter Tryd.func41, Tryd.ntmps41
  obtain ⟨xf0, xf1, xf2, xf3, xf4, xf5, xf6, xf7, xf8⟩ := id X0
  go_wp2_with fail
  go_ret
  exact ⟨rfl, B0.out.out⟩
set_option maxRecDepth 100000 in
set_option maxHeartbeats 2000000 in
theorem rin_4 (p : Pl) (w : World) (h0 : 0 ≤ p.m) (h1 : p.m < 1024) (h2 : 0 ≤ p.a) (h3 : p.a ≤ 4398046511104) (h4 : ¬ 0 ≤ p.s) :
    Calls Tryd.prog 41 #[.agg #[.int .i64 p.m, .int .i64 p.a, .int .i64 p.s, .int .i64 p.v]] w fun e w' => e = .returned (.bool false) ∧ Below w.heap.size w w' := by
  have g0 : decide (0 ≤ p.m) = true := decide_eq_true h0
  have g1 : decide (p.m < 1024) = true := decide_eq_true h1
  have g2 : decide (0 ≤ p.a) = true := decide_eq_true h2
  have g3 : decide (p.a ≤ 4398046511104) = true := decide_eq_true h3
  have g4 : decide (0 ≤ p.s) = false := decide_eq_false h4
  have B0 := Lib.hid ((Bel.refl w).alloc (.cells #[.int .i64 p.m, .int .i64 p.a, .int .i64 p.s, .int .i64 p.v] 23))
  have X0 := Quad.new w (.int .i64 p.m) (.int .i64 p.a) (.int .i64 p.s) (.int .i64 p.v) 23 (w.heap.size) (by simp)
  go_enter Tryd.func41, Tryd.ntmps41
  obtain ⟨xf0, xf1, xf2, xf3, xf4, xf5, xf6, xf7, xf8⟩ := id X0
  go_wp2_with fail
  go_ret
  exact ⟨rfl, B0.out.out⟩
set_option maxRecDepth 100000 in
set_option maxHeartbeats 2000000 in
theorem rin_5 (p : Pl) (w : World) (h0 : 0 ≤ p.m) (h1 : p.m < 1024) (h2 : 0 ≤ p.a) (h3 : p.a ≤ 4398046511104) (h4 : 0 ≤ p.s) (h5 : ¬ p.s < 128) :
    Calls Tryd.prog 41 #[.agg #[.int .i64 p.m, .int .i64 p.a, .int .i64 p.s, .int .i64 p.v]] w fun e w' => e = .returned (.bool false) ∧ Below w.heap.size w w' := by
  have g0 : decide (0 ≤ p.m) = true := decide_eq_true h0
  have g1 : decide (p.m < 1024) = true := decide_eq_true h1
  have g2 : decide (0 ≤ p.a) = true := decide_eq_true h2
  have g3 : decide (p.a ≤ 4398046511104) = true := decide_eq_true h3
  have g4 : decide (0 ≤ p.s) = true := decide_eq_true h4
  have g5 : decide (p.s < 128) = false := decide_eq_false h5
  have B0 := Lib.hid ((Bel.refl w).alloc (.cells #[.int .i64 p.m, .int .i64 p.a, .int .i64 p.s, .int .i64 p.v] 23))
  have X0 := Quad.new w (.int .i64 p.m) (.int .i64 p.a) (.int .i64 p.s) (.int .i64 p.v) 23 (w.heap.size) (by simp)
  go_enter Tryd.func41, Tryd.ntmps41
  obtain ⟨xf0, xf1, xf2, xf3, xf4, xf5, xf6, xf7, xf8⟩ := id X0
  go_wp2_with fail
  go_ret
  exact ⟨rfl, B0.out.out⟩
set_option maxRecDepth 100000 in
set_option maxHeartbeats 2000000 in
theorem rin_6 (p : Pl) (w : World) (h0 : 0 ≤ p.m) (h1 : p.m < 1024) (h2 : 0 ≤ p.a) (h3 : p.a ≤ 4398046511104) (h4 : 0 ≤ p.s) (h5 : p.s < 128) (h6 : ¬ 0 ≤ p.v) :
    Calls Tryd.prog 41 #[.agg #[.int .i64 p.m, .int .i64 p.a, .int .i64 p.s, .int .i64 p.v]] w fun e w' => e = .returned (.bool false) ∧ Below w.heap.size w w' := by
  have g0 : decide (0 ≤ p.m) = true := decide_eq_true h0
  have g1 : decide (p.m < 1024) = true := decide_eq_true h1
  have g2 : decide (0 ≤ p.a) = true := decide_eq_true h2
  have g3 : decide (p.a ≤ 4398046511104) = true := decide_eq_true h3
  have g4 : decide (0 ≤ p.s) = true := decide_eq_true h4
  have g5 : decide (p.s < 128) = true := decide_eq_true h5
  have g6 : decide (0 ≤ p.v) = false := decide_eq_false h6
  have B0 := Lib.hid ((Bel.refl w).alloc (.cells #[.int .i64 p.m, .int .i64 p.a, .int .i64 p.s, .int .i64 p.v] 23))
  have X0 := Quad.new w (.int .i64 p.m) (.int .i64 p.a) (.int .i64 p.s) (.int .i64 p.v) 23 (w.heap.size) (by simp)
  go_enter Tryd.func41, Tryd.ntmps41
  obtain ⟨xf0, xf1, xf2, xf3, xf4, xf5, xf6, xf7, xf8⟩ := id X0
  go_wp2_with fail
  go_ret
  exact ⟨rfl, B0.out.out⟩
set_option maxRecDepth 100000 in
set_option maxHeartbeats 2000000 in
theorem rin_7 (p : Pl) (w : World) (h0 : 0 ≤ p.m) (h1 : p.m < 1024) (h2 : 0 ≤ p.a) (h3 : p.a ≤ 4398046511104) (h4 : 0 ≤ p.s) (h5 : p.s < 128) (h6 : 0 ≤ p.v) (h7 : ¬ p.v < 2) :
    Calls Tryd.prog 41 #[.agg #[.int .i64 p.m, .int .i64 p.a, .int .i64 p.s, .int .i64 p.v]] w fun e w' => e = .returned (.bool false) ∧ Below w.heap.size w w' := by
  have g0 : decide (0 ≤ p.m) = true := decide_eq_true h0
  have g1 : decide (p.m < 1024) = true := decide_eq_true h1
  have g2 : decide (0 ≤ p.a) = true := decide_eq_true h2
  have g3 : decide (p.a ≤ 4398046511104) = true := decide_eq_true h3
  have g4 : decide (0 ≤ p.s) = true := decide_eq_true h4
  have g5 : decide (p.s < 128) = true := decide_eq_true h5
  have g6 : decide (0 ≤ p.v) = true := decide_eq_true h6
  have g7 : decide (p.v < 2) = false := decide_eq_false h7
  have B0 := Lib.hid ((Bel.refl w).alloc (.cells #[.int .i64 p.m, .int .i64 p.a, .int .i64 p.s, .int .i64 p.v] 23))
  have X0 := Quad.new w (.int .i64 p.m) (.int .i64 p.a) (.int .i64 p.s) (.int .i64 p.v) 23 (w.heap.size) (by simp)
  go_enter Tryd.func41, Tryd.ntmps41
  obtain ⟨xf0, xf1, xf2, xf3, xf4, xf5, xf6, xf7, xf8⟩ := id X0
  go_wp2_with fail
  go_ret
  exact ⟨rfl, B0.out.out⟩
set_option maxRecDepth 100000 in
set_option maxHeartbeats 2000000 in
theorem rin_8 (p : Pl) (w : World) (h0 : 0 ≤ p.m) (h1 : p.m < 1024) (h2 : 0 ≤ p.a) (h3 : p.a ≤ 4398046511104) (h4 : 0 ≤ p.s) (h5 : p.s < 128) (h6 : 0 ≤ p.v) (h7 : p.v < 2) :
    Calls Tryd.prog 41 #[.agg #[.int .i64 p.m, .int .i64 p.a, .int .i64 p.s, .int .i64 p.v]] w fun e w' => e = .returned (.bool true) ∧ Below w.heap.size w w' := by
  have g0 : decide (0 ≤ p.m) = true := decide_eq_true h0
  have g1 : decide (p.m < 1024) = true := decide_eq_true h1
  have g2 : decide (0 ≤ p.a) = true := decide_eq_true h2
  have g3 : decide (p.a ≤ 4398046511104) = true := decide_eq_true h3
  have g4 : decide (0 ≤ p.s) = true := decide_eq_true h4
  have g5 : decide (p.s < 128) = true := decide_eq_true h5
  have g6 : decide (0 ≤ p.v) = true := decide_eq_true h6
  have g7 : decide (p.v < 2) = true := decide_eq_true h7
  have B0 := Lib.hid ((Bel.refl w).alloc (.cells #[.int .i64 p.m, .int .i64 p.a, .int .i64 p.s, .int .i64 p.v] 23))
  have X0 := Quad.new w (.int .i64 p.m) (.int .i64 p.a) (.int .i64 p.s) (.int .i64 p.v) 23 (w.heap.size) (by simp)
  go_enter Tryd.func41, Tryd.ntmps41
  obtain ⟨xf0, xf1, xf2, xf3, xf4, xf5, xf6, xf7, xf8⟩ := id X0
  go_wp2_with fail
  go_ret
  exact ⟨rfl, B0.out.out⟩
theorem isP_iff (p : Pl) : isP p = true ↔ 0 ≤ p.m ∧ p.m < 1024 ∧ 0 ≤ p.a ∧ p.a ≤ 4398046511104 ∧ 0 ≤ p.s ∧ p.s < 128 ∧ 0 ≤ p.v ∧ p.v < 2 := by
  simp only [isP, upTo, Bool.and_eq_true, decide_eq_true_eq]
  omega
theorem rin_at (p : Pl) (b : Bool) (w : World) (h : isP p = b) : Calls Tryd.prog 41 #[.agg #[.int .i64 p.m, .int .i64 p.a, .int .i64 p.s, .int .i64 p.v]] w fun e w' => e = .returned (.bool b) ∧ Below w.heap.size w w' := by
  subst h
  have no : ¬ (0 ≤ p.m ∧ p.m < 1024 ∧ 0 ≤ p.a ∧ p.a ≤ 4398046511104 ∧ 0 ≤ p.s ∧ p.s < 128 ∧ 0 ≤ p.v ∧ p.v < 2) → isP p = false := fun h => by
    cases e : isP p
    · rfl
    · exact absurd ((isP_iff p).1 e) h
  by_cases h0 : 0 ≤ p.m
  case neg => rw [no (by omega)]; exact rin_0 p w h0
  case pos =>
    by_cases h1 : p.m < 1024
    case neg => rw [no (by omega)]; exact rin_1 p w h0 h1
    case pos =>
      by_cases h2 : 0 ≤ p.a
      case neg => rw [no (by omega)]; exact rin_2 p w h0 h1 h2
      case pos =>
        by_cases h3 : p.a ≤ 4398046511104
        case neg => rw [no (by omega)]; exact rin_3 p w h0 h1 h2 h3
        case pos =>
          by_cases h4 : 0 ≤ p.s
          case neg => rw [no (by omega)]; exact rin_4 p w h0 h1 h2 h3 h4
          case pos =>
            by_cases h5 : p.s < 128
            case neg => rw [no (by omega)]; exact rin_5 p w h0 h1 h2 h3 h4 h5
            case pos =>
              by_cases h6 : 0 ≤ p.v
              case neg => rw [no (by omega)]; exact rin_6 p w h0 h1 h2 h3 h4 h5 h6
              case pos =>
                by_cases h7 : p.v < 2
                case neg => rw [no (by omega)]; exact rin_7 p w h0 h1 h2 h3 h4 h5 h6 h7
                case pos =>
                  rw [(isP_iff p).2 ⟨h0, h1, h2, h3, h4, h5, h6, h7⟩]; exact rin_8 p w h0 h1 h2 h3 h4 h5 h6 h7
end Go.Proofs.YtabafabebodojaaDoor
