/- Intervals: Check, Add, Sub, Negate. -/
import Derived.Test.YtfbogakmhaiddaaDoorPe
namespace Go.Proofs.YtfbogakmhaiddaaDoor
open Go.RowKit
set_option linter.unusedVariables false
set_option linter.unusedSimpArgs false

/-- two cells of a block -/
structure Duo (w : World) (b : Nat) (x y : Value) : Prop where
  lt : b < w.heap.size
  c0 : w.cell? ⟨b, 0, none⟩ = some x
  c1 : w.cell? ⟨b, 1, none⟩ = some y
  f0 : w.frozen? ⟨b, 0, none⟩ = false
  f1 : w.frozen? ⟨b, 1, none⟩ = false
theorem Duo.up {w w' : World} {b : Nat} {x y : Value} (h : Duo w b x y) (hb : Below w.heap.size w w') : Duo w' b x y :=
  ⟨Nat.lt_of_lt_of_le h.lt hb.size, (hb.cell (p := ⟨b, 0, none⟩) h.lt).trans h.c0, (hb.cell (p := ⟨b, 1, none⟩) h.lt).trans h.c1, (hb.frozen (p := ⟨b, 0, none⟩) h.lt).trans h.f0, (hb.frozen (p := ⟨b, 1, none⟩) h.lt).trans h.f1⟩
theorem Duo.alloc {w : World} {b : Nat} {x y : Value} (h : Duo w b x y) (o : Obj) : Duo (w.alloc o) b x y := h.up ((Below.refl _ _).alloc (Nat.le_refl _) o)
theorem Duo.drewN {w : World} {b : Nat} {x y : Value} (h : Duo w b x y) (n : Nat) : Duo (w.drewN n) b x y := ⟨h.lt, h.c0, h.c1, h.f0, h.f1⟩
theorem Duo.new (w : World) (x y : Value) (t : TypeId) (n : Nat) (hn : n = w.heap.size) : Duo (w.alloc (.cells #[x, y] t)) n x y := by
  subst hn
  exact ⟨by simp, by simp, by simp, by simp [go_sem], by simp [go_sem]⟩
theorem Duo.store {w : World} {b : Nat} {x y u v : Value} (h : Duo w b x y) : Duo ((w.setCell ⟨b, 0, none⟩ u).setCell ⟨b, 1, none⟩ v) b u v := by
  obtain ⟨h0, h1, h2, h3, h4⟩ := h
  exact ⟨by simpa [go_sem] using h0, by simp [go_sem, *], by simp [go_sem, *], by simp [go_sem, *], by simp [go_sem, *]⟩
/-- a valid interval -/
structure Iv (t m : Int) : Prop where
  t0 : -77 ≤ t
  t1 : t ≤ 77
  m0 : -140 ≤ m
  m1 : m ≤ 140
instance (t m : Int) : Decidable (Iv t m) := decidable_of_iff (-77 ≤ t ∧ t ≤ 77 ∧ -140 ≤ m ∧ m ≤ 140) ⟨fun ⟨a, b, c, d⟩ => ⟨a, b, c, d⟩, fun ⟨a, b, c, d⟩ => ⟨a, b, c, d⟩⟩
theorem not_iv {t m : Int} (h : ¬ Iv t m) : t < -77 ∨ -77 ≤ t ∧ (77 < t ∨ t ≤ 77 ∧ (m < -140 ∨ -140 ≤ m ∧ 140 < m)) := by
  have h' : ¬ (-77 ≤ t ∧ t ≤ 77 ∧ -140 ≤ m ∧ m ≤ 140) := fun ⟨a, b, c, d⟩ => h ⟨a, b, c, d⟩
  omega
set_option maxRecDepth 100000 in
set_option maxHeartbeats 1000000 in
theorem checkI_ok (t m : Int) (w : World) (h : Iv t m) :
    Calls Tryd.prog 16 #[.agg #[.int .i64 t, .int .i64 m]] w fun e w' => e = .returned (.int .i64 0) ∧ Below w.heap.size w w' := by
  obtain ⟨t0, t1, m0, m1⟩ := h
  go_enter Tryd.func16, Tryd.ntmps16
  go_wp2_with fail
  go_ret
  exact ⟨rfl, by first | exact (Below.refl _ _).alloc (Nat.le_refl _) _ | exact below_drewN ((Below.refl _ _).alloc (Nat.le_refl _) _) _⟩
set_option maxRecDepth 100000 in
set_option maxHeartbeats 1000000 in
theorem checkI_bad (t m : Int) (w : World) (h : ¬ Iv t m) :
    Calls Tryd.prog 16 #[.agg #[.int .i64 t, .int .i64 m]] w fun e w' => e = .returned (.int .i64 2) ∧ Below w.heap.size w w' := by
  rcases not_iv h with h1 | ⟨t0, h1 | ⟨t1, h1 | ⟨m0, h1⟩⟩⟩
  all_goals
    clear h
    go_enter Tryd.func16, Tryd.ntmps16
    go_wp2_with fail
    go_ret
    exact ⟨rfl, by first | exact (Below.refl _ _).alloc (Nat.le_refl _) _ | exact below_drewN ((Below.refl _ _).alloc (Nat.le_refl _) _) _⟩
def isI (t m : Int) : Bool := decide (Iv t m)
set_option maxRecDepth 100000 in
set_option maxHeartbeats 1000000 in
theorem refIs_any (t m : Int) (w : World) :
    Calls Tryd.prog 17 #[.agg #[.int .i64 t, .int .i64 m]] w fun e w' => e = .returned (.bool (isI t m)) ∧ Below w.heap.size w w' := by
  by_cases h : Iv t m
  · have e : isI t m = true := by simp [isI, h]
    rw [e]
    obtain ⟨t0, t1, m0, m1⟩ := h
    go_enter Tryd.func17, Tryd.ntmps17
    go_wp2_with fail
    go_ret
    exact ⟨by first | rfl | (simp [go_sem]; done) | (simp [go_sem]; omega), by first | exact (Below.refl _ _).alloc (Nat.le_refl _) _ | exact below_drewN ((Below.refl _ _).alloc (Nat.le_refl _) _) _⟩
  · have e : isI t m = false := by simp [isI, h]
    rw [e]
    rcases not_iv h with h1 | ⟨t0, h1 | ⟨t1, h1 | ⟨m0, h1⟩⟩⟩
    all_goals
      clear h
      go_enter Tryd.func17, Tryd.ntmps17
      go_wp2_with fail
      go_ret
      exact ⟨by first | rfl | (simp [go_sem]; done) | (simp [go_sem]; omega), by first | exact (Below.refl _ _).alloc (Nat.le_refl _) _ | exact below_drewN ((Below.refl _ _).alloc (Nat.le_refl _) _) _⟩
set_option maxRecDepth 100000 in
set_option maxHeartbeats 1000000 in
theorem plus_add (t m u v : Int) (w : World) (h : Iv t m) (k : Iv u v) :
    Calls Tryd.prog 36 #[.agg #[.int .i64 t, .int .i64 m], .agg #[.int .i64 u, .int .i64 v], .int .i64 1] w fun e w' => e = .returned (.agg #[.int .i64 (t + u), .int .i64 (m + v)]) ∧ Below w.heap.size w w' := by
  obtain ⟨t0, t1, m0, m1⟩ := h
  obtain ⟨u0, u1, v0, v1⟩ := k
  go_enter Tryd.func36, Tryd.ntmps36
  go_wp2_with fail
  try (go_quiet (fail); go_wp2_with fail)
  exact bodyPost_ret (v := .agg #[.int .i64 (t + u), .int .i64 (m + v)]) (by first | (simp [results, Tryd.results36, go_sem]; done) | (simp [results, Tryd.results36, go_sem]; omega)) rfl ⟨rfl, by repeat (first | exact Below.refl _ _ | refine below_drewN ?_ _ | refine Below.drew ?_ | refine Below.alloc ?_ (by simp <;> omega) _)⟩
set_option maxRecDepth 100000 in
set_option maxHeartbeats 1000000 in
theorem plus_sub (t m u v : Int) (w : World) (h : Iv t m) (k : Iv u v) :
    Calls Tryd.prog 36 #[.agg #[.int .i64 t, .int .i64 m], .agg #[.int .i64 u, .int .i64 v], .int .i64 (-1)] w fun e w' => e = .returned (.agg #[.int .i64 (t - u), .int .i64 (m - v)]) ∧ Below w.heap.size w w' := by
  obtain ⟨t0, t1, m0, m1⟩ := h
  obtain ⟨u0, u1, v0, v1⟩ := k
  go_enter Tryd.func36, Tryd.ntmps36
  go_wp2_with fail
  try (go_quiet (fail); go_wp2_with fail)
  exact bodyPost_ret (v := .agg #[.int .i64 (t - u), .int .i64 (m - v)]) (by first | (simp [results, Tryd.results36, go_sem]; done) | (simp [results, Tryd.results36, go_sem]; omega)) rfl ⟨rfl, by repeat (first | exact Below.refl _ _ | refine below_drewN ?_ _ | refine Below.drew ?_ | refine Below.alloc ?_ (by simp <;> omega) _)⟩
set_option maxRecDepth 100000 in
set_option maxHeartbeats 1000000 in
theorem plus_oct (t m n : Int) (w : World) (h : Iv t m) (n0 : -11 ≤ n) (n1 : n ≤ 11) :
    Calls Tryd.prog 36 #[.agg #[.int .i64 t, .int .i64 m], .agg #[.int .i64 7, .int .i64 12], .int .i64 n] w fun e w' => e = .returned (.agg #[.int .i64 (t + n * 7), .int .i64 (m + n * 12)]) ∧ Below w.heap.size w w' := by
  obtain ⟨t0, t1, m0, m1⟩ := h
  go_enter Tryd.func36, Tryd.ntmps36
  go_wp2_with fail
  try (go_quiet (fail); go_wp2_with fail)
  exact bodyPost_ret (v := .agg #[.int .i64 (t + n * 7), .int .i64 (m + n * 12)]) (by first | (simp [results, Tryd.results36, go_sem]; done) | (simp [results, Tryd.results36, go_sem]; omega)) rfl ⟨rfl, by repeat (first | exact Below.refl _ _ | refine below_drewN ?_ _ | refine Below.drew ?_ | refine Below.alloc ?_ (by simp <;> omega) _)⟩
set_option maxRecDepth 100000 in
set_option maxHeartbeats 2000000 in
theorem checked_ok (t m : Int) (w : World) (h : Iv t m) :
    Calls Tryd.prog 35 #[.agg #[.int .i64 t, .int .i64 m]] w fun e w' => e = .returned (.tuple #[.agg #[.int .i64 t, .int .i64 m], .int .i64 0]) ∧ Below w.heap.size w w' := by
  have B0 := Lib.hid (((Bel.refl w).alloc (.cells #[.int .i64 t, .int .i64 m] 23)).alloc (.cells #[.int .i64 0, .int .i64 0] 23))
  have X0 := (Duo.new w (.int .i64 t) (.int .i64 m) 23 (w.heap.size) (by simp)).alloc (.cells #[.int .i64 0, .int .i64 0] 23)
  have R0 := Duo.new (w.alloc (.cells #[.int .i64 t, .int .i64 m] 23)) (.int .i64 0) (.int .i64 0) 23 (w.heap.size + 1) (by simp)
  have HP := Lib.hid h
  go_enter Tryd.func35, Tryd.ntmps35
  obtain ⟨xf0, xf1, xf2, xf3, xf4⟩ := id X0
  obtain ⟨rf0, rf1, rf2, rf3, rf4⟩ := id R0
  go_wp2_with fail
  clear xf0 xf1 xf2 xf3 xf4 rf0 rf1 rf2 rf3 rf4
  refine (checkI_ok t m _ HP.out).mono ?_
  rintro e w1 ⟨rfl, hb⟩
  have B1 := Lib.hid (B0.out.up hb)
  have X1 := X0.up hb
  have R1 := R0.up hb
  clear hb B0  X0 R0
  obtain ⟨xf0, xf1, xf2, xf3, xf4⟩ := id X1
  obtain ⟨rf0, rf1, rf2, rf3, rf4⟩ := id R1
  go_wp2_with fail
  have Tf := R1.store (u := .int .i64 t) (v := .int .i64 m)
  exact bodyPost_ret (v := .tuple #[.agg #[.int .i64 t, .int .i64 m], .int .i64 0]) (by first | (simp [results, Tryd.results35, go_sem, Tf.c0, Tf.c1]; done) | (simp [results, Tryd.results35, go_sem, Tf.c0, Tf.c1]; omega)) rfl ⟨rfl, ((B1.out.set (Nat.le_succ _) _ _).set (Nat.le_succ _) _ _)⟩
set_option maxRecDepth 100000 in
set_option maxHeartbeats 2000000 in
theorem checked_bad (t m : Int) (w : World) (h : ¬ Iv t m) :
    Calls Tryd.prog 35 #[.agg #[.int .i64 t, .int .i64 m]] w fun e w' => e = .returned (.tuple #[.agg #[.int .i64 0, .int .i64 0], .int .i64 2]) ∧ Below w.heap.size w w' := by
  have B0 := Lib.hid (((Bel.refl w).alloc (.cells #[.int .i64 t, .int .i64 m] 23)).alloc (.cells #[.int .i64 0, .int .i64 0] 23))
  have X0 := (Duo.new w (.int .i64 t) (.int .i64 m) 23 (w.heap.size) (by simp)).alloc (.cells #[.int .i64 0, .int .i64 0] 23)
  have R0 := Duo.new (w.alloc (.cells #[.int .i64 t, .int .i64 m] 23)) (.int .i64 0) (.int .i64 0) 23 (w.heap.size + 1) (by simp)
  have HP := Lib.hid h
  go_enter Tryd.func35, Tryd.ntmps35
  obtain ⟨xf0, xf1, xf2, xf3, xf4⟩ := id X0
  obtain ⟨rf0, rf1, rf2, rf3, rf4⟩ := id R0
  go_wp2_with fail
  clear xf0 xf1 xf2 xf3 xf4 rf0 rf1 rf2 rf3 rf4
  refine (checkI_bad t m _ HP.out).mono ?_
  rintro e w1 ⟨rfl, hb⟩
  have B1 := Lib.hid (B0.out.up hb)
  have X1 := X0.up hb
  have R1 := R0.up hb
  clear hb B0  X0 R0
  obtain ⟨xf0, xf1, xf2, xf3, xf4⟩ := id X1
  obtain ⟨rf0, rf1, rf2, rf3, rf4⟩ := id R1
  go_wp2_with fail
  have Tf := R1.store (u := .int .i64 0) (v := .int .i64 0)
  exact bodyPost_ret (v := .tuple #[.agg #[.int .i64 0, .int .i64 0], .int .i64 2]) (by first | (simp [results, Tryd.results35, go_sem, Tf.c0, Tf.c1]; done) | (simp [results, Tryd.results35, go_sem, Tf.c0, Tf.c1]; omega)) rfl ⟨rfl, ((B1.out.set (Nat.le_succ _) _ _).set (Nat.le_succ _) _ _)⟩
end Go.Proofs.YtfbogakmhaiddaaDoor
