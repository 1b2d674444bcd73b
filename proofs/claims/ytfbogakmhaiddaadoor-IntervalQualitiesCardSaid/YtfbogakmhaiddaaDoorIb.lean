/- Intervals: Add, Sub, Negate and the reference's Sum. -/
import Derived.Test.YtfbogakmhaiddaaDoorIa
namespace Go.Proofs.YtfbogakmhaiddaaDoor
open Go.RowKit
set_option linter.unusedVariables false
set_option linter.unusedSimpArgs false

def addI (t m u v : Int) : Int × Int × Int := if Iv t m ∧ Iv u v ∧ Iv (t + u) (m + v) then (t + u, m + v, 0) else (0, 0, 2)
def subI (t m u v : Int) : Int × Int × Int := if Iv t m ∧ Iv u v ∧ Iv (t - u) (m - v) then (t - u, m - v, 0) else (0, 0, 2)
set_option maxRecDepth 100000 in
set_option maxHeartbeats 2000000 in
theorem add_n1 (t m u v : Int) (w : World) (h : ¬ Iv t m) :
    Calls Tryd.prog 11 #[.agg #[.int .i64 t, .int .i64 m], .agg #[.int .i64 u, .int .i64 v]] w fun e w' => e = .returned (.tuple #[.agg #[.int .i64 0, .int .i64 0], .int .i64 2]) ∧ Below w.heap.size w w' := by
  have B0 := Lib.hid ((((Bel.refl w).alloc (.cells #[.int .i64 t, .int .i64 m] 23)).alloc (.cells #[.int .i64 u, .int .i64 v] 23)).alloc (.cells #[.int .i64 0, .int .i64 0] 23))
  have X0 := ((Duo.new w (.int .i64 t) (.int .i64 m) 23 (w.heap.size) (by simp)).alloc (.cells #[.int .i64 u, .int .i64 v] 23)).alloc (.cells #[.int .i64 0, .int .i64 0] 23)
  have Y0 := (Duo.new (w.alloc (.cells #[.int .i64 t, .int .i64 m] 23)) (.int .i64 u) (.int .i64 v) 23 (w.heap.size + 1) (by simp)).alloc (.cells #[.int .i64 0, .int .i64 0] 23)
  have R0 := Duo.new ((w.alloc (.cells #[.int .i64 t, .int .i64 m] 23)).alloc (.cells #[.int .i64 u, .int .i64 v] 23)) (.int .i64 0) (.int .i64 0) 23 (w.heap.size + 1 + 1) (by simp)
  have HP := Lib.hid h
  go_enter Tryd.func11, Tryd.ntmps11
  obtain ⟨xf0, xf1, xf2, xf3, xf4⟩ := id X0
  obtain ⟨yf0, yf1, yf2, yf3, yf4⟩ := id Y0
  obtain ⟨rf0, rf1, rf2, rf3, rf4⟩ := id R0
  go_wp2_with fail
  clear xf0 xf1 xf2 xf3 xf4 yf0 yf1 yf2 yf3 yf4 rf0 rf1 rf2 rf3 rf4
  refine (checkI_bad t m _ HP.out).mono ?_
  rintro e w1 ⟨rfl, hb⟩
  have B1 := Lib.hid (B0.out.up hb)
  have X1 := X0.up hb
  have Y1 := Y0.up hb
  have R1 := R0.up hb
  clear hb B0  X0 Y0 R0
  obtain ⟨xf0, xf1, xf2, xf3, xf4⟩ := id X1
  obtain ⟨yf0, yf1, yf2, yf3, yf4⟩ := id Y1
  obtain ⟨rf0, rf1, rf2, rf3, rf4⟩ := id R1
  go_wp2_with fail
  have Tf := R1.store (u := .int .i64 0) (v := .int .i64 0)
  exact bodyPost_ret (v := .tuple #[.agg #[.int .i64 0, .int .i64 0], .int .i64 2]) (by first | (simp [results, Tryd.results11, go_sem, Tf.c0, Tf.c1]; done) | (simp [results, Tryd.results11, go_sem, Tf.c0, Tf.c1]; omega)) rfl ⟨rfl, ((B1.out.set (Nat.le_succ_of_le (Nat.le_succ _)) _ _).set (Nat.le_succ_of_le (Nat.le_succ _)) _ _)⟩
set_option maxRecDepth 100000 in
set_option maxHeartbeats 2000000 in
theorem add_n2 (t m u v : Int) (w : World) (h : Iv t m) (k : ¬ Iv u v) :
    Calls Tryd.prog 11 #[.agg #[.int .i64 t, .int .i64 m], .agg #[.int .i64 u, .int .i64 v]] w fun e w' => e = .returned (.tuple #[.agg #[.int .i64 0, .int .i64 0], .int .i64 2]) ∧ Below w.heap.size w w' := by
  have B0 := Lib.hid ((((Bel.refl w).alloc (.cells #[.int .i64 t, .int .i64 m] 23)).alloc (.cells #[.int .i64 u, .int .i64 v] 23)).alloc (.cells #[.int .i64 0, .int .i64 0] 23))
  have X0 := ((Duo.new w (.int .i64 t) (.int .i64 m) 23 (w.heap.size) (by simp)).alloc (.cells #[.int .i64 u, .int .i64 v] 23)).alloc (.cells #[.int .i64 0, .int .i64 0] 23)
  have Y0 := (Duo.new (w.alloc (.cells #[.int .i64 t, .int .i64 m] 23)) (.int .i64 u) (.int .i64 v) 23 (w.heap.size + 1) (by simp)).alloc (.cells #[.int .i64 0, .int .i64 0] 23)
  have R0 := Duo.new ((w.alloc (.cells #[.int .i64 t, .int .i64 m] 23)).alloc (.cells #[.int .i64 u, .int .i64 v] 23)) (.int .i64 0) (.int .i64 0) 23 (w.heap.size + 1 + 1) (by simp)
  have HP := Lib.hid h
  have HQ := Lib.hid k
  go_enter Tryd.func11, Tryd.ntmps11
  obtain ⟨xf0, xf1, xf2, xf3, xf4⟩ := id X0
  obtain ⟨yf0, yf1, yf2, yf3, yf4⟩ := id Y0
  obtain ⟨rf0, rf1, rf2, rf3, rf4⟩ := id R0
  go_wp2_with fail
  clear xf0 xf1 xf2 xf3 xf4 yf0 yf1 yf2 yf3 yf4 rf0 rf1 rf2 rf3 rf4
  refine (checkI_ok t m _ HP.out).mono ?_
  rintro e w1 ⟨rfl, hb⟩
  have B1 := Lib.hid (B0.out.up hb)
  have X1 := X0.up hb
  have Y1 := Y0.up hb
  have R1 := R0.up hb
  clear hb B0  X0 Y0 R0
  obtain ⟨xf0, xf1, xf2, xf3, xf4⟩ := id X1
  obtain ⟨yf0, yf1, yf2, yf3, yf4⟩ := id Y1
  obtain ⟨rf0, rf1, rf2, rf3, rf4⟩ := id R1
  go_wp2_with fail
  clear xf0 xf1 xf2 xf3 xf4 yf0 yf1 yf2 yf3 yf4 rf0 rf1 rf2 rf3 rf4
  refine (checkI_bad u v _ HQ.out).mono ?_
  rintro e w2 ⟨rfl, hb⟩
  have B2 := Lib.hid (B1.out.up hb)
  have X2 := X1.up hb
  have Y2 := Y1.up hb
  have R2 := R1.up hb
  clear hb B1  X1 Y1 R1
  obtain ⟨xf0, xf1, xf2, xf3, xf4⟩ := id X2
  obtain ⟨yf0, yf1, yf2, yf3, yf4⟩ := id Y2
  obtain ⟨rf0, rf1, rf2, rf3, rf4⟩ := id R2
  go_wp2_with fail
  have Tf := R2.store (u := .int .i64 0) (v := .int .i64 0)
  exact bodyPost_ret (v := .tuple #[.agg #[.int .i64 0, .int .i64 0], .int .i64 2]) (by first | (simp [results, Tryd.results11, go_sem, Tf.c0, Tf.c1]; done) | (simp [results, Tryd.results11, go_sem, Tf.c0, Tf.c1]; omega)) rfl ⟨rfl, ((B2.out.set (Nat.le_succ_of_le (Nat.le_succ _)) _ _).set (Nat.le_succ_of_le (Nat.le_succ _)) _ _)⟩
set_option maxRecDepth 100000 in
set_option maxHeartbeats 2000000 in
theorem add_n3 (t m u v : Int) (w : World) (h : Iv t m) (k : Iv u v) (l : ¬ Iv (t + u) (m + v)) :
    Calls Tryd.prog 11 #[.agg #[.int .i64 t, .int .i64 m], .agg #[.int .i64 u, .int .i64 v]] w fun e w' => e = .returned (.tuple #[.agg #[.int .i64 0, .int .i64 0], .int .i64 2]) ∧ Below w.heap.size w w' := by
  have B0 := Lib.hid ((((Bel.refl w).alloc (.cells #[.int .i64 t, .int .i64 m] 23)).alloc (.cells #[.int .i64 u, .int .i64 v] 23)).alloc (.cells #[.int .i64 0, .int .i64 0] 23))
  have X0 := ((Duo.new w (.int .i64 t) (.int .i64 m) 23 (w.heap.size) (by simp)).alloc (.cells #[.int .i64 u, .int .i64 v] 23)).alloc (.cells #[.int .i64 0, .int .i64 0] 23)
  have Y0 := (Duo.new (w.alloc (.cells #[.int .i64 t, .int .i64 m] 23)) (.int .i64 u) (.int .i64 v) 23 (w.heap.size + 1) (by simp)).alloc (.cells #[.int .i64 0, .int .i64 0] 23)
  have R0 := Duo.new ((w.alloc (.cells #[.int .i64 t, .int .i64 m] 23)).alloc (.cells #[.int .i64 u, .int .i64 v] 23)) (.int .i64 0) (.int .i64 0) 23 (w.heap.size + 1 + 1) (by simp)
  have HP := Lib.hid h
  have HQ := Lib.hid k
  have HL := Lib.hid l
  go_enter Tryd.func11, Tryd.ntmps11
  obtain ⟨xf0, xf1, xf2, xf3, xf4⟩ := id X0
  obtain ⟨yf0, yf1, yf2, yf3, yf4⟩ := id Y0
  obtain ⟨rf0, rf1, rf2, rf3, rf4⟩ := id R0
  go_wp2_with fail
  clear xf0 xf1 xf2 xf3 xf4 yf0 yf1 yf2 yf3 yf4 rf0 rf1 rf2 rf3 rf4
  refine (checkI_ok t m _ HP.out).mono ?_
  rintro e w1 ⟨rfl, hb⟩
  have B1 := Lib.hid (B0.out.up hb)
  have X1 := X0.up hb
  have Y1 := Y0.up hb
  have R1 := R0.up hb
  clear hb B0  X0 Y0 R0
  obtain ⟨xf0, xf1, xf2, xf3, xf4⟩ := id X1
  obtain ⟨yf0, yf1, yf2, yf3, yf4⟩ := id Y1
  obtain ⟨rf0, rf1, rf2, rf3, rf4⟩ := id R1
  go_wp2_with fail
  clear xf0 xf1 xf2 xf3 xf4 yf0 yf1 yf2 yf3 yf4 rf0 rf1 rf2 rf3 rf4
  refine (checkI_ok u v _ HQ.out).mono ?_
  rintro e w2 ⟨rfl, hb⟩
  have B2 := Lib.hid (B1.out.up hb)
  have X2 := X1.up hb
  have Y2 := Y1.up hb
  have R2 := R1.up hb
  clear hb B1  X1 Y1 R1
  obtain ⟨xf0, xf1, xf2, xf3, xf4⟩ := id X2
  obtain ⟨yf0, yf1, yf2, yf3, yf4⟩ := id Y2
  obtain ⟨rf0, rf1, rf2, rf3, rf4⟩ := id R2
  go_wp2_with fail
  clear xf0 xf1 xf2 xf3 xf4 yf0 yf1 yf2 yf3 yf4 rf0 rf1 rf2 rf3 rf4
  refine (plus_add t m u v _ HP.out HQ.out).mono ?_
  rintro e w3 ⟨rfl, hb⟩
  have B3 := Lib.hid (B2.out.up hb)
  have X3 := X2.up hb
  have Y3 := Y2.up hb
  have R3 := R2.up hb
  clear hb B2  X2 Y2 R2
  obtain ⟨xf0, xf1, xf2, xf3, xf4⟩ := id X3
  obtain ⟨yf0, yf1, yf2, yf3, yf4⟩ := id Y3
  obtain ⟨rf0, rf1, rf2, rf3, rf4⟩ := id R3
  go_wp2_with fail
  clear xf0 xf1 xf2 xf3 xf4 yf0 yf1 yf2 yf3 yf4 rf0 rf1 rf2 rf3 rf4
  refine (checked_bad (t + u) (m + v) _ HL.out).mono ?_
  rintro e w4 ⟨rfl, hb⟩
  have B4 := Lib.hid (B3.out.up hb)
  have X4 := X3.up hb
  have Y4 := Y3.up hb
  have R4 := R3.up hb
  clear hb B3  X3 Y3 R3
  obtain ⟨xf0, xf1, xf2, xf3, xf4⟩ := id X4
  obtain ⟨yf0, yf1, yf2, yf3, yf4⟩ := id Y4
  obtain ⟨rf0, rf1, rf2, rf3, rf4⟩ := id R4
  go_wp2_with fail
  have Tf := R4.store (u := .int .i64 0) (v := .int .i64 0)
  exact bodyPost_ret (v := .tuple #[.agg #[.int .i64 0, .int .i64 0], .int .i64 2]) (by first | (simp [results, Tryd.results11, go_sem, Tf.c0, Tf.c1]; done) | (simp [results, Tryd.results11, go_sem, Tf.c0, Tf.c1]; omega)) rfl ⟨rfl, ((B4.out.set (Nat.le_succ_of_le (Nat.le_succ _)) _ _).set (Nat.le_succ_of_le (Nat.le_succ _)) _ _)⟩
set_option maxRecDepth 100000 in
set_option maxHeartbeats 2000000 in
theorem add_y (t m u v : Int) (w : World) (h : Iv t m) (k : Iv u v) (l : Iv (t + u) (m + v)) :
    Calls Tryd.prog 11 #[.agg #[.int .i64 t, .int .i64 m], .agg #[.int .i64 u, .int .i64 v]] w fun e w' => e = .returned (.tuple #[.agg #[.int .i64 (t + u), .int .i64 (m + v)], .int .i64 0]) ∧ Below w.heap.size w w' := by
  have B0 := Lib.hid ((((Bel.refl w).alloc (.cells #[.int .i64 t, .int .i64 m] 23)).alloc (.cells #[.int .i64 u, .int .i64 v] 23)).alloc (.cells #[.int .i64 0, .int .i64 0] 23))
  have X0 := ((Duo.new w (.int .i64 t) (.int .i64 m) 23 (w.heap.size) (by simp)).alloc (.cells #[.int .i64 u, .int .i64 v] 23)).alloc (.cells #[.int .i64 0, .int .i64 0] 23)
  have Y0 := (Duo.new (w.alloc (.cells #[.int .i64 t, .int .i64 m] 23)) (.int .i64 u) (.int .i64 v) 23 (w.heap.size + 1) (by simp)).alloc (.cells #[.int .i64 0, .int .i64 0] 23)
  have R0 := Duo.new ((w.alloc (.cells #[.int .i64 t, .int .i64 m] 23)).alloc (.cells #[.int .i64 u, .int .i64 v] 23)) (.int .i64 0) (.int .i64 0) 23 (w.heap.size + 1 + 1) (by simp)
  have HP := Lib.hid h
  have HQ := Lib.hid k
  have HL := Lib.hid l
  go_enter Tryd.func11, Tryd.ntmps11
  obtain ⟨xf0, xf1, xf2, xf3, xf4⟩ := id X0
  obtain ⟨yf0, yf1, yf2, yf3, yf4⟩ := id Y0
  obtain ⟨rf0, rf1, rf2, rf3, rf4⟩ := id R0
  go_wp2_with fail
  clear xf0 xf1 xf2 xf3 xf4 yf0 yf1 yf2 yf3 yf4 rf0 rf1 rf2 rf3 rf4
  refine (checkI_ok t m _ HP.out).mono ?_
  rintro e w1 ⟨rfl, hb⟩
  have B1 := Lib.hid (B0.out.up hb)
  have X1 := X0.up hb
  have Y1 := Y0.up hb
  have R1 := R0.up hb
  clear hb B0  X0 Y0 R0
  obtain ⟨xf0, xf1, xf2, xf3, xf4⟩ := id X1
  obtain ⟨yf0, yf1, yf2, yf3, yf4⟩ := id Y1
  obtain ⟨rf0, rf1, rf2, rf3, rf4⟩ := id R1
  go_wp2_with fail
  clear xf0 xf1 xf2 xf3 xf4 yf0 yf1 yf2 yf3 yf4 rf0 rf1 rf2 rf3 rf4
  refine (checkI_ok u v _ HQ.out).mono ?_
  rintro e w2 ⟨rfl, hb⟩
  have B2 := Lib.hid (B1.out.up hb)
  have X2 := X1.up hb
  have Y2 := Y1.up hb
  have R2 := R1.up hb
  clear hb B1  X1 Y1 R1
  obtain ⟨xf0, xf1, xf2, xf3, xf4⟩ := id X2
  obtain ⟨yf0, yf1, yf2, yf3, yf4⟩ := id Y2
  obtain ⟨rf0, rf1, rf2, rf3, rf4⟩ := id R2
  go_wp2_with fail
  clear xf0 xf1 xf2 xf3 xf4 yf0 yf1 yf2 yf3 yf4 rf0 rf1 rf2 rf3 rf4
  refine (plus_add t m u v _ HP.out HQ.out).mono ?_
  rintro e w3 ⟨rfl, hb⟩
  have B3 := Lib.hid (B2.out.up hb)
  have X3 := X2.up hb
  have Y3 := Y2.up hb
  have R3 := R2.up hb
  clear hb B2  X2 Y2 R2
  obtain ⟨xf0, xf1, xf2, xf3, xf4⟩ := id X3
  obtain ⟨yf0, yf1, yf2, yf3, yf4⟩ := id Y3
  obtain ⟨rf0, rf1, rf2, rf3, rf4⟩ := id R3
  go_wp2_with fail
  clear xf0 xf1 xf2 xf3 xf4 yf0 yf1 yf2 yf3 yf4 rf0 rf1 rf2 rf3 rf4
  refine (checked_ok (t + u) (m + v) _ HL.out).mono ?_
  rintro e w4 ⟨rfl, hb⟩
  have B4 := Lib.hid (B3.out.up hb)
  have X4 := X3.up hb
  have Y4 := Y3.up hb
  have R4 := R3.up hb
  clear hb B3  X3 Y3 R3
  obtain ⟨xf0, xf1, xf2, xf3, xf4⟩ := id X4
  obtain ⟨yf0, yf1, yf2, yf3, yf4⟩ := id Y4
  obtain ⟨rf0, rf1, rf2, rf3, rf4⟩ := id R4
  go_wp2_with fail
  have Tf := R4.store (u := .int .i64 (t + u)) (v := .int .i64 (m + v))
  exact bodyPost_ret (v := .tuple #[.agg #[.int .i64 (t + u), .int .i64 (m + v)], .int .i64 0]) (by first | (simp [results, Tryd.results11, go_sem, Tf.c0, Tf.c1]; done) | (simp [results, Tryd.results11, go_sem, Tf.c0, Tf.c1]; omega)) rfl ⟨rfl, ((B4.out.set (Nat.le_succ_of_le (Nat.le_succ _)) _ _).set (Nat.le_succ_of_le (Nat.le_succ _)) _ _)⟩
theorem refIs_yes (t m : Int) (w : World) (h : Iv t m) :
    Calls Tryd.prog 17 #[.agg #[.int .i64 t, .int .i64 m]] w fun e w' => e = .returned (.bool true) ∧ Below w.heap.size w w' := by
  have := refIs_any t m w
  rwa [show isI t m = true by simp [isI, h]] at this
theorem refIs_no (t m : Int) (w : World) (h : ¬ Iv t m) :
    Calls Tryd.prog 17 #[.agg #[.int .i64 t, .int .i64 m]] w fun e w' => e = .returned (.bool false) ∧ Below w.heap.size w w' := by
  have := refIs_any t m w
  rwa [show isI t m = false by simp [isI, h]] at this
set_option maxRecDepth 100000 in
set_option maxHeartbeats 2000000 in
theorem sub_n1 (t m u v : Int) (w : World) (h : ¬ Iv t m) :
    Calls Tryd.prog 12 #[.agg #[.int .i64 t, .int .i64 m], .agg #[.int .i64 u, .int .i64 v]] w fun e w' => e = .returned (.tuple #[.agg #[.int .i64 0, .int .i64 0], .int .i64 2]) ∧ Below w.heap.size w w' := by
  have B0 := Lib.hid ((((Bel.refl w).alloc (.cells #[.int .i64 t, .int .i64 m] 23)).alloc (.cells #[.int .i64 u, .int .i64 v] 23)).alloc (.cells #[.int .i64 0, .int .i64 0] 23))
  have X0 := ((Duo.new w (.int .i64 t) (.int .i64 m) 23 (w.heap.size) (by simp)).alloc (.cells #[.int .i64 u, .int .i64 v] 23)).alloc (.cells #[.int .i64 0, .int .i64 0] 23)
  have Y0 := (Duo.new (w.alloc (.cells #[.int .i64 t, .int .i64 m] 23)) (.int .i64 u) (.int .i64 v) 23 (w.heap.size + 1) (by simp)).alloc (.cells #[.int .i64 0, .int .i64 0] 23)
  have R0 := Duo.new ((w.alloc (.cells #[.int .i64 t, .int .i64 m] 23)).alloc (.cells #[.int .i64 u, .int .i64 v] 23)) (.int .i64 0) (.int .i64 0) 23 (w.heap.size + 1 + 1) (by simp)
  have HP := Lib.hid h
  go_enter Tryd.func12, Tryd.ntmps12
  obtain ⟨xf0, xf1, xf2, xf3, xf4⟩ := id X0
  obtain ⟨yf0, yf1, yf2, yf3, yf4⟩ := id Y0
  obtain ⟨rf0, rf1, rf2, rf3, rf4⟩ := id R0
  go_wp2_with fail
  clear xf0 xf1 xf2 xf3 xf4 yf0 yf1 yf2 yf3 yf4 rf0 rf1 rf2 rf3 rf4
  refine (checkI_bad t m _ HP.out).mono ?_
  rintro e w1 ⟨rfl, hb⟩
  have B1 := Lib.hid (B0.out.up hb)
  have X1 := X0.up hb
  have Y1 := Y0.up hb
  have R1 := R0.up hb
  clear hb B0  X0 Y0 R0
  obtain ⟨xf0, xf1, xf2, xf3, xf4⟩ := id X1
  obtain ⟨yf0, yf1, yf2, yf3, yf4⟩ := id Y1
  obtain ⟨rf0, rf1, rf2, rf3, rf4⟩ := id R1
  go_wp2_with fail
  have Tf := R1.store (u := .int .i64 0) (v := .int .i64 0)
  exact bodyPost_ret (v := .tuple #[.agg #[.int .i64 0, .int .i64 0], .int .i64 2]) (by first | (simp [results, Tryd.results12, go_sem, Tf.c0, Tf.c1]; done) | (simp [results, Tryd.results12, go_sem, Tf.c0, Tf.c1]; omega)) rfl ⟨rfl, ((B1.out.set (Nat.le_succ_of_le (Nat.le_succ _)) _ _).set (Nat.le_succ_of_le (Nat.le_succ _)) _ _)⟩
set_option maxRecDepth 100000 in
set_option maxHeartbeats 2000000 in
theorem sub_n2 (t m u v : Int) (w : World) (h : Iv t m) (k : ¬ Iv u v) :
    Calls Tryd.prog 12 #[.agg #[.int .i64 t, .int .i64 m], .agg #[.int .i64 u, .int .i64 v]] w fun e w' => e = .returned (.tuple #[.agg #[.int .i64 0, .int .i64 0], .int .i64 2]) ∧ Below w.heap.size w w' := by
  have B0 := Lib.hid ((((Bel.refl w).alloc (.cells #[.int .i64 t, .int .i64 m] 23)).alloc (.cells #[.int .i64 u, .int .i64 v] 23)).alloc (.cells #[.int .i64 0, .int .i64 0] 23))
  have X0 := ((Duo.new w (.int .i64 t) (.int .i64 m) 23 (w.heap.size) (by simp)).alloc (.cells #[.int .i64 u, .int .i64 v] 23)).alloc (.cells #[.int .i64 0, .int .i64 0] 23)
  have Y0 := (Duo.new (w.alloc (.cells #[.int .i64 t, .int .i64 m] 23)) (.int .i64 u) (.int .i64 v) 23 (w.heap.size + 1) (by simp)).alloc (.cells #[.int .i64 0, .int .i64 0] 23)
  have R0 := Duo.new ((w.alloc (.cells #[.int .i64 t, .int .i64 m] 23)).alloc (.cells #[.int .i64 u, .int .i64 v] 23)) (.int .i64 0) (.int .i64 0) 23 (w.heap.size + 1 + 1) (by simp)
  have HP := Lib.hid h
  have HQ := Lib.hid k
  go_enter Tryd.func12, Tryd.ntmps12
  obtain ⟨xf0, xf1, xf2, xf3, xf4⟩ := id X0
  obtain ⟨yf0, yf1, yf2, yf3, yf4⟩ := id Y0
  obtain ⟨rf0, rf1, rf2, rf3, rf4⟩ := id R0
  go_wp2_with fail
  clear xf0 xf1 xf2 xf3 xf4 yf0 yf1 yf2 yf3 yf4 rf0 rf1 rf2 rf3 rf4
  refine (checkI_ok t m _ HP.out).mono ?_
  rintro e w1 ⟨rfl, hb⟩
  have B1 := Lib.hid (B0.out.up hb)
  have X1 := X0.up hb
  have Y1 := Y0.up hb
  have R1 := R0.up hb
  clear hb B0  X0 Y0 R0
  obtain ⟨xf0, xf1, xf2, xf3, xf4⟩ := id X1
  obtain ⟨yf0, yf1, yf2, yf3, yf4⟩ := id Y1
  obtain ⟨rf0, rf1, rf2, rf3, rf4⟩ := id R1
  go_wp2_with fail
  clear xf0 xf1 xf2 xf3 xf4 yf0 yf1 yf2 yf3 yf4 rf0 rf1 rf2 rf3 rf4
  refine (checkI_bad u v _ HQ.out).mono ?_
  rintro e w2 ⟨rfl, hb⟩
  have B2 := Lib.hid (B1.out.up hb)
  have X2 := X1.up hb
  have Y2 := Y1.up hb
  have R2 := R1.up hb
  clear hb B1  X1 Y1 R1
  obtain ⟨xf0, xf1, xf2, xf3, xf4⟩ := id X2
  obtain ⟨yf0, yf1, yf2, yf3, yf4⟩ := id Y2
  obtain ⟨rf0, rf1, rf2, rf3, rf4⟩ := id R2
  go_wp2_with fail
  have Tf := R2.store (u := .int .i64 0) (v := .int .i64 0)
  exact bodyPost_ret (v := .tuple #[.agg #[.int .i64 0, .int .i64 0], .int .i64 2]) (by first | (simp [results, Tryd.results12, go_sem, Tf.c0, Tf.c1]; done) | (simp [results, Tryd.results12, go_sem, Tf.c0, Tf.c1]; omega)) rfl ⟨rfl, ((B2.out.set (Nat.le_succ_of_le (Nat.le_succ _)) _ _).set (Nat.le_succ_of_le (Nat.le_succ _)) _ _)⟩
set_option maxRecDepth 100000 in
set_option maxHeartbeats 2000000 in
theorem sub_n3 (t m u v : Int) (w : World) (h : Iv t m) (k : Iv u v) (l : ¬ Iv (t - u) (m - v)) :
    Calls Tryd.prog 12 #[.agg #[.int .i64 t, .int .i64 m], .agg #[.int .i64 u, .int .i64 v]] w fun e w' => e = .returned (.tuple #[.agg #[.int .i64 0, .int .i64 0], .int .i64 2]) ∧ Below w.heap.size w w' := by
  have B0 := Lib.hid ((((Bel.refl w).alloc (.cells #[.int .i64 t, .int .i64 m] 23)).alloc (.cells #[.int .i64 u, .int .i64 v] 23)).alloc (.cells #[.int .i64 0, .int .i64 0] 23))
  have X0 := ((Duo.new w (.int .i64 t) (.int .i64 m) 23 (w.heap.size) (by simp)).alloc (.cells #[.int .i64 u, .int .i64 v] 23)).alloc (.cells #[.int .i64 0, .int .i64 0] 23)
  have Y0 := (Duo.new (w.alloc (.cells #[.int .i64 t, .int .i64 m] 23)) (.int .i64 u) (.int .i64 v) 23 (w.heap.size + 1) (by simp)).alloc (.cells #[.int .i64 0, .int .i64 0] 23)
  have R0 := Duo.new ((w.alloc (.cells #[.int .i64 t, .int .i64 m] 23)).alloc (.cells #[.int .i64 u, .int .i64 v] 23)) (.int .i64 0) (.int .i64 0) 23 (w.heap.size + 1 + 1) (by simp)
  have HP := Lib.hid h
  have HQ := Lib.hid k
  have HL := Lib.hid l
  go_enter Tryd.func12, Tryd.ntmps12
  obtain ⟨xf0, xf1, xf2, xf3, xf4⟩ := id X0
  obtain ⟨yf0, yf1, yf2, yf3, yf4⟩ := id Y0
  obtain ⟨rf0, rf1, rf2, rf3, rf4⟩ := id R0
  go_wp2_with fail
  clear xf0 xf1 xf2 xf3 xf4 yf0 yf1 yf2 yf3 yf4 rf0 rf1 rf2 rf3 rf4
  refine (checkI_ok t m _ HP.out).mono ?_
  rintro e w1 ⟨rfl, hb⟩
  have B1 := Lib.hid (B0.out.up hb)
  have X1 := X0.up hb
  have Y1 := Y0.up hb
  have R1 := R0.up hb
  clear hb B0  X0 Y0 R0
  obtain ⟨xf0, xf1, xf2, xf3, xf4⟩ := id X1
  obtain ⟨yf0, yf1, yf2, yf3, yf4⟩ := id Y1
  obtain ⟨rf0, rf1, rf2, rf3, rf4⟩ := id R1
  go_wp2_with fail
  clear xf0 xf1 xf2 xf3 xf4 yf0 yf1 yf2 yf3 yf4 rf0 rf1 rf2 rf3 rf4
  refine (checkI_ok u v _ HQ.out).mono ?_
  rintro e w2 ⟨rfl, hb⟩
  have B2 := Lib.hid (B1.out.up hb)
  have X2 := X1.up hb
  have Y2 := Y1.up hb
  have R2 := R1.up hb
  clear hb B1  X1 Y1 R1
  obtain ⟨xf0, xf1, xf2, xf3, xf4⟩ := id X2
  obtain ⟨yf0, yf1, yf2, yf3, yf4⟩ := id Y2
  obtain ⟨rf0, rf1, rf2, rf3, rf4⟩ := id R2
  go_wp2_with fail
  clear xf0 xf1 xf2 xf3 xf4 yf0 yf1 yf2 yf3 yf4 rf0 rf1 rf2 rf3 rf4
  refine (plus_sub t m u v _ HP.out HQ.out).mono ?_
  rintro e w3 ⟨rfl, hb⟩
  have B3 := Lib.hid (B2.out.up hb)
  have X3 := X2.up hb
  have Y3 := Y2.up hb
  have R3 := R2.up hb
  clear hb B2  X2 Y2 R2
  obtain ⟨xf0, xf1, xf2, xf3, xf4⟩ := id X3
  obtain ⟨yf0, yf1, yf2, yf3, yf4⟩ := id Y3
  obtain ⟨rf0, rf1, rf2, rf3, rf4⟩ := id R3
  go_wp2_with fail
  clear xf0 xf1 xf2 xf3 xf4 yf0 yf1 yf2 yf3 yf4 rf0 rf1 rf2 rf3 rf4
  refine (checked_bad (t - u) (m - v) _ HL.out).mono ?_
  rintro e w4 ⟨rfl, hb⟩
  have B4 := Lib.hid (B3.out.up hb)
  have X4 := X3.up hb
  have Y4 := Y3.up hb
  have R4 := R3.up hb
  clear hb B3  X3 Y3 R3
  obtain ⟨xf0, xf1, xf2, xf3, xf4⟩ := id X4
  obtain ⟨yf0, yf1, yf2, yf3, yf4⟩ := id Y4
  obtain ⟨rf0, rf1, rf2, rf3, rf4⟩ := id R4
  go_wp2_with fail
  have Tf := R4.store (u := .int .i64 0) (v := .int .i64 0)
  exact bodyPost_ret (v := .tuple #[.agg #[.int .i64 0, .int .i64 0], .int .i64 2]) (by first | (simp [results, Tryd.results12, go_sem, Tf.c0, Tf.c1]; done) | (simp [results, Tryd.results12, go_sem, Tf.c0, Tf.c1]; omega)) rfl ⟨rfl, ((B4.out.set (Nat.le_succ_of_le (Nat.le_succ _)) _ _).set (Nat.le_succ_of_le (Nat.le_succ _)) _ _)⟩
set_option maxRecDepth 100000 in
set_option maxHeartbeats 2000000 in
theorem sub_y (t m u v : Int) (w : World) (h : Iv t m) (k : Iv u v) (l : Iv (t - u) (m - v)) :
    Calls Tryd.prog 12 #[.agg #[.int .i64 t, .int .i64 m], .agg #[.int .i64 u, .int .i64 v]] w fun e w' => e = .returned (.tuple #[.agg #[.int .i64 (t - u), .int .i64 (m - v)], .int .i64 0]) ∧ Below w.heap.size w w' := by
  have B0 := Lib.hid ((((Bel.refl w).alloc (.cells #[.int .i64 t, .int .i64 m] 23)).alloc (.cells #[.int .i64 u, .int .i64 v] 23)).alloc (.cells #[.int .i64 0, .int .i64 0] 23))
  have X0 := ((Duo.new w (.int .i64 t) (.int .i64 m) 23 (w.heap.size) (by simp)).alloc (.cells #[.int .i64 u, .int .i64 v] 23)).alloc (.cells #[.int .i64 0, .int .i64 0] 23)
  have Y0 := (Duo.new (w.alloc (.cells #[.int .i64 t, .int .i64 m] 23)) (.int .i64 u) (.int .i64 v) 23 (w.heap.size + 1) (by simp)).alloc (.cells #[.int .i64 0, .int .i64 0] 23)
  have R0 := Duo.new ((w.alloc (.cells #[.int .i64 t, .int .i64 m] 23)).alloc (.cells #[.int .i64 u, .int .i64 v] 23)) (.int .i64 0) (.int .i64 0) 23 (w.heap.size + 1 + 1) (by simp)
  have HP := Lib.hid h
  have HQ := Lib.hid k
  have HL := Lib.hid l
  go_enter Tryd.func12, Tryd.ntmps12
  obtain ⟨xf0, xf1, xf2, xf3, xf4⟩ := id X0
  obtain ⟨yf0, yf1, yf2, yf3, yf4⟩ := id Y0
  obtain ⟨rf0, rf1, rf2, rf3, rf4⟩ := id R0
  go_wp2_with fail
  clear xf0 xf1 xf2 xf3 xf4 yf0 yf1 yf2 yf3 yf4 rf0 rf1 rf2 rf3 rf4
  refine (checkI_ok t m _ HP.out).mono ?_
  rintro e w1 ⟨rfl, hb⟩
  have B1 := Lib.hid (B0.out.up hb)
  have X1 := X0.up hb
  have Y1 := Y0.up hb
  have R1 := R0.up hb
  clear hb B0  X0 Y0 R0
  obtain ⟨xf0, xf1, xf2, xf3, xf4⟩ := id X1
  obtain ⟨yf0, yf1, yf2, yf3, yf4⟩ := id Y1
  obtain ⟨rf0, rf1, rf2, rf3, rf4⟩ := id R1
  go_wp2_with fail
  clear xf0 xf1 xf2 xf3 xf4 yf0 yf1 yf2 yf3 yf4 rf0 rf1 rf2 rf3 rf4
  refine (checkI_ok u v _ HQ.out).mono ?_
  rintro e w2 ⟨rfl, hb⟩
  have B2 := Lib.hid (B1.out.up hb)
  have X2 := X1.up hb
  have Y2 := Y1.up hb
  have R2 := R1.up hb
  clear hb B1  X1 Y1 R1
  obtain ⟨xf0, xf1, xf2, xf3, xf4⟩ := id X2
  obtain ⟨yf0, yf1, yf2, yf3, yf4⟩ := id Y2
  obtain ⟨rf0, rf1, rf2, rf3, rf4⟩ := id R2
  go_wp2_with fail
  clear xf0 xf1 xf2 xf3 xf4 yf0 yf1 yf2 yf3 yf4 rf0 rf1 rf2 rf3 rf4
  refine (plus_sub t m u v _ HP.out HQ.out).mono ?_
  rintro e w3 ⟨rfl, hb⟩
  have B3 := Lib.hid (B2.out.up hb)
  have X3 := X2.up hb
  have Y3 := Y2.up hb
  have R3 := R2.up hb
  clear hb B2  X2 Y2 R2
  obtain ⟨xf0, xf1, xf2, xf3, xf4⟩ := id X3
  obtain ⟨yf0, yf1, yf2, yf3, yf4⟩ := id Y3
  obtain ⟨rf0, rf1, rf2, rf3, rf4⟩ := id R3
  go_wp2_with fail
  clear xf0 xf1 xf2 xf3 xf4 yf0 yf1 yf2 yf3 yf4 rf0 rf1 rf2 rf3 rf4
  refine (checked_ok (t - u) (m - v) _ HL.out).mono ?_
  rintro e w4 ⟨rfl, hb⟩
  have B4 := Lib.hid (B3.out.up hb)
  have X4 := X3.up hb
  have Y4 := Y3.up hb
  have R4 := R3.up hb
  clear hb B3  X3 Y3 R3
  obtain ⟨xf0, xf1, xf2, xf3, xf4⟩ := id X4
  obtain ⟨yf0, yf1, yf2, yf3, yf4⟩ := id Y4
  obtain ⟨rf0, rf1, rf2, rf3, rf4⟩ := id R4
  go_wp2_with fail
  have Tf := R4.store (u := .int .i64 (t - u)) (v := .int .i64 (m - v))
  exact bodyPost_ret (v := .tuple #[.agg #[.int .i64 (t - u), .int .i64 (m - v)], .int .i64 0]) (by first | (simp [results, Tryd.results12, go_sem, Tf.c0, Tf.c1]; done) | (simp [results, Tryd.results12, go_sem, Tf.c0, Tf.c1]; omega)) rfl ⟨rfl, ((B4.out.set (Nat.le_succ_of_le (Nat.le_succ _)) _ _).set (Nat.le_succ_of_le (Nat.le_succ _)) _ _)⟩
set_option maxRecDepth 100000 in
set_option maxHeartbeats 2000000 in
theorem sumA_n1 (t m u v : Int) (w : World) (h : ¬ Iv t m) :
    Calls Tryd.prog 14 #[.agg #[.int .i64 t, .int .i64 m], .agg #[.int .i64 u, .int .i64 v], .int .i64 1] w fun e w' => e = .returned (.tuple #[.agg #[.int .i64 0, .int .i64 0], .int .i64 2]) ∧ Below w.heap.size w w' := by
  have B0 := Lib.hid ((((Bel.refl w).alloc (.cells #[.int .i64 t, .int .i64 m] 23)).alloc (.cells #[.int .i64 u, .int .i64 v] 23)).alloc (.cells #[.int .i64 0, .int .i64 0] 23))
  have X0 := ((Duo.new w (.int .i64 t) (.int .i64 m) 23 (w.heap.size) (by simp)).alloc (.cells #[.int .i64 u, .int .i64 v] 23)).alloc (.cells #[.int .i64 0, .int .i64 0] 23)
  have Y0 := (Duo.new (w.alloc (.cells #[.int .i64 t, .int .i64 m] 23)) (.int .i64 u) (.int .i64 v) 23 (w.heap.size + 1) (by simp)).alloc (.cells #[.int .i64 0, .int .i64 0] 23)
  have R0 := Duo.new ((w.alloc (.cells #[.int .i64 t, .int .i64 m] 23)).alloc (.cells #[.int .i64 u, .int .i64 v] 23)) (.int .i64 0) (.int .i64 0) 23 (w.heap.size + 1 + 1) (by simp)
  have HP := Lib.hid h
  go_enter Tryd.func14, Tryd.ntmps14
  obtain ⟨xf0, xf1, xf2, xf3, xf4⟩ := id X0
  obtain ⟨yf0, yf1, yf2, yf3, yf4⟩ := id Y0
  obtain ⟨rf0, rf1, rf2, rf3, rf4⟩ := id R0
  go_wp2_with fail
  clear xf0 xf1 xf2 xf3 xf4 yf0 yf1 yf2 yf3 yf4 rf0 rf1 rf2 rf3 rf4
  refine (refIs_no t m _ HP.out).mono ?_
  rintro e w1 ⟨rfl, hb⟩
  have B1 := Lib.hid (B0.out.up hb)
  have X1 := X0.up hb
  have Y1 := Y0.up hb
  have R1 := R0.up hb
  clear hb B0  X0 Y0 R0
  obtain ⟨xf0, xf1, xf2, xf3, xf4⟩ := id X1
  obtain ⟨yf0, yf1, yf2, yf3, yf4⟩ := id Y1
  obtain ⟨rf0, rf1, rf2, rf3, rf4⟩ := id R1
  go_wp2_with fail
  have Tf := R1.store (u := .int .i64 0) (v := .int .i64 0)
  exact bodyPost_ret (v := .tuple #[.agg #[.int .i64 0, .int .i64 0], .int .i64 2]) (by first | (simp [results, Tryd.results14, go_sem, Tf.c0, Tf.c1]; done) | (simp [results, Tryd.results14, go_sem, Tf.c0, Tf.c1]; omega)) rfl ⟨rfl, ((B1.out.set (Nat.le_succ_of_le (Nat.le_succ _)) _ _).set (Nat.le_succ_of_le (Nat.le_succ _)) _ _)⟩
set_option maxRecDepth 100000 in
set_option maxHeartbeats 2000000 in
theorem sumA_n2 (t m u v : Int) (w : World) (h : Iv t m) (k : ¬ Iv u v) :
    Calls Tryd.prog 14 #[.agg #[.int .i64 t, .int .i64 m], .agg #[.int .i64 u, .int .i64 v], .int .i64 1] w fun e w' => e = .returned (.tuple #[.agg #[.int .i64 0, .int .i64 0], .int .i64 2]) ∧ Below w.heap.size w w' := by
  have B0 := Lib.hid ((((Bel.refl w).alloc (.cells #[.int .i64 t, .int .i64 m] 23)).alloc (.cells #[.int .i64 u, .int .i64 v] 23)).alloc (.cells #[.int .i64 0, .int .i64 0] 23))
  have X0 := ((Duo.new w (.int .i64 t) (.int .i64 m) 23 (w.heap.size) (by simp)).alloc (.cells #[.int .i64 u, .int .i64 v] 23)).alloc (.cells #[.int .i64 0, .int .i64 0] 23)
  have Y0 := (Duo.new (w.alloc (.cells #[.int .i64 t, .int .i64 m] 23)) (.int .i64 u) (.int .i64 v) 23 (w.heap.size + 1) (by simp)).alloc (.cells #[.int .i64 0, .int .i64 0] 23)
  have R0 := Duo.new ((w.alloc (.cells #[.int .i64 t, .int .i64 m] 23)).alloc (.cells #[.int .i64 u, .int .i64 v] 23)) (.int .i64 0) (.int .i64 0) 23 (w.heap.size + 1 + 1) (by simp)
  have HP := Lib.hid h
  have HQ := Lib.hid k
  go_enter Tryd.func14, Tryd.ntmps14
  obtain ⟨xf0, xf1, xf2, xf3, xf4⟩ := id X0
  obtain ⟨yf0, yf1, yf2, yf3, yf4⟩ := id Y0
  obtain ⟨rf0, rf1, rf2, rf3, rf4⟩ := id R0
  go_wp2_with fail
  clear xf0 xf1 xf2 xf3 xf4 yf0 yf1 yf2 yf3 yf4 rf0 rf1 rf2 rf3 rf4
  refine (refIs_yes t m _ HP.out).mono ?_
  rintro e w1 ⟨rfl, hb⟩
  have B1 := Lib.hid (B0.out.up hb)
  have X1 := X0.up hb
  have Y1 := Y0.up hb
  have R1 := R0.up hb
  clear hb B0  X0 Y0 R0
  obtain ⟨xf0, xf1, xf2, xf3, xf4⟩ := id X1
  obtain ⟨yf0, yf1, yf2, yf3, yf4⟩ := id Y1
  obtain ⟨rf0, rf1, rf2, rf3, rf4⟩ := id R1
  go_wp2_with fail
  clear xf0 xf1 xf2 xf3 xf4 yf0 yf1 yf2 yf3 yf4 rf0 rf1 rf2 rf3 rf4
  refine (refIs_no u v _ HQ.out).mono ?_
  rintro e w2 ⟨rfl, hb⟩
  have B2 := Lib.hid (B1.out.up hb)
  have X2 := X1.up hb
  have Y2 := Y1.up hb
  have R2 := R1.up hb
  clear hb B1  X1 Y1 R1
  obtain ⟨xf0, xf1, xf2, xf3, xf4⟩ := id X2
  obtain ⟨yf0, yf1, yf2, yf3, yf4⟩ := id Y2
  obtain ⟨rf0, rf1, rf2, rf3, rf4⟩ := id R2
  go_wp2_with fail
  have Tf := R2.store (u := .int .i64 0) (v := .int .i64 0)
  exact bodyPost_ret (v := .tuple #[.agg #[.int .i64 0, .int .i64 0], .int .i64 2]) (by first | (simp [results, Tryd.results14, go_sem, Tf.c0, Tf.c1]; done) | (simp [results, Tryd.results14, go_sem, Tf.c0, Tf.c1]; omega)) rfl ⟨rfl, ((B2.out.set (Nat.le_succ_of_le (Nat.le_succ _)) _ _).set (Nat.le_succ_of_le (Nat.le_succ _)) _ _)⟩
set_option maxRecDepth 100000 in
set_option maxHeartbeats 2000000 in
theorem sumA_n3 (t m u v : Int) (w : World) (h : Iv t m) (k : Iv u v) (l : ¬ Iv (t + u) (m + v)) :
    Calls Tryd.prog 14 #[.agg #[.int .i64 t, .int .i64 m], .agg #[.int .i64 u, .int .i64 v], .int .i64 1] w fun e w' => e = .returned (.tuple #[.agg #[.int .i64 0, .int .i64 0], .int .i64 2]) ∧ Below w.heap.size w w' := by
  have B0 := Lib.hid ((((Bel.refl w).alloc (.cells #[.int .i64 t, .int .i64 m] 23)).alloc (.cells #[.int .i64 u, .int .i64 v] 23)).alloc (.cells #[.int .i64 0, .int .i64 0] 23))
  have X0 := ((Duo.new w (.int .i64 t) (.int .i64 m) 23 (w.heap.size) (by simp)).alloc (.cells #[.int .i64 u, .int .i64 v] 23)).alloc (.cells #[.int .i64 0, .int .i64 0] 23)
  have Y0 := (Duo.new (w.alloc (.cells #[.int .i64 t, .int .i64 m] 23)) (.int .i64 u) (.int .i64 v) 23 (w.heap.size + 1) (by simp)).alloc (.cells #[.int .i64 0, .int .i64 0] 23)
  have R0 := Duo.new ((w.alloc (.cells #[.int .i64 t, .int .i64 m] 23)).alloc (.cells #[.int .i64 u, .int .i64 v] 23)) (.int .i64 0) (.int .i64 0) 23 (w.heap.size + 1 + 1) (by simp)
  have HP := Lib.hid h
  have HQ := Lib.hid k
  have HL := Lib.hid l
  obtain ⟨t0, t1, m0, m1⟩ := h
  obtain ⟨u0, u1, v0, v1⟩ := k
  go_enter Tryd.func14, Tryd.ntmps14
  obtain ⟨xf0, xf1, xf2, xf3, xf4⟩ := id X0
  obtain ⟨yf0, yf1, yf2, yf3, yf4⟩ := id Y0
  obtain ⟨rf0, rf1, rf2, rf3, rf4⟩ := id R0
  go_wp2_with fail
  clear xf0 xf1 xf2 xf3 xf4 yf0 yf1 yf2 yf3 yf4 rf0 rf1 rf2 rf3 rf4
  refine (refIs_yes t m _ HP.out).mono ?_
  rintro e w1 ⟨rfl, hb⟩
  have B1 := Lib.hid (B0.out.up hb)
  have X1 := X0.up hb
  have Y1 := Y0.up hb
  have R1 := R0.up hb
  clear hb B0  X0 Y0 R0
  obtain ⟨xf0, xf1, xf2, xf3, xf4⟩ := id X1
  obtain ⟨yf0, yf1, yf2, yf3, yf4⟩ := id Y1
  obtain ⟨rf0, rf1, rf2, rf3, rf4⟩ := id R1
  go_wp2_with fail
  clear xf0 xf1 xf2 xf3 xf4 yf0 yf1 yf2 yf3 yf4 rf0 rf1 rf2 rf3 rf4
  refine (refIs_yes u v _ HQ.out).mono ?_
  rintro e w2 ⟨rfl, hb⟩
  obtain ⟨xg0, xg1, xg2, xg3, xg4⟩ := X1.up hb
  obtain ⟨yg0, yg1, yg2, yg3, yg4⟩ := Y1.up hb
  obtain ⟨rg0, rg1, rg2, rg3, rg4⟩ := R1.up hb
  have B2 := Lib.hid ((B1.out.up hb).alloc (.cells #[.int .i64 (t + u), .int .i64 (m + v)] 23))
  have X2 := (X1.up hb).alloc (.cells #[.int .i64 (t + u), .int .i64 (m + v)] 23)
  have Y2 := (Y1.up hb).alloc (.cells #[.int .i64 (t + u), .int .i64 (m + v)] 23)
  have R2 := (R1.up hb).alloc (.cells #[.int .i64 (t + u), .int .i64 (m + v)] 23)
  have C2 := Duo.new w2 (.int .i64 (t + u)) (.int .i64 (m + v)) 23 (w2.heap.size) (by simp)
  clear hb B1  X1 Y1 R1
  obtain ⟨xf0, xf1, xf2, xf3, xf4⟩ := id X2
  obtain ⟨yf0, yf1, yf2, yf3, yf4⟩ := id Y2
  obtain ⟨rf0, rf1, rf2, rf3, rf4⟩ := id R2
  obtain ⟨cf0, cf1, cf2, cf3, cf4⟩ := id C2
  go_wp2_with fail
  clear xf0 xf1 xf2 xf3 xf4 yf0 yf1 yf2 yf3 yf4 rf0 rf1 rf2 rf3 rf4 cf0 cf1 cf2 cf3 cf4 xg0 xg1 xg2 xg3 xg4 yg0 yg1 yg2 yg3 yg4 rg0 rg1 rg2 rg3 rg4
  refine (refIs_no (t + u) (m + v) _ HL.out).mono ?_
  rintro e w3 ⟨rfl, hb⟩
  have B3 := Lib.hid (B2.out.up hb)
  have X3 := X2.up hb
  have Y3 := Y2.up hb
  have R3 := R2.up hb
  have C3 := C2.up hb
  clear hb B2  X2 Y2 R2 C2
  obtain ⟨xf0, xf1, xf2, xf3, xf4⟩ := id X3
  obtain ⟨yf0, yf1, yf2, yf3, yf4⟩ := id Y3
  obtain ⟨rf0, rf1, rf2, rf3, rf4⟩ := id R3
  obtain ⟨cf0, cf1, cf2, cf3, cf4⟩ := id C3
  go_wp2_with fail
  have Tf := R3.store (u := .int .i64 0) (v := .int .i64 0)
  exact bodyPost_ret (v := .tuple #[.agg #[.int .i64 0, .int .i64 0], .int .i64 2]) (by first | (simp [results, Tryd.results14, go_sem, Tf.c0, Tf.c1]; done) | (simp [results, Tryd.results14, go_sem, Tf.c0, Tf.c1]; omega)) rfl ⟨rfl, ((B3.out.set (Nat.le_succ_of_le (Nat.le_succ _)) _ _).set (Nat.le_succ_of_le (Nat.le_succ _)) _ _)⟩
set_option maxRecDepth 100000 in
set_option maxHeartbeats 2000000 in
theorem sumA_y (t m u v : Int) (w : World) (h : Iv t m) (k : Iv u v) (l : Iv (t + u) (m + v)) :
    Calls Tryd.prog 14 #[.agg #[.int .i64 t, .int .i64 m], .agg #[.int .i64 u, .int .i64 v], .int .i64 1] w fun e w' => e = .returned (.tuple #[.agg #[.int .i64 (t + u), .int .i64 (m + v)], .int .i64 0]) ∧ Below w.heap.size w w' := by
  have B0 := Lib.hid ((((Bel.refl w).alloc (.cells #[.int .i64 t, .int .i64 m] 23)).alloc (.cells #[.int .i64 u, .int .i64 v] 23)).alloc (.cells #[.int .i64 0, .int .i64 0] 23))
  have X0 := ((Duo.new w (.int .i64 t) (.int .i64 m) 23 (w.heap.size) (by simp)).alloc (.cells #[.int .i64 u, .int .i64 v] 23)).alloc (.cells #[.int .i64 0, .int .i64 0] 23)
  have Y0 := (Duo.new (w.alloc (.cells #[.int .i64 t, .int .i64 m] 23)) (.int .i64 u) (.int .i64 v) 23 (w.heap.size + 1) (by simp)).alloc (.cells #[.int .i64 0, .int .i64 0] 23)
  have R0 := Duo.new ((w.alloc (.cells #[.int .i64 t, .int .i64 m] 23)).alloc (.cells #[.int .i64 u, .int .i64 v] 23)) (.int .i64 0) (.int .i64 0) 23 (w.heap.size + 1 + 1) (by simp)
  have HP := Lib.hid h
  have HQ := Lib.hid k
  have HL := Lib.hid l
  obtain ⟨t0, t1, m0, m1⟩ := h
  obtain ⟨u0, u1, v0, v1⟩ := k
  go_enter Tryd.func14, Tryd.ntmps14
  obtain ⟨xf0, xf1, xf2, xf3, xf4⟩ := id X0
  obtain ⟨yf0, yf1, yf2, yf3, yf4⟩ := id Y0
  obtain ⟨rf0, rf1, rf2, rf3, rf4⟩ := id R0
  go_wp2_with fail
  clear xf0 xf1 xf2 xf3 xf4 yf0 yf1 yf2 yf3 yf4 rf0 rf1 rf2 rf3 rf4
  refine (refIs_yes t m _ HP.out).mono ?_
  rintro e w1 ⟨rfl, hb⟩
  have B1 := Lib.hid (B0.out.up hb)
  have X1 := X0.up hb
  have Y1 := Y0.up hb
  have R1 := R0.up hb
  clear hb B0  X0 Y0 R0
  obtain ⟨xf0, xf1, xf2, xf3, xf4⟩ := id X1
  obtain ⟨yf0, yf1, yf2, yf3, yf4⟩ := id Y1
  obtain ⟨rf0, rf1, rf2, rf3, rf4⟩ := id R1
  go_wp2_with fail
  clear xf0 xf1 xf2 xf3 xf4 yf0 yf1 yf2 yf3 yf4 rf0 rf1 rf2 rf3 rf4
  refine (refIs_yes u v _ HQ.out).mono ?_
  rintro e w2 ⟨rfl, hb⟩
  obtain ⟨xg0, xg1, xg2, xg3, xg4⟩ := X1.up hb
  obtain ⟨yg0, yg1, yg2, yg3, yg4⟩ := Y1.up hb
  obtain ⟨rg0, rg1, rg2, rg3, rg4⟩ := R1.up hb
  have B2 := Lib.hid ((B1.out.up hb).alloc (.cells #[.int .i64 (t + u), .int .i64 (m + v)] 23))
  have X2 := (X1.up hb).alloc (.cells #[.int .i64 (t + u), .int .i64 (m + v)] 23)
  have Y2 := (Y1.up hb).alloc (.cells #[.int .i64 (t + u), .int .i64 (m + v)] 23)
  have R2 := (R1.up hb).alloc (.cells #[.int .i64 (t + u), .int .i64 (m + v)] 23)
  have C2 := Duo.new w2 (.int .i64 (t + u)) (.int .i64 (m + v)) 23 (w2.heap.size) (by simp)
  clear hb B1  X1 Y1 R1
  obtain ⟨xf0, xf1, xf2, xf3, xf4⟩ := id X2
  obtain ⟨yf0, yf1, yf2, yf3, yf4⟩ := id Y2
  obtain ⟨rf0, rf1, rf2, rf3, rf4⟩ := id R2
  obtain ⟨cf0, cf1, cf2, cf3, cf4⟩ := id C2
  go_wp2_with fail
  clear xf0 xf1 xf2 xf3 xf4 yf0 yf1 yf2 yf3 yf4 rf0 rf1 rf2 rf3 rf4 cf0 cf1 cf2 cf3 cf4 xg0 xg1 xg2 xg3 xg4 yg0 yg1 yg2 yg3 yg4 rg0 rg1 rg2 rg3 rg4
  refine (refIs_yes (t + u) (m + v) _ HL.out).mono ?_
  rintro e w3 ⟨rfl, hb⟩
  have B3 := Lib.hid (B2.out.up hb)
  have X3 := X2.up hb
  have Y3 := Y2.up hb
  have R3 := R2.up hb
  have C3 := C2.up hb
  clear hb B2  X2 Y2 R2 C2
  obtain ⟨xf0, xf1, xf2, xf3, xf4⟩ := id X3
  obtain ⟨yf0, yf1, yf2, yf3, yf4⟩ := id Y3
  obtain ⟨rf0, rf1, rf2, rf3, rf4⟩ := id R3
  obtain ⟨cf0, cf1, cf2, cf3, cf4⟩ := id C3
  go_wp2_with fail
  have Tf := R3.store (u := .int .i64 (t + u)) (v := .int .i64 (m + v))
  exact bodyPost_ret (v := .tuple #[.agg #[.int .i64 (t + u), .int .i64 (m + v)], .int .i64 0]) (by first | (simp [results, Tryd.results14, go_sem, Tf.c0, Tf.c1]; done) | (simp [results, Tryd.results14, go_sem, Tf.c0, Tf.c1]; omega)) rfl ⟨rfl, ((B3.out.set (Nat.le_succ_of_le (Nat.le_succ _)) _ _).set (Nat.le_succ_of_le (Nat.le_succ _)) _ _)⟩
set_option maxRecDepth 100000 in
set_option maxHeartbeats 2000000 in
theorem sumS_n1 (t m u v : Int) (w : World) (h : ¬ Iv t m) :
    Calls Tryd.prog 14 #[.agg #[.int .i64 t, .int .i64 m], .agg #[.int .i64 u, .int .i64 v], .int .i64 (-1)] w fun e w' => e = .returned (.tuple #[.agg #[.int .i64 0, .int .i64 0], .int .i64 2]) ∧ Below w.heap.size w w' := by
  have B0 := Lib.hid ((((Bel.refl w).alloc (.cells #[.int .i64 t, .int .i64 m] 23)).alloc (.cells #[.int .i64 u, .int .i64 v] 23)).alloc (.cells #[.int .i64 0, .int .i64 0] 23))
  have X0 := ((Duo.new w (.int .i64 t) (.int .i64 m) 23 (w.heap.size) (by simp)).alloc (.cells #[.int .i64 u, .int .i64 v] 23)).alloc (.cells #[.int .i64 0, .int .i64 0] 23)
  have Y0 := (Duo.new (w.alloc (.cells #[.int .i64 t, .int .i64 m] 23)) (.int .i64 u) (.int .i64 v) 23 (w.heap.size + 1) (by simp)).alloc (.cells #[.int .i64 0, .int .i64 0] 23)
  have R0 := Duo.new ((w.alloc (.cells #[.int .i64 t, .int .i64 m] 23)).alloc (.cells #[.int .i64 u, .int .i64 v] 23)) (.int .i64 0) (.int .i64 0) 23 (w.heap.size + 1 + 1) (by simp)
  have HP := Lib.hid h
  go_enter Tryd.func14, Tryd.ntmps14
  obtain ⟨xf0, xf1, xf2, xf3, xf4⟩ := id X0
  obtain ⟨yf0, yf1, yf2, yf3, yf4⟩ := id Y0
  obtain ⟨rf0, rf1, rf2, rf3, rf4⟩ := id R0
  go_wp2_with fail
  clear xf0 xf1 xf2 xf3 xf4 yf0 yf1 yf2 yf3 yf4 rf0 rf1 rf2 rf3 rf4
  refine (refIs_no t m _ HP.out).mono ?_
  rintro e w1 ⟨rfl, hb⟩
  have B1 := Lib.hid (B0.out.up hb)
  have X1 := X0.up hb
  have Y1 := Y0.up hb
  have R1 := R0.up hb
  clear hb B0  X0 Y0 R0
  obtain ⟨xf0, xf1, xf2, xf3, xf4⟩ := id X1
  obtain ⟨yf0, yf1, yf2, yf3, yf4⟩ := id Y1
  obtain ⟨rf0, rf1, rf2, rf3, rf4⟩ := id R1
  go_wp2_with fail
  have Tf := R1.store (u := .int .i64 0) (v := .int .i64 0)
  exact bodyPost_ret (v := .tuple #[.agg #[.int .i64 0, .int .i64 0], .int .i64 2]) (by first | (simp [results, Tryd.results14, go_sem, Tf.c0, Tf.c1]; done) | (simp [results, Tryd.results14, go_sem, Tf.c0, Tf.c1]; omega)) rfl ⟨rfl, ((B1.out.set (Nat.le_succ_of_le (Nat.le_succ _)) _ _).set (Nat.le_succ_of_le (Nat.le_succ _)) _ _)⟩
set_option maxRecDepth 100000 in
set_option maxHeartbeats 2000000 in
theorem sumS_n2 (t m u v : Int) (w : World) (h : Iv t m) (k : ¬ Iv u v) :
    Calls Tryd.prog 14 #[.agg #[.int .i64 t, .int .i64 m], .agg #[.int .i64 u, .int .i64 v], .int .i64 (-1)] w fun e w' => e = .returned (.tuple #[.agg #[.int .i64 0, .int .i64 0], .int .i64 2]) ∧ Below w.heap.size w w' := by
  have B0 := Lib.hid ((((Bel.refl w).alloc (.cells #[.int .i64 t, .int .i64 m] 23)).alloc (.cells #[.int .i64 u, .int .i64 v] 23)).alloc (.cells #[.int .i64 0, .int .i64 0] 23))
  have X0 := ((Duo.new w (.int .i64 t) (.int .i64 m) 23 (w.heap.size) (by simp)).alloc (.cells #[.int .i64 u, .int .i64 v] 23)).alloc (.cells #[.int .i64 0, .int .i64 0] 23)
  have Y0 := (Duo.new (w.alloc (.cells #[.int .i64 t, .int .i64 m] 23)) (.int .i64 u) (.int .i64 v) 23 (w.heap.size + 1) (by simp)).alloc (.cells #[.int .i64 0, .int .i64 0] 23)
  have R0 := Duo.new ((w.alloc (.cells #[.int .i64 t, .int .i64 m] 23)).alloc (.cells #[.int .i64 u, .int .i64 v] 23)) (.int .i64 0) (.int .i64 0) 23 (w.heap.size + 1 + 1) (by simp)
  have HP := Lib.hid h
  have HQ := Lib.hid k
  go_enter Tryd.func14, Tryd.ntmps14
  obtain ⟨xf0, xf1, xf2, xf3, xf4⟩ := id X0
  obtain ⟨yf0, yf1, yf2, yf3, yf4⟩ := id Y0
  obtain ⟨rf0, rf1, rf2, rf3, rf4⟩ := id R0
  go_wp2_with fail
  clear xf0 xf1 xf2 xf3 xf4 yf0 yf1 yf2 yf3 yf4 rf0 rf1 rf2 rf3 rf4
  refine (refIs_yes t m _ HP.out).mono ?_
  rintro e w1 ⟨rfl, hb⟩
  have B1 := Lib.hid (B0.out.up hb)
  have X1 := X0.up hb
  have Y1 := Y0.up hb
  have R1 := R0.up hb
  clear hb B0  X0 Y0 R0
  obtain ⟨xf0, xf1, xf2, xf3, xf4⟩ := id X1
  obtain ⟨yf0, yf1, yf2, yf3, yf4⟩ := id Y1
  obtain ⟨rf0, rf1, rf2, rf3, rf4⟩ := id R1
  go_wp2_with fail
  clear xf0 xf1 xf2 xf3 xf4 yf0 yf1 yf2 yf3 yf4 rf0 rf1 rf2 rf3 rf4
  refine (refIs_no u v _ HQ.out).mono ?_
  rintro e w2 ⟨rfl, hb⟩
  have B2 := Lib.hid (B1.out.up hb)
  have X2 := X1.up hb
  have Y2 := Y1.up hb
  have R2 := R1.up hb
  clear hb B1  X1 Y1 R1
  obtain ⟨xf0, xf1, xf2, xf3, xf4⟩ := id X2
  obtain ⟨yf0, yf1, yf2, yf3, yf4⟩ := id Y2
  obtain ⟨rf0, rf1, rf2, rf3, rf4⟩ := id R2
  go_wp2_with fail
  have Tf := R2.store (u := .int .i64 0) (v := .int .i64 0)
  exact bodyPost_ret (v := .tuple #[.agg #[.int .i64 0, .int .i64 0], .int .i64 2]) (by first | (simp [results, Tryd.results14, go_sem, Tf.c0, Tf.c1]; done) | (simp [results, Tryd.results14, go_sem, Tf.c0, Tf.c1]; omega)) rfl ⟨rfl, ((B2.out.set (Nat.le_succ_of_le (Nat.le_succ _)) _ _).set (Nat.le_succ_of_le (Nat.le_succ _)) _ _)⟩
set_option maxRecDepth 100000 in
set_option maxHeartbeats 2000000 in
theorem sumS_n3 (t m u v : Int) (w : World) (h : Iv t m) (k : Iv u v) (l : ¬ Iv (t + - u) (m + - v)) :
    Calls Tryd.prog 14 #[.agg #[.int .i64 t, .int .i64 m], .agg #[.int .i64 u, .int .i64 v], .int .i64 (-1)] w fun e w' => e = .returned (.tuple #[.agg #[.int .i64 0, .int .i64 0], .int .i64 2]) ∧ Below w.heap.size w w' := by
  have B0 := Lib.hid ((((Bel.refl w).alloc (.cells #[.int .i64 t, .int .i64 m] 23)).alloc (.cells #[.int .i64 u, .int .i64 v] 23)).alloc (.cells #[.int .i64 0, .int .i64 0] 23))
  have X0 := ((Duo.new w (.int .i64 t) (.int .i64 m) 23 (w.heap.size) (by simp)).alloc (.cells #[.int .i64 u, .int .i64 v] 23)).alloc (.cells #[.int .i64 0, .int .i64 0] 23)
  have Y0 := (Duo.new (w.alloc (.cells #[.int .i64 t, .int .i64 m] 23)) (.int .i64 u) (.int .i64 v) 23 (w.heap.size + 1) (by simp)).alloc (.cells #[.int .i64 0, .int .i64 0] 23)
  have R0 := Duo.new ((w.alloc (.cells #[.int .i64 t, .int .i64 m] 23)).alloc (.cells #[.int .i64 u, .int .i64 v] 23)) (.int .i64 0) (.int .i64 0) 23 (w.heap.size + 1 + 1) (by simp)
  have HP := Lib.hid h
  have HQ := Lib.hid k
  have HL := Lib.hid l
  obtain ⟨t0, t1, m0, m1⟩ := h
  obtain ⟨u0, u1, v0, v1⟩ := k
  go_enter Tryd.func14, Tryd.ntmps14
  obtain ⟨xf0, xf1, xf2, xf3, xf4⟩ := id X0
  obtain ⟨yf0, yf1, yf2, yf3, yf4⟩ := id Y0
  obtain ⟨rf0, rf1, rf2, rf3, rf4⟩ := id R0
  go_wp2_with fail
  clear xf0 xf1 xf2 xf3 xf4 yf0 yf1 yf2 yf3 yf4 rf0 rf1 rf2 rf3 rf4
  refine (refIs_yes t m _ HP.out).mono ?_
  rintro e w1 ⟨rfl, hb⟩
  have B1 := Lib.hid (B0.out.up hb)
  have X1 := X0.up hb
  have Y1 := Y0.up hb
  have R1 := R0.up hb
  clear hb B0  X0 Y0 R0
  obtain ⟨xf0, xf1, xf2, xf3, xf4⟩ := id X1
  obtain ⟨yf0, yf1, yf2, yf3, yf4⟩ := id Y1
  obtain ⟨rf0, rf1, rf2, rf3, rf4⟩ := id R1
  go_wp2_with fail
  clear xf0 xf1 xf2 xf3 xf4 yf0 yf1 yf2 yf3 yf4 rf0 rf1 rf2 rf3 rf4
  refine (refIs_yes u v _ HQ.out).mono ?_
  rintro e w2 ⟨rfl, hb⟩
  obtain ⟨xg0, xg1, xg2, xg3, xg4⟩ := X1.up hb
  obtain ⟨yg0, yg1, yg2, yg3, yg4⟩ := Y1.up hb
  obtain ⟨rg0, rg1, rg2, rg3, rg4⟩ := R1.up hb
  have B2 := Lib.hid ((B1.out.up hb).alloc (.cells #[.int .i64 (t + - u), .int .i64 (m + - v)] 23))
  have X2 := (X1.up hb).alloc (.cells #[.int .i64 (t + - u), .int .i64 (m + - v)] 23)
  have Y2 := (Y1.up hb).alloc (.cells #[.int .i64 (t + - u), .int .i64 (m + - v)] 23)
  have R2 := (R1.up hb).alloc (.cells #[.int .i64 (t + - u), .int .i64 (m + - v)] 23)
  have C2 := Duo.new w2 (.int .i64 (t + - u)) (.int .i64 (m + - v)) 23 (w2.heap.size) (by simp)
  clear hb B1  X1 Y1 R1
  obtain ⟨xf0, xf1, xf2, xf3, xf4⟩ := id X2
  obtain ⟨yf0, yf1, yf2, yf3, yf4⟩ := id Y2
  obtain ⟨rf0, rf1, rf2, rf3, rf4⟩ := id R2
  obtain ⟨cf0, cf1, cf2, cf3, cf4⟩ := id C2
  go_wp2_with fail
  clear xf0 xf1 xf2 xf3 xf4 yf0 yf1 yf2 yf3 yf4 rf0 rf1 rf2 rf3 rf4 cf0 cf1 cf2 cf3 cf4 xg0 xg1 xg2 xg3 xg4 yg0 yg1 yg2 yg3 yg4 rg0 rg1 rg2 rg3 rg4
  refine (refIs_no (t + - u) (m + - v) _ HL.out).mono ?_
  rintro e w3 ⟨rfl, hb⟩
  have B3 := Lib.hid (B2.out.up hb)
  have X3 := X2.up hb
  have Y3 := Y2.up hb
  have R3 := R2.up hb
  have C3 := C2.up hb
  clear hb B2  X2 Y2 R2 C2
  obtain ⟨xf0, xf1, xf2, xf3, xf4⟩ := id X3
  obtain ⟨yf0, yf1, yf2, yf3, yf4⟩ := id Y3
  obtain ⟨rf0, rf1, rf2, rf3, rf4⟩ := id R3
  obtain ⟨cf0, cf1, cf2, cf3, cf4⟩ := id C3
  go_wp2_with fail
  have Tf := R3.store (u := .int .i64 0) (v := .int .i64 0)
  exact bodyPost_ret (v := .tuple #[.agg #[.int .i64 0, .int .i64 0], .int .i64 2]) (by first | (simp [results, Tryd.results14, go_sem, Tf.c0, Tf.c1]; done) | (simp [results, Tryd.results14, go_sem, Tf.c0, Tf.c1]; omega)) rfl ⟨rfl, ((B3.out.set (Nat.le_succ_of_le (Nat.le_succ _)) _ _).set (Nat.le_succ_of_le (Nat.le_succ _)) _ _)⟩
set_option maxRecDepth 100000 in
set_option maxHeartbeats 2000000 in
theorem sumS_y (t m u v : Int) (w : World) (h : Iv t m) (k : Iv u v) (l : Iv (t + - u) (m + - v)) :
    Calls Tryd.prog 14 #[.agg #[.int .i64 t, .int .i64 m], .agg #[.int .i64 u, .int .i64 v], .int .i64 (-1)] w fun e w' => e = .returned (.tuple #[.agg #[.int .i64 (t + - u), .int .i64 (m + - v)], .int .i64 0]) ∧ Below w.heap.size w w' := by
  have B0 := Lib.hid ((((Bel.refl w).alloc (.cells #[.int .i64 t, .int .i64 m] 23)).alloc (.cells #[.int .i64 u, .int .i64 v] 23)).alloc (.cells #[.int .i64 0, .int .i64 0] 23))
  have X0 := ((Duo.new w (.int .i64 t) (.int .i64 m) 23 (w.heap.size) (by simp)).alloc (.cells #[.int .i64 u, .int .i64 v] 23)).alloc (.cells #[.int .i64 0, .int .i64 0] 23)
  have Y0 := (Duo.new (w.alloc (.cells #[.int .i64 t, .int .i64 m] 23)) (.int .i64 u) (.int .i64 v) 23 (w.heap.size + 1) (by simp)).alloc (.cells #[.int .i64 0, .int .i64 0] 23)
  have R0 := Duo.new ((w.alloc (.cells #[.int .i64 t, .int .i64 m] 23)).alloc (.cells #[.int .i64 u, .int .i64 v] 23)) (.int .i64 0) (.int .i64 0) 23 (w.heap.size + 1 + 1) (by simp)
  have HP := Lib.hid h
  have HQ := Lib.hid k
  have HL := Lib.hid l
  obtain ⟨t0, t1, m0, m1⟩ := h
  obtain ⟨u0, u1, v0, v1⟩ := k
  go_enter Tryd.func14, Tryd.ntmps14
  obtain ⟨xf0, xf1, xf2, xf3, xf4⟩ := id X0
  obtain ⟨yf0, yf1, yf2, yf3, yf4⟩ := id Y0
  obtain ⟨rf0, rf1, rf2, rf3, rf4⟩ := id R0
  go_wp2_with fail
  clear xf0 xf1 xf2 xf3 xf4 yf0 yf1 yf2 yf3 yf4 rf0 rf1 rf2 rf3 rf4
  refine (refIs_yes t m _ HP.out).mono ?_
  rintro e w1 ⟨rfl, hb⟩
  have B1 := Lib.hid (B0.out.up hb)
  have X1 := X0.up hb
  have Y1 := Y0.up hb
  have R1 := R0.up hb
  clear hb B0  X0 Y0 R0
  obtain ⟨xf0, xf1, xf2, xf3, xf4⟩ := id X1
  obtain ⟨yf0, yf1, yf2, yf3, yf4⟩ := id Y1
  obtain ⟨rf0, rf1, rf2, rf3, rf4⟩ := id R1
  go_wp2_with fail
  clear xf0 xf1 xf2 xf3 xf4 yf0 yf1 yf2 yf3 yf4 rf0 rf1 rf2 rf3 rf4
  refine (refIs_yes u v _ HQ.out).mono ?_
  rintro e w2 ⟨rfl, hb⟩
  obtain ⟨xg0, xg1, xg2, xg3, xg4⟩ := X1.up hb
  obtain ⟨yg0, yg1, yg2, yg3, yg4⟩ := Y1.up hb
  obtain ⟨rg0, rg1, rg2, rg3, rg4⟩ := R1.up hb
  have B2 := Lib.hid ((B1.out.up hb).alloc (.cells #[.int .i64 (t + - u), .int .i64 (m + - v)] 23))
  have X2 := (X1.up hb).alloc (.cells #[.int .i64 (t + - u), .int .i64 (m + - v)] 23)
  have Y2 := (Y1.up hb).alloc (.cells #[.int .i64 (t + - u), .int .i64 (m + - v)] 23)
  have R2 := (R1.up hb).alloc (.cells #[.int .i64 (t + - u), .int .i64 (m + - v)] 23)
  have C2 := Duo.new w2 (.int .i64 (t + - u)) (.int .i64 (m + - v)) 23 (w2.heap.size) (by simp)
  clear hb B1  X1 Y1 R1
  obtain ⟨xf0, xf1, xf2, xf3, xf4⟩ := id X2
  obtain ⟨yf0, yf1, yf2, yf3, yf4⟩ := id Y2
  obtain ⟨rf0, rf1, rf2, rf3, rf4⟩ := id R2
  obtain ⟨cf0, cf1, cf2, cf3, cf4⟩ := id C2
  go_wp2_with fail
  clear xf0 xf1 xf2 xf3 xf4 yf0 yf1 yf2 yf3 yf4 rf0 rf1 rf2 rf3 rf4 cf0 cf1 cf2 cf3 cf4 xg0 xg1 xg2 xg3 xg4 yg0 yg1 yg2 yg3 yg4 rg0 rg1 rg2 rg3 rg4
  refine (refIs_yes (t + - u) (m + - v) _ HL.out).mono ?_
  rintro e w3 ⟨rfl, hb⟩
  have B3 := Lib.hid (B2.out.up hb)
  have X3 := X2.up hb
  have Y3 := Y2.up hb
  have R3 := R2.up hb
  have C3 := C2.up hb
  clear hb B2  X2 Y2 R2 C2
  obtain ⟨xf0, xf1, xf2, xf3, xf4⟩ := id X3
  obtain ⟨yf0, yf1, yf2, yf3, yf4⟩ := id Y3
  obtain ⟨rf0, rf1, rf2, rf3, rf4⟩ := id R3
  obtain ⟨cf0, cf1, cf2, cf3, cf4⟩ := id C3
  go_wp2_with fail
  have Tf := R3.store (u := .int .i64 (t + - u)) (v := .int .i64 (m + - v))
  exact bodyPost_ret (v := .tuple #[.agg #[.int .i64 (t + - u), .int .i64 (m + - v)], .int .i64 0]) (by first | (simp [results, Tryd.results14, go_sem, Tf.c0, Tf.c1]; done) | (simp [results, Tryd.results14, go_sem, Tf.c0, Tf.c1]; omega)) rfl ⟨rfl, ((B3.out.set (Nat.le_succ_of_le (Nat.le_succ _)) _ _).set (Nat.le_succ_of_le (Nat.le_succ _)) _ _)⟩
theorem sub_add (t u : Int) : t - u = t + -u := Int.sub_eq_add_neg
theorem add_any (t m u v : Int) (w : World) : Calls Tryd.prog 11 #[.agg #[.int .i64 t, .int .i64 m], .agg #[.int .i64 u, .int .i64 v]] w fun e w' => e = .returned (.tuple #[.agg #[.int .i64 (addI t m u v).1, .int .i64 (addI t m u v).2.1], .int .i64 (addI t m u v).2.2]) ∧ Below w.heap.size w w' := by
  unfold addI
  by_cases h : Iv t m
  · by_cases k : Iv u v
    · by_cases l : Iv (t + u) (m + v)
      · rw [if_pos ⟨h, k, l⟩]; exact add_y t m u v w h k l
      · rw [if_neg (fun x => l x.2.2)]; exact add_n3 t m u v w h k l
    · rw [if_neg (fun x => k x.2.1)]; exact add_n2 t m u v w h k
  · rw [if_neg (fun x => h x.1)]; exact add_n1 t m u v w h
theorem sub_any (t m u v : Int) (w : World) : Calls Tryd.prog 12 #[.agg #[.int .i64 t, .int .i64 m], .agg #[.int .i64 u, .int .i64 v]] w fun e w' => e = .returned (.tuple #[.agg #[.int .i64 (subI t m u v).1, .int .i64 (subI t m u v).2.1], .int .i64 (subI t m u v).2.2]) ∧ Below w.heap.size w w' := by
  unfold subI
  by_cases h : Iv t m
  · by_cases k : Iv u v
    · by_cases l : Iv (t - u) (m - v)
      · rw [if_pos ⟨h, k, l⟩]; exact sub_y t m u v w h k l
      · rw [if_neg (fun x => l x.2.2)]; exact sub_n3 t m u v w h k l
    · rw [if_neg (fun x => k x.2.1)]; exact sub_n2 t m u v w h k
  · rw [if_neg (fun x => h x.1)]; exact sub_n1 t m u v w h
theorem sumA_any (t m u v : Int) (w : World) : Calls Tryd.prog 14 #[.agg #[.int .i64 t, .int .i64 m], .agg #[.int .i64 u, .int .i64 v], .int .i64 1] w fun e w' => e = .returned (.tuple #[.agg #[.int .i64 (addI t m u v).1, .int .i64 (addI t m u v).2.1], .int .i64 (addI t m u v).2.2]) ∧ Below w.heap.size w w' := by
  unfold addI
  by_cases h : Iv t m
  · by_cases k : Iv u v
    · by_cases l : Iv (t + u) (m + v)
      · rw [if_pos ⟨h, k, l⟩]; exact sumA_y t m u v w h k l
      · rw [if_neg (fun x => l x.2.2)]; exact sumA_n3 t m u v w h k l
    · rw [if_neg (fun x => k x.2.1)]; exact sumA_n2 t m u v w h k
  · rw [if_neg (fun x => h x.1)]; exact sumA_n1 t m u v w h
theorem sumS_any (t m u v : Int) (w : World) : Calls Tryd.prog 14 #[.agg #[.int .i64 t, .int .i64 m], .agg #[.int .i64 u, .int .i64 v], .int .i64 (-1)] w fun e w' => e = .returned (.tuple #[.agg #[.int .i64 (subI t m u v).1, .int .i64 (subI t m u v).2.1], .int .i64 (subI t m u v).2.2]) ∧ Below w.heap.size w w' := by
  unfold subI
  rw [sub_add t u, sub_add m v]
  by_cases h : Iv t m
  · by_cases k : Iv u v
    · by_cases l : Iv (t + -u) (m + -v)
      · rw [if_pos ⟨h, k, l⟩]; exact sumS_y t m u v w h k l
      · rw [if_neg (fun x => l x.2.2)]; exact sumS_n3 t m u v w h k l
    · rw [if_neg (fun x => k x.2.1)]; exact sumS_n2 t m u v w h k
  · rw [if_neg (fun x => h x.1)]; exact sumS_n1 t m u v w h
set_option maxRecDepth 100000 in
set_option maxHeartbeats 2000000 in
theorem opp_ok (t m : Int) (w : World) (h : Iv t m) :
    Calls Tryd.prog 37 #[.agg #[.int .i64 t, .int .i64 m]] w fun e w' => e = .returned (.agg #[.int .i64 (-t), .int .i64 (-m)]) ∧ Below w.heap.size w w' := by
  have B0 := Lib.hid (((Bel.refl w).alloc (.cells #[.int .i64 t, .int .i64 m] 23)).alloc (.cells #[.int .i64 0, .int .i64 0] 23))
  have X0 := (Duo.new w (.int .i64 t) (.int .i64 m) 23 (w.heap.size) (by simp)).alloc (.cells #[.int .i64 0, .int .i64 0] 23)
  have R0 := Duo.new (w.alloc (.cells #[.int .i64 t, .int .i64 m] 23)) (.int .i64 0) (.int .i64 0) 23 (w.heap.size + 1) (by simp)
  have HP := Lib.hid h
  go_enter Tryd.func37, Tryd.ntmps37
  obtain ⟨xf0, xf1, xf2, xf3, xf4⟩ := id X0
  obtain ⟨rf0, rf1, rf2, rf3, rf4⟩ := id R0
  go_wp2_with fail
  clear xf0 xf1 xf2 xf3 xf4 rf0 rf1 rf2 rf3 rf4
  refine (plus_sub 0 0 t m _ ⟨by omega, by omega, by omega, by omega⟩ HP.out).mono ?_
  rintro e w1 ⟨rfl, hb⟩
  have B1 := Lib.hid (B0.out.up hb)
  have X1 := X0.up hb
  have R1 := R0.up hb
  clear hb B0  X0 R0
  obtain ⟨xf0, xf1, xf2, xf3, xf4⟩ := id X1
  obtain ⟨rf0, rf1, rf2, rf3, rf4⟩ := id R1
  go_wp2_with fail
  have Tf := R1.store (u := .int .i64 (-t)) (v := .int .i64 (-m))
  exact bodyPost_ret (v := .agg #[.int .i64 (-t), .int .i64 (-m)]) (by first | (simp [results, Tryd.results37, go_sem, Tf.c0, Tf.c1]; done) | (simp [results, Tryd.results37, go_sem, Tf.c0, Tf.c1]; omega)) rfl ⟨rfl, ((B1.out.set (Nat.le_succ _) _ _).set (Nat.le_succ _) _ _)⟩
set_option maxRecDepth 100000 in
set_option maxHeartbeats 2000000 in
theorem neg_y (t m : Int) (w : World) (h : Iv t m) :
    Calls Tryd.prog 13 #[.agg #[.int .i64 t, .int .i64 m]] w fun e w' => e = .returned (.tuple #[.agg #[.int .i64 (-t), .int .i64 (-m)], .int .i64 0]) ∧ Below w.heap.size w w' := by
  have B0 := Lib.hid (((Bel.refl w).alloc (.cells #[.int .i64 t, .int .i64 m] 23)).alloc (.cells #[.int .i64 0, .int .i64 0] 23))
  have X0 := (Duo.new w (.int .i64 t) (.int .i64 m) 23 (w.heap.size) (by simp)).alloc (.cells #[.int .i64 0, .int .i64 0] 23)
  have R0 := Duo.new (w.alloc (.cells #[.int .i64 t, .int .i64 m] 23)) (.int .i64 0) (.int .i64 0) 23 (w.heap.size + 1) (by simp)
  have HP := Lib.hid h
  go_enter Tryd.func13, Tryd.ntmps13
  obtain ⟨xf0, xf1, xf2, xf3, xf4⟩ := id X0
  obtain ⟨rf0, rf1, rf2, rf3, rf4⟩ := id R0
  go_wp2_with fail
  clear xf0 xf1 xf2 xf3 xf4 rf0 rf1 rf2 rf3 rf4
  refine (checkI_ok t m _ HP.out).mono ?_
  rintro e w1 ⟨rfl, hb⟩
  have B1 := Lib.hid (B0.out.up hb)
  have X1 := X0.up hb
  have R1 := R0.up hb
  clear hb B0  X0 R0
  obtain ⟨xf0, xf1, xf2, xf3, xf4⟩ := id X1
  obtain ⟨rf0, rf1, rf2, rf3, rf4⟩ := id R1
  go_wp2_with fail
  clear xf0 xf1 xf2 xf3 xf4 rf0 rf1 rf2 rf3 rf4
  refine (opp_ok t m _ HP.out).mono ?_
  rintro e w2 ⟨rfl, hb⟩
  have B2 := Lib.hid (B1.out.up hb)
  have X2 := X1.up hb
  have R2 := R1.up hb
  clear hb B1  X1 R1
  obtain ⟨xf0, xf1, xf2, xf3, xf4⟩ := id X2
  obtain ⟨rf0, rf1, rf2, rf3, rf4⟩ := id R2
  go_wp2_with fail
  have Tf := R2.store (u := .int .i64 (-t)) (v := .int .i64 (-m))
  exact bodyPost_ret (v := .tuple #[.agg #[.int .i64 (-t), .int .i64 (-m)], .int .i64 0]) (by first | (simp [results, Tryd.results13, go_sem, Tf.c0, Tf.c1]; done) | (simp [results, Tryd.results13, go_sem, Tf.c0, Tf.c1]; omega)) rfl ⟨rfl, ((B2.out.set (Nat.le_succ _) _ _).set (Nat.le_succ _) _ _)⟩
set_option maxRecDepth 100000 in
set_option maxHeartbeats 2000000 in
theorem neg_n (t m : Int) (w : World) (h : ¬ Iv t m) :
    Calls Tryd.prog 13 #[.agg #[.int .i64 t, .int .i64 m]] w fun e w' => e = .returned (.tuple #[.agg #[.int .i64 0, .int .i64 0], .int .i64 2]) ∧ Below w.heap.size w w' := by
  have B0 := Lib.hid (((Bel.refl w).alloc (.cells #[.int .i64 t, .int .i64 m] 23)).alloc (.cells #[.int .i64 0, .int .i64 0] 23))
  have X0 := (Duo.new w (.int .i64 t) (.int .i64 m) 23 (w.heap.size) (by simp)).alloc (.cells #[.int .i64 0, .int .i64 0] 23)
  have R0 := Duo.new (w.alloc (.cells #[.int .i64 t, .int .i64 m] 23)) (.int .i64 0) (.int .i64 0) 23 (w.heap.size + 1) (by simp)
  have HP := Lib.hid h
  go_enter Tryd.func13, Tryd.ntmps13
  obtain ⟨xf0, xf1, xf2, xf3, xf4⟩ := id X0
  obtain ⟨rf0, rf1, rf2, rf3, rf4⟩ := id R0
  go_wp2_with fail
  clear xf0 xf1 xf2 xf3 xf4 rf0 rf1 rf2 rf3 rf4
  refine (checkI_bad t m _ HP.out).mono ?_
  rintro e w1 ⟨rfl, hb⟩
  have B1 := Lib.hid (B0.out.up hb)
  have X1 := X0.up hb
  have R1 := R0.up hb
  clear hb B0  X0 R0
  obtain ⟨xf0, xf1, xf2, xf3, xf4⟩ := id X1
  obtain ⟨rf0, rf1, rf2, rf3, rf4⟩ := id R1
  go_wp2_with fail
  have Tf := R1.store (u := .int .i64 0) (v := .int .i64 0)
  exact bodyPost_ret (v := .tuple #[.agg #[.int .i64 0, .int .i64 0], .int .i64 2]) (by first | (simp [results, Tryd.results13, go_sem, Tf.c0, Tf.c1]; done) | (simp [results, Tryd.results13, go_sem, Tf.c0, Tf.c1]; omega)) rfl ⟨rfl, ((B1.out.set (Nat.le_succ _) _ _).set (Nat.le_succ _) _ _)⟩
theorem neg_any (t m : Int) (w : World) : Calls Tryd.prog 13 #[.agg #[.int .i64 t, .int .i64 m]] w fun e w' => e = .returned (.tuple #[.agg #[.int .i64 (subI 0 0 t m).1, .int .i64 (subI 0 0 t m).2.1], .int .i64 (subI 0 0 t m).2.2]) ∧ Below w.heap.size w w' := by
  have z : Iv 0 0 := ⟨by omega, by omega, by omega, by omega⟩
  unfold subI
  by_cases h : Iv t m
  · have l : Iv (0 - t) (0 - m) := ⟨by have := h.t1; omega, by have := h.t0; omega, by have := h.m1; omega, by have := h.m0; omega⟩
    rw [if_pos ⟨z, h, l⟩, Int.zero_sub, Int.zero_sub]; exact neg_y t m w h
  · rw [if_neg (fun x => h x.2.1)]; exact neg_n t m w h
end Go.Proofs.YtfbogakmhaiddaaDoor
