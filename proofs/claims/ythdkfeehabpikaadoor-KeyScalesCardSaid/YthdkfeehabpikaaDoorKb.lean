/- Keys: Check, Transpose. -/
import Derived.Test.YthdkfeehabpikaaDoorKa
namespace Go.Proofs.YthdkfeehabpikaaDoor
open Go.RowKit
set_option linter.unusedVariables false
set_option linter.unusedSimpArgs false

/-- a signature -/
structure Sg (f : Int) : Prop where
  f0 : -7 ≤ f
  f1 : f ≤ 7
instance (f : Int) : Decidable (Sg f) := decidable_of_iff (-7 ≤ f ∧ f ≤ 7) ⟨fun ⟨a, b⟩ => ⟨a, b⟩, fun ⟨a, b⟩ => ⟨a, b⟩⟩
theorem not_sg {f : Int} (h : ¬ Sg f) : f < -7 ∨ -7 ≤ f ∧ 7 < f := by
  have : ¬ (-7 ≤ f ∧ f ≤ 7) := fun ⟨a, b⟩ => h ⟨a, b⟩
  omega
structure Iv (t m : Int) : Prop where
  t0 : -77 ≤ t
  t1 : t ≤ 77
  m0 : -140 ≤ m
  m1 : m ≤ 140
theorem not_iv {t m : Int} (h : ¬ Iv t m) : t < -77 ∨ -77 ≤ t ∧ (77 < t ∨ t ≤ 77 ∧ (m < -140 ∨ -140 ≤ m ∧ 140 < m)) := by
  have h' : ¬ (-77 ≤ t ∧ t ≤ 77 ∧ -140 ≤ m ∧ m ≤ 140) := fun ⟨a, b, c, d⟩ => h ⟨a, b, c, d⟩
  omega
instance (t m : Int) : Decidable (Iv t m) := decidable_of_iff (-77 ≤ t ∧ t ≤ 77 ∧ -140 ≤ m ∧ m ≤ 140) ⟨fun ⟨a, b, c, d⟩ => ⟨a, b, c, d⟩, fun ⟨a, b, c, d⟩ => ⟨a, b, c, d⟩⟩
def redK (x : Int) : Int := if 7 < x then x - 12 * ((x + 4) / 12) else if x < -7 then x + 12 * ((4 - x) / 12) else x
theorem red_down {v : Int} (h : 7 < v) : redK (v - 12) = redK v := by unfold redK; (repeat' split) <;> omega
theorem red_up {v : Int} (h : v < -7) : redK (v + 12) = redK v := by unfold redK; (repeat' split) <;> omega
theorem red_in {v : Int} (h0 : -7 ≤ v) (h1 : v ≤ 7) : redK v = v := by unfold redK; (repeat' split) <;> omega
theorem red_bd (v : Int) : -7 ≤ redK v ∧ redK v ≤ 7 := by unfold redK; (repeat' split) <;> omega
set_option maxRecDepth 100000 in
set_option maxHeartbeats 2000000 in
theorem checkK_ok (f : Int) (w : World) (h : Sg f) :
    Calls Tryd.prog 18 #[.int .i64 f] w fun e w' => e = .returned (.int .i64 0) ∧ Below w.heap.size w w' := by
  have B0 := Lib.hid (Bel.refl w)
  obtain ⟨f0, f1⟩ := h
  go_enter Tryd.func18, Tryd.ntmps18
  go_wp2_with fail
  go_ret
  exact ⟨by first | rfl | (simp; done) | (simp [go_sem]; done) | (simp [go_sem]; omega), B0.out.out⟩
set_option maxRecDepth 100000 in
set_option maxHeartbeats 2000000 in
theorem checkK_lo (f : Int) (w : World) (h : f < -7) :
    Calls Tryd.prog 18 #[.int .i64 f] w fun e w' => e = .returned (.int .i64 2) ∧ Below w.heap.size w w' := by
  have B0 := Lib.hid (Bel.refl w)
  go_enter Tryd.func18, Tryd.ntmps18
  go_wp2_with fail
  go_ret
  exact ⟨by first | rfl | (simp; done) | (simp [go_sem]; done) | (simp [go_sem]; omega), B0.out.out⟩
set_option maxRecDepth 100000 in
set_option maxHeartbeats 2000000 in
theorem checkK_hi (f : Int) (w : World) (h : 7 < f) :
    Calls Tryd.prog 18 #[.int .i64 f] w fun e w' => e = .returned (.int .i64 2) ∧ Below w.heap.size w w' := by
  have B0 := Lib.hid (Bel.refl w)
  go_enter Tryd.func18, Tryd.ntmps18
  go_wp2_with fail
  go_ret
  exact ⟨by first | rfl | (simp; done) | (simp [go_sem]; done) | (simp [go_sem]; omega), B0.out.out⟩
theorem checkK_bad (f : Int) (w : World) (h : ¬ Sg f) : Calls Tryd.prog 18 #[.int .i64 f] w fun e w' => e = .returned (.int .i64 2) ∧ Below w.heap.size w w' := by
  rcases not_sg h with h | ⟨_, h⟩
  · exact checkK_lo f w h
  · exact checkK_hi f w h
set_option maxRecDepth 100000 in
set_option maxHeartbeats 2000000 in
theorem isK_ok (f : Int) (w : World) (h : Sg f) :
    Calls Tryd.prog 9 #[.int .i64 f] w fun e w' => e = .returned (.bool true) ∧ Below w.heap.size w w' := by
  have B0 := Lib.hid (Bel.refl w)
  obtain ⟨f0, f1⟩ := h
  go_enter Tryd.func9, Tryd.ntmps9
  go_wp2_with fail
  go_ret
  exact ⟨by first | rfl | (simp; done) | (simp [go_sem]; done) | (simp [go_sem]; omega), B0.out.out⟩
set_option maxRecDepth 100000 in
set_option maxHeartbeats 2000000 in
theorem isK_lo (f : Int) (w : World) (h : f < -7) :
    Calls Tryd.prog 9 #[.int .i64 f] w fun e w' => e = .returned (.bool false) ∧ Below w.heap.size w w' := by
  have B0 := Lib.hid (Bel.refl w)
  go_enter Tryd.func9, Tryd.ntmps9
  go_wp2_with fail
  go_ret
  exact ⟨by first | rfl | (simp; done) | (simp [go_sem]; done) | (simp [go_sem]; omega), B0.out.out⟩
set_option maxRecDepth 100000 in
set_option maxHeartbeats 2000000 in
theorem isK_hi (f : Int) (w : World) (h : 7 < f) :
    Calls Tryd.prog 9 #[.int .i64 f] w fun e w' => e = .returned (.bool false) ∧ Below w.heap.size w w' := by
  have B0 := Lib.hid (Bel.refl w)
  go_enter Tryd.func9, Tryd.ntmps9
  go_wp2_with fail
  go_ret
  exact ⟨by first | rfl | (simp; done) | (simp [go_sem]; done) | (simp [go_sem]; omega), B0.out.out⟩
theorem isK_bad (f : Int) (w : World) (h : ¬ Sg f) : Calls Tryd.prog 9 #[.int .i64 f] w fun e w' => e = .returned (.bool false) ∧ Below w.heap.size w w' := by
  rcases not_sg h with h | ⟨_, h⟩
  · exact isK_lo f w h
  · exact isK_hi f w h
set_option maxRecDepth 100000 in
set_option maxHeartbeats 2000000 in
theorem transK_b1 (f t m : Int) (w : World) (h : ¬ Sg f) :
    Calls Tryd.prog 22 #[.int .i64 f, .agg #[.int .i64 t, .int .i64 m]] w fun e w' => e = .returned (.tuple #[.int .i64 (0), .int .i64 2]) ∧ Below w.heap.size w w' := by
  have B0 := Lib.hid ((Bel.refl w).alloc (.cells #[.int .i64 t, .int .i64 m] 57))
  have X0 := Duo.new w (.int .i64 t) (.int .i64 m) 57 (w.heap.size) (by simp)
  have HP := Lib.hid h
  go_enter Tryd.func22, Tryd.ntmps22
  obtain ⟨xf0, xf1, xf2, xf3, xf4⟩ := id X0
  go_wp2_with fail
  clear xf0 xf1 xf2 xf3 xf4
  refine (checkK_bad f _ HP.out).mono ?_
  rintro e w1 ⟨rfl, hb⟩
  have B1 := Lib.hid (B0.out.up hb)
  have X1 := X0.up hb
  clear hb B0  X0
  obtain ⟨xf0, xf1, xf2, xf3, xf4⟩ := id X1
  go_wp2_with fail
  go_ret2
  exact ⟨rfl, B1.out.out⟩
set_option maxRecDepth 100000 in
set_option maxHeartbeats 2000000 in
theorem transK_c1 (f t m : Int) (w : World) (h : Sg f) (k : t < -77) :
    Calls Tryd.prog 22 #[.int .i64 f, .agg #[.int .i64 t, .int .i64 m]] w fun e w' => e = .returned (.tuple #[.int .i64 (0), .int .i64 2]) ∧ Below w.heap.size w w' := by
  have B0 := Lib.hid ((Bel.refl w).alloc (.cells #[.int .i64 t, .int .i64 m] 57))
  have X0 := Duo.new w (.int .i64 t) (.int .i64 m) 57 (w.heap.size) (by simp)
  have HP := Lib.hid h
  go_enter Tryd.func22, Tryd.ntmps22
  obtain ⟨xf0, xf1, xf2, xf3, xf4⟩ := id X0
  go_wp2_with fail
  clear xf0 xf1 xf2 xf3 xf4
  refine (checkK_ok f _ HP.out).mono ?_
  rintro e w1 ⟨rfl, hb⟩
  have B1 := Lib.hid (B0.out.up hb)
  have X1 := X0.up hb
  clear hb B0  X0
  obtain ⟨xf0, xf1, xf2, xf3, xf4⟩ := id X1
  go_wp2_with fail
  go_ret2
  exact ⟨rfl, B1.out.out⟩
set_option maxRecDepth 100000 in
set_option maxHeartbeats 2000000 in
theorem transK_c2 (f t m : Int) (w : World) (h : Sg f) (a1 : -77 ≤ t) (k : 77 < t) :
    Calls Tryd.prog 22 #[.int .i64 f, .agg #[.int .i64 t, .int .i64 m]] w fun e w' => e = .returned (.tuple #[.int .i64 (0), .int .i64 2]) ∧ Below w.heap.size w w' := by
  have B0 := Lib.hid ((Bel.refl w).alloc (.cells #[.int .i64 t, .int .i64 m] 57))
  have X0 := Duo.new w (.int .i64 t) (.int .i64 m) 57 (w.heap.size) (by simp)
  have HP := Lib.hid h
  go_enter Tryd.func22, Tryd.ntmps22
  obtain ⟨xf0, xf1, xf2, xf3, xf4⟩ := id X0
  go_wp2_with fail
  clear xf0 xf1 xf2 xf3 xf4
  refine (checkK_ok f _ HP.out).mono ?_
  rintro e w1 ⟨rfl, hb⟩
  have B1 := Lib.hid (B0.out.up hb)
  have X1 := X0.up hb
  clear hb B0  X0
  obtain ⟨xf0, xf1, xf2, xf3, xf4⟩ := id X1
  go_wp2_with fail
  go_ret2
  exact ⟨rfl, B1.out.out⟩
set_option maxRecDepth 100000 in
set_option maxHeartbeats 2000000 in
theorem transK_c3 (f t m : Int) (w : World) (h : Sg f) (a1 : -77 ≤ t) (a2 : t ≤ 77) (k : m < -140) :
    Calls Tryd.prog 22 #[.int .i64 f, .agg #[.int .i64 t, .int .i64 m]] w fun e w' => e = .returned (.tuple #[.int .i64 (0), .int .i64 2]) ∧ Below w.heap.size w w' := by
  have B0 := Lib.hid ((Bel.refl w).alloc (.cells #[.int .i64 t, .int .i64 m] 57))
  have X0 := Duo.new w (.int .i64 t) (.int .i64 m) 57 (w.heap.size) (by simp)
  have HP := Lib.hid h
  go_enter Tryd.func22, Tryd.ntmps22
  obtain ⟨xf0, xf1, xf2, xf3, xf4⟩ := id X0
  go_wp2_with fail
  clear xf0 xf1 xf2 xf3 xf4
  refine (checkK_ok f _ HP.out).mono ?_
  rintro e w1 ⟨rfl, hb⟩
  have B1 := Lib.hid (B0.out.up hb)
  have X1 := X0.up hb
  clear hb B0  X0
  obtain ⟨xf0, xf1, xf2, xf3, xf4⟩ := id X1
  go_wp2_with fail
  go_ret2
  exact ⟨rfl, B1.out.out⟩
set_option maxRecDepth 100000 in
set_option maxHeartbeats 2000000 in
theorem transK_c4 (f t m : Int) (w : World) (h : Sg f) (a1 : -77 ≤ t) (a2 : t ≤ 77) (a3 : -140 ≤ m) (k : 140 < m) :
    Calls Tryd.prog 22 #[.int .i64 f, .agg #[.int .i64 t, .int .i64 m]] w fun e w' => e = .returned (.tuple #[.int .i64 (0), .int .i64 2]) ∧ Below w.heap.size w w' := by
  have B0 := Lib.hid ((Bel.refl w).alloc (.cells #[.int .i64 t, .int .i64 m] 57))
  have X0 := Duo.new w (.int .i64 t) (.int .i64 m) 57 (w.heap.size) (by simp)
  have HP := Lib.hid h
  go_enter Tryd.func22, Tryd.ntmps22
  obtain ⟨xf0, xf1, xf2, xf3, xf4⟩ := id X0
  go_wp2_with fail
  clear xf0 xf1 xf2 xf3 xf4
  refine (checkK_ok f _ HP.out).mono ?_
  rintro e w1 ⟨rfl, hb⟩
  have B1 := Lib.hid (B0.out.up hb)
  have X1 := X0.up hb
  clear hb B0  X0
  obtain ⟨xf0, xf1, xf2, xf3, xf4⟩ := id X1
  go_wp2_with fail
  go_ret2
  exact ⟨rfl, B1.out.out⟩
theorem transK_b2 (f t m : Int) (w : World) (h : Sg f) (k : ¬ Iv t m) : Calls Tryd.prog 22 #[.int .i64 f, .agg #[.int .i64 t, .int .i64 m]] w fun e w' => e = .returned (.tuple #[.int .i64 (0), .int .i64 2]) ∧ Below w.heap.size w w' := by
  rcases not_iv k with k | ⟨a1, k | ⟨a2, k | ⟨a3, k⟩⟩⟩
  · exact transK_c1 f t m w h k
  · exact transK_c2 f t m w h a1 k
  · exact transK_c3 f t m w h a1 a2 k
  · exact transK_c4 f t m w h a1 a2 a3 k
set_option maxRecDepth 100000 in
set_option maxHeartbeats 2000000 in
theorem transK_ok (f t m : Int) (w : World) (h : Sg f) (k : Iv t m) :
    Calls Tryd.prog 22 #[.int .i64 f, .agg #[.int .i64 t, .int .i64 m]] w fun e w' => e = .returned (.tuple #[.int .i64 (redK (f + 7 * m + -12 * t)), .int .i64 0]) ∧ Below w.heap.size w w' := by
  have B0 := Lib.hid ((Bel.refl w).alloc (.cells #[.int .i64 t, .int .i64 m] 57))
  have X0 := Duo.new w (.int .i64 t) (.int .i64 m) 57 (w.heap.size) (by simp)
  have HP := Lib.hid h
  obtain ⟨f0, f1⟩ := h
  obtain ⟨t0, t1, m0, m1⟩ := k
  go_enter Tryd.func22, Tryd.ntmps22
  obtain ⟨xf0, xf1, xf2, xf3, xf4⟩ := id X0
  go_wp2_with fail
  clear xf0 xf1 xf2 xf3 xf4
  refine (checkK_ok f _ HP.out).mono ?_
  rintro e w1 ⟨rfl, hb⟩
  have B1 := Lib.hid (B0.out.up hb)
  have X1 := X0.up hb
  clear hb B0  X0
  obtain ⟨xf0, xf1, xf2, xf3, xf4⟩ := id X1
  go_wp2_with fail
  obtain ⟨V, hV⟩ : ∃ V, f + 7 * m + -12 * t = V := ⟨_, rfl⟩
  obtain ⟨R, hR⟩ : ∃ R, redK V = R := ⟨_, rfl⟩
  have HR := Lib.hid hR
  have HRR := Lib.hid (show redK (f + 7 * m + -12 * t) = R by rw [hV]; exact hR)
  have V0 : -2000 ≤ V := by omega
  have V1 : V ≤ 2000 := by omega
  rw [hV]
  clear hV hR
  clear f0 f1 t0 t1 m0 m1
  go_loopg [7] (V + 5000).toNat (fun gm mv wr => ∃ v : Int, mv = .int .i64 v ∧ gm = (v + 5000).toNat ∧ -2000 ≤ v ∧ v ≤ 2000 ∧ Hid (redK v = R) ∧ Hid (Bel w wr))
  case atStart => exact ⟨V, rfl, rfl, by omega, by omega, HR, B1⟩
  case round =>
    obtain ⟨v, rfl, rfl, v0, v1, HV, HB⟩ := hrel
    by_cases hlt : 7 < v
    · have HD := Lib.hid (red_down hlt)
      go_wp2_with fail
      go_roundg (v - 12 + 5000).toNat
      case measure => omega
      case rel => exact ⟨v - 12, rfl, rfl, by omega, by omega, Lib.hid (HD.out.trans HV.out), HB⟩
    · have hle : v ≤ 7 := by omega
      go_wp2_with fail
      go_loopg [7] (5000 - v).toNat (fun gm mv wr => ∃ v : Int, mv = .int .i64 v ∧ gm = (5000 - v).toNat ∧ -2000 ≤ v ∧ v ≤ 7 ∧ Hid (redK v = R) ∧ Hid (Bel w wr))
      case atStart => exact ⟨v, rfl, rfl, by omega, by omega, HV, HB⟩
      case round =>
        obtain ⟨u, rfl, rfl, u0, u1, HU, HC⟩ := hrel
        clear HV HB
        by_cases hlu : u < -7
        · have HD := Lib.hid (red_up hlu)
          go_wp2_with fail
          go_roundg (5000 - (u + 12)).toNat
          case measure => omega
          case rel => exact ⟨u + 12, rfl, rfl, by omega, by omega, Lib.hid (HD.out.trans HU.out), HC⟩
        · have HE := Lib.hid ((red_in (v := u) (by omega) (by omega)).symm.trans HU.out)
          go_wp2_with fail
          go_ret2
          exact ⟨by rw [HRR.out, ← HE.out]; first | done | rfl, HC.out.out⟩
end Go.Proofs.YthdkfeehabpikaaDoor
