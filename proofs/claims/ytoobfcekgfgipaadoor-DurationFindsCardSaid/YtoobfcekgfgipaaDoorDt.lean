/- Durations: the reference's Find. -/
import Derived.Test.YtoobfcekgfgipaaDoorDs
namespace Go.Proofs.YtoobfcekgfgipaaDoor
open Go.RowKit
set_option linter.unusedVariables false
set_option linter.unusedSimpArgs false

set_option maxRecDepth 100000 in
set_option maxHeartbeats 4000000 in
theorem rfind_y (T : Int) (x : Fin 40) (w : World) (hx : lenV (lgV x) (dtV x) = T) :
    Calls Tryd.prog 15 #[.int .i64 T] w fun e w' => e = .returned (.tuple #[.agg #[.int .i64 (lgV x), .int .i64 (dtV x)], .bool true]) ∧ Below w.heap.size w w' := by
  have B0 := Lib.hid ((Bel.refl w).alloc (.cells #[.int .i64 0, .int .i64 0] 23))
  have R0 := Lib.hid (Duo.new w (.int .i64 0) (.int .i64 0) 23 w.heap.size rfl)
  have HX := Lib.hid hx
  have hx40 := x.isLt
  clear hx
  go_enter Tryd.func15, Tryd.ntmps15
  go_wp2_with fail
  refine (all_ok _).mono ?_
  rintro e w1 ⟨g, cap, rfl, hv, hb⟩
  have B1 := Lib.hid (B0.out.up hb)
  have R1 := Lib.hid (R0.out.up hb)
  have V1 := Lib.hid hv
  clear B0 R0 hv hb
  go_wp2_with fail
  go_loopg [5] 40 (fun gm i wr => ∃ j : Nat, j ≤ x.val ∧ gm = 40 - j ∧ i = .int .i64 (j : Int) ∧ Hid (Bel w wr) ∧ Hid (Duo wr w.heap.size (.int .i64 0) (.int .i64 0)) ∧ Hid (VlAt wr g 40))
  case atStart => exact ⟨0, by omega, by omega, rfl, B1, R1, V1⟩
  case round =>
    clear B1 R1 V1
    obtain ⟨j, hj, rfl, rfl, HB, HR, HV⟩ := hrel
    by_cases hlt : j < x.val
    · obtain ⟨y, hy⟩ : ∃ y : Fin 40, y.val = j := ⟨⟨j, by omega⟩, rfl⟩
      have HY := Lib.hid hy
      have hd : decide ((j : Int) < 40) = true := decide_eq_true (by omega)
      obtain ⟨p0, p1⟩ := HV.out y (by omega)
      rw [hy] at p0 p1
      have KR := Lib.hid (fun u => rticks_ok (lgV y) (dtV y) u (va_at y))
      have hne : (lenV (lgV y) (dtV y) == T) = false := by
        have : lenV (lgV y) (dtV y) ≠ T := fun e => by have := lenV_inj y x (by rw [e, HX.out]); subst this; omega
        simpa using this
      generalize lenV (lgV y) (dtV y) = L at *
      clear HY hy
      generalize lgV y = a at *
      generalize dtV y = b at *
      go_wp2_with fail
      refine (KR.out _).mono ?_
      rintro e w2 ⟨rfl, hb⟩
      have HB2 := Lib.hid (HB.out.up hb)
      have HR2 := Lib.hid (HR.out.up hb)
      have HV2 := Lib.hid (HV.out.up hb)
      have q0 := cell_up hb p0
      have q1 := cell_up hb p1
      clear HB HR HV p0 p1 hb
      go_wp2_with fail
      go_roundg (40 - (j + 1))
      case measure => omega
      case rel => exact ⟨j + 1, by omega, rfl, by go_num, HB2, HR2, HV2⟩
    · obtain ⟨y, hy⟩ : ∃ y : Fin 40, y.val = j := ⟨x, by omega⟩
      obtain rfl : y = x := Fin.ext (by omega)
      have HY := Lib.hid hy
      have hd : decide ((j : Int) < 40) = true := decide_eq_true (by omega)
      obtain ⟨p0, p1⟩ := HV.out y (by omega)
      rw [hy] at p0 p1
      have KR := Lib.hid (fun u => rticks_ok (lgV y) (dtV y) u (va_at y))
      rw [HX.out] at KR
      clear HX
      clear HY hy
      go_wp2_with fail
      refine (KR.out _).mono ?_
      rintro e w2 ⟨rfl, hb⟩
      have HB2 := Lib.hid (HB.out.up hb)
      have HR2 := Lib.hid (HR.out.up hb)
      have HV2 := Lib.hid (HV.out.up hb)
      have q0 := cell_up hb p0
      have q1 := cell_up hb p1
      clear HB HR HV p0 p1 hb
      obtain ⟨_, r0, r1, rf0, rf1⟩ := id HR2.out
      go_wp2_with fail
      have Tf := HR2.out.store (u := .int .i64 (lgV y)) (v := .int .i64 (dtV y))
      exact bodyPost_ret (v := .tuple #[.agg #[.int .i64 (lgV y), .int .i64 (dtV y)], .bool true]) (by simp [results, Tryd.results15, go_sem, Tf.c0, Tf.c1]) rfl ⟨rfl, (HB2.out.set (Nat.le_refl _) _ _).set (Nat.le_refl _) _ _⟩
set_option maxRecDepth 100000 in
set_option maxHeartbeats 4000000 in
theorem rfind_n (T : Int)  (w : World) (hx : ∀ x : Fin 40, lenV (lgV x) (dtV x) ≠ T) :
    Calls Tryd.prog 15 #[.int .i64 T] w fun e w' => e = .returned (.tuple #[.agg #[.int .i64 0, .int .i64 0], .bool false]) ∧ Below w.heap.size w w' := by
  have B0 := Lib.hid ((Bel.refl w).alloc (.cells #[.int .i64 0, .int .i64 0] 23))
  have R0 := Lib.hid (Duo.new w (.int .i64 0) (.int .i64 0) 23 w.heap.size rfl)
  have HX := Lib.hid hx
  clear hx
  go_enter Tryd.func15, Tryd.ntmps15
  go_wp2_with fail
  refine (all_ok _).mono ?_
  rintro e w1 ⟨g, cap, rfl, hv, hb⟩
  have B1 := Lib.hid (B0.out.up hb)
  have R1 := Lib.hid (R0.out.up hb)
  have V1 := Lib.hid hv
  clear B0 R0 hv hb
  go_wp2_with fail
  go_loopg [5] 40 (fun gm i wr => ∃ j : Nat, j ≤ 40 ∧ gm = 40 - j ∧ i = .int .i64 (j : Int) ∧ Hid (Bel w wr) ∧ Hid (Duo wr w.heap.size (.int .i64 0) (.int .i64 0)) ∧ Hid (VlAt wr g 40))
  case atStart => exact ⟨0, by omega, by omega, rfl, B1, R1, V1⟩
  case round =>
    clear B1 R1 V1
    obtain ⟨j, hj, rfl, rfl, HB, HR, HV⟩ := hrel
    by_cases hlt : j < 40
    · obtain ⟨y, hy⟩ : ∃ y : Fin 40, y.val = j := ⟨⟨j, by omega⟩, rfl⟩
      have HY := Lib.hid hy
      have hd : decide ((j : Int) < 40) = true := decide_eq_true (by omega)
      obtain ⟨p0, p1⟩ := HV.out y (by omega)
      rw [hy] at p0 p1
      have KR := Lib.hid (fun u => rticks_ok (lgV y) (dtV y) u (va_at y))
      have hne : (lenV (lgV y) (dtV y) == T) = false := by simpa using HX.out y
      generalize lenV (lgV y) (dtV y) = L at *
      clear HY hy
      generalize lgV y = a at *
      generalize dtV y = b at *
      go_wp2_with fail
      refine (KR.out _).mono ?_
      rintro e w2 ⟨rfl, hb⟩
      have HB2 := Lib.hid (HB.out.up hb)
      have HR2 := Lib.hid (HR.out.up hb)
      have HV2 := Lib.hid (HV.out.up hb)
      have q0 := cell_up hb p0
      have q1 := cell_up hb p1
      clear HB HR HV p0 p1 hb
      go_wp2_with fail
      go_roundg (40 - (j + 1))
      case measure => omega
      case rel => exact ⟨j + 1, by omega, rfl, by go_num, HB2, HR2, HV2⟩
    · obtain rfl : j = 40 := by omega
      obtain ⟨_, r0, r1, rf0, rf1⟩ := id HR.out
      go_wp2_with fail
      have Tf := HR.out.store (u := .int .i64 0) (v := .int .i64 0)
      exact bodyPost_ret (v := .tuple #[.agg #[.int .i64 0, .int .i64 0], .bool false]) (by simp [results, Tryd.results15, go_sem, Tf.c0, Tf.c1]) rfl ⟨rfl, (HB.out.set (Nat.le_refl _) _ _).set (Nat.le_refl _) _ _⟩
end Go.Proofs.YtoobfcekgfgipaaDoor
