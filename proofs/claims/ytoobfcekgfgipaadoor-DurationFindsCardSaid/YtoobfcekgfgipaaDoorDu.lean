/- Durations: law Finds. -/
import Derived.Test.YtoobfcekgfgipaaDoorDt
namespace Go.Proofs.YtoobfcekgfgipaaDoor
open Go.RowKit
set_option linter.unusedVariables false
set_option linter.unusedSimpArgs false

theorem find_y (T : Int) (x : Fin 40) (w : World) (hx : lenV (lgV x) (dtV x) = T) : Calls Tryd.prog 13 #[.int .i64 T] w fun e w' => e = .returned (.tuple #[.agg #[.int .i64 (lgV x), .int .i64 (dtV x)], .int .i64 0]) ∧ Below w.heap.size w w' := by
  refine (find_ok T w).mono ?_
  rintro e w' ⟨⟨y, hy, rfl⟩ | ⟨hn, _⟩, hb⟩
  · obtain rfl := lenV_inj x y (by rw [hx, hy])
    exact ⟨rfl, hb⟩
  · exact absurd hx (hn x)
theorem find_n (T : Int) (w : World) (hx : ∀ x : Fin 40, lenV (lgV x) (dtV x) ≠ T) : Calls Tryd.prog 13 #[.int .i64 T] w fun e w' => e = .returned (.tuple #[.agg #[.int .i64 0, .int .i64 0], .int .i64 17]) ∧ Below w.heap.size w w' := by
  refine (find_ok T w).mono ?_
  rintro e w' ⟨⟨y, hy, rfl⟩ | ⟨hn, rfl⟩, hb⟩
  · exact absurd hy (hx y)
  · exact ⟨rfl, hb⟩
set_option maxRecDepth 100000 in
set_option maxHeartbeats 2000000 in
theorem finds_y (T : Int) (x : Fin 40) (w : World) (hx : lenV (lgV x) (dtV x) = T) (hk : KT w) :
    Calls Tryd.prog 4 #[.int .i64 T] w fun e w' => e = .returned (.bool true) ∧ Below w.heap.size w w' := by
  have KF := Lib.hid (fun u => find_y T x u hx)
  have KR := Lib.hid (fun u => rfind_y T x u hx)
  generalize lgV x = a at KF KR
  generalize dtV x = b at KF KR
  have B0 := Lib.hid (Bel.refl w)
  have K0 := Lib.hid (Lib.hid hk).out
  clear hk hx
  go_enter Tryd.func4, Tryd.ntmps4
  go_wp2_with fail
  refine (KF.out _).mono ?_
  rintro e w1 ⟨rfl, hb⟩
  have B1 := Lib.hid ((B0.out.up hb).alloc (.cells #[.int .i64 a, .int .i64 b] 23))
  have K1 := Lib.hid ((K0.out.below hb).below ((Below.refl _ _).alloc (Nat.le_refl _) (.cells #[.int .i64 a, .int .i64 b] 23)))
  have Y1 := Duo.new w1 (.int .i64 a) (.int .i64 b) 23 (w1.heap.size) (by simp)
  clear hb B0 K0 
  obtain ⟨yf0, yf1, yf2, yf3, yf4⟩ := id Y1
  go_wp2_with fail
  clear yf0 yf1 yf2 yf3 yf4
  refine (KR.out _).mono ?_
  rintro e w2 ⟨rfl, hb⟩
  have B2 := Lib.hid ((B1.out.up hb).alloc (.cells #[.int .i64 a, .int .i64 b] 23))
  have K2 := Lib.hid ((K1.out.below hb).below ((Below.refl _ _).alloc (Nat.le_refl _) (.cells #[.int .i64 a, .int .i64 b] 23)))
  have Y2 := (Y1.up hb).alloc (.cells #[.int .i64 a, .int .i64 b] 23)
  have Z2 := Duo.new w2 (.int .i64 a) (.int .i64 b) 23 (w2.heap.size) (by simp)
  clear hb B1 K1 Y1
  obtain ⟨yf0, yf1, yf2, yf3, yf4⟩ := id Y2
  obtain ⟨zf0, zf1, zf2, zf3, zf4⟩ := id Z2
  go_wp2_with fail
  clear yf0 yf1 yf2 yf3 yf4 zf0 zf1 zf2 zf3 zf4
  refine (known_ok _ K2.out).mono ?_
  rintro e w3 ⟨rfl, hb⟩
  have B3 := Lib.hid (B2.out.up hb)
  have K3 := Lib.hid (K2.out.below hb)
  have Y3 := Y2.up hb
  have Z3 := Z2.up hb
  clear hb B2 K2 Y2 Z2
  obtain ⟨yf0, yf1, yf2, yf3, yf4⟩ := id Y3
  obtain ⟨zf0, zf1, zf2, zf3, zf4⟩ := id Z3
  go_wp2_with fail
  go_ret
  exact ⟨rfl, B3.out.out⟩
set_option maxRecDepth 100000 in
set_option maxHeartbeats 2000000 in
theorem finds_n (T : Int) (w : World) (hx : ∀ x : Fin 40, lenV (lgV x) (dtV x) ≠ T) (hk : KT w) :
    Calls Tryd.prog 4 #[.int .i64 T] w fun e w' => e = .returned (.bool true) ∧ Below w.heap.size w w' := by
  have KF := Lib.hid (fun u => find_n T u hx)
  have KR := Lib.hid (fun u => rfind_n T u hx)
  have B0 := Lib.hid (Bel.refl w)
  have K0 := Lib.hid (Lib.hid hk).out
  clear hk hx
  go_enter Tryd.func4, Tryd.ntmps4
  go_wp2_with fail
  refine (KF.out _).mono ?_
  rintro e w1 ⟨rfl, hb⟩
  have B1 := Lib.hid ((B0.out.up hb).alloc (.cells #[.int .i64 0, .int .i64 0] 23))
  have K1 := Lib.hid ((K0.out.below hb).below ((Below.refl _ _).alloc (Nat.le_refl _) (.cells #[.int .i64 0, .int .i64 0] 23)))
  have Y1 := Duo.new w1 (.int .i64 0) (.int .i64 0) 23 (w1.heap.size) (by simp)
  clear hb B0 K0 
  obtain ⟨yf0, yf1, yf2, yf3, yf4⟩ := id Y1
  go_wp2_with fail
  clear yf0 yf1 yf2 yf3 yf4
  refine (KR.out _).mono ?_
  rintro e w2 ⟨rfl, hb⟩
  have B2 := Lib.hid ((B1.out.up hb).alloc (.cells #[.int .i64 0, .int .i64 0] 23))
  have K2 := Lib.hid ((K1.out.below hb).below ((Below.refl _ _).alloc (Nat.le_refl _) (.cells #[.int .i64 0, .int .i64 0] 23)))
  have Y2 := (Y1.up hb).alloc (.cells #[.int .i64 0, .int .i64 0] 23)
  have Z2 := Duo.new w2 (.int .i64 0) (.int .i64 0) 23 (w2.heap.size) (by simp)
  clear hb B1 K1 Y1
  obtain ⟨yf0, yf1, yf2, yf3, yf4⟩ := id Y2
  obtain ⟨zf0, zf1, zf2, zf3, zf4⟩ := id Z2
  go_wp2_with fail
  clear yf0 yf1 yf2 yf3 yf4 zf0 zf1 zf2 zf3 zf4
  refine (known_ok _ K2.out).mono ?_
  rintro e w3 ⟨rfl, hb⟩
  have B3 := Lib.hid (B2.out.up hb)
  have K3 := Lib.hid (K2.out.below hb)
  have Y3 := Y2.up hb
  have Z3 := Z2.up hb
  clear hb B2 K2 Y2 Z2
  obtain ⟨yf0, yf1, yf2, yf3, yf4⟩ := id Y3
  obtain ⟨zf0, zf1, zf2, zf3, zf4⟩ := id Z3
  go_wp2_with fail
  go_ret
  exact ⟨rfl, B3.out.out⟩
theorem law_DurationFinds (T : Int) (w : World) (hk : KT w) : Calls Tryd.prog 4 #[.int .i64 T] w fun e w' => e = .returned (.bool true) ∧ Below w.heap.size w w' := by
  by_cases h : ∃ x : Fin 40, lenV (lgV x) (dtV x) = T
  · obtain ⟨x, hx⟩ := h
    exact finds_y T x w hx hk
  · exact finds_n T w (fun x hx => h ⟨x, hx⟩) hk
end Go.Proofs.YtoobfcekgfgipaaDoor
