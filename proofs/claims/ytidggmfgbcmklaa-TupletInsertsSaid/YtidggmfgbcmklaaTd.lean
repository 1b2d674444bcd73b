/- Tuplets: compare. -/
import Derived.Test.YtidggmfgbcmklaaTc
namespace Go.Proofs.Ytidggmfgbcmklaa
open Go.RowKit
set_option linter.unusedVariables false
set_option linter.unusedSimpArgs false

def cmpI (x y : Int) : Int := if x < y then -1 else if y < x then 1 else 0
def orF2 (x y : Int) : Int := if x ≠ 0 then x else y
theorem cmpI_bd (x y : Int) : -1 ≤ cmpI x y ∧ cmpI x y ≤ 1 := by unfold cmpI; split <;> (try split) <;> omega
set_option maxRecDepth 100000 in
set_option maxHeartbeats 2000000 in
theorem compare_int (x y : Int) (w : World) :
    Calls Try.prog 54 #[.int .i64 x, .int .i64 y] w fun e w' => e = .returned (.int .i64 (cmpI x y)) ∧ Below w.heap.size w w' := by
  by_cases h1 : x < y
  · rw [show cmpI x y = -1 from by simp [cmpI, h1]]
    go_enter Try.func54, Try.ntmps54
    go_wp2
    go_ret
    exact ⟨rfl, Below.refl _ _⟩
  · by_cases h2 : y < x
    · rw [show cmpI x y = 1 from by simp [cmpI, h1, h2]]
      go_enter Try.func54, Try.ntmps54
      go_wp2
      go_ret
      exact ⟨rfl, Below.refl _ _⟩
    · rw [show cmpI x y = 0 from by simp [cmpI, h1, h2]]
      go_enter Try.func54, Try.ntmps54
      go_wp2
      go_ret
      exact ⟨rfl, Below.refl _ _⟩
theorem orF2_at {v : Nat → Int} {k : Nat} (hk : k < 2) (h : ∀ i, i < k → v i = 0) (hv : v k ≠ 0) : orF2 (v 0) (v 1) = v k := by
  unfold orF2
  match k, hk with
  | 0, _ => rw [if_pos hv]
  | 1, _ => rw [if_neg (by simpa using h 0 (by omega))]
theorem orF2_none {v : Nat → Int} (h : ∀ i, i < 2 → v i = 0) : orF2 (v 0) (v 1) = 0 := by
  unfold orF2
  rw [if_neg (by simpa using h 0 (by omega)), h 1 (by omega)]
set_option maxHeartbeats 400000 in
theorem or2_any (v : Nat → Int) (b : Nat) (w : World) (hc : ∀ i, i < 2 → w.cell? ⟨b, i, none⟩ = some (.int .i64 (v i))) :
    Calls Try.prog 53 #[.slice (some ⟨b, 0, none⟩) 2 2] w fun e w' => e = .returned (.int .i64 (orF2 (v 0) (v 1))) ∧ w = w' := by
  have HC := Lib.hid hc
  clear hc
  have h3 : 2 ≤ 9223372036854775807 := by omega
  go_enter Try.func53, Try.ntmps53
  go_wp2
  go_loop [8] (fun i => ∃ k : Nat, k ≤ 2 ∧ i = .int .i64 k ∧ Hid (∀ i, i < k → v i = 0)) (fun i => 2 - (intOf i).toNat)
  case atStart => exact ⟨0, by omega, rfl, fun i h => absurd h (by omega)⟩
  case round =>
    obtain ⟨k, hk, rfl, hz⟩ := hrel
    by_cases hlt : k < 2
    · have hcell := HC.out k hlt
      by_cases h0 : v k = 0
      · have hz' : Hid (∀ i, i < k + 1 → v i = 0) := by
          intro i hi
          by_cases e : i = k
          · rw [e]; exact h0
          · exact hz i (by omega)
        rw [h0] at hcell
        clear h0 hz
        go_wp2
        go_round
        case rel => exact ⟨k + 1, by omega, by go_num, hz'⟩
        case measure => simp [intOf]; omega
      · have hne : (v k == 0) = false := by simpa using h0
        have HF := Lib.hid (orF2_at hlt hz h0)
        clear hz h0
        go_wp2
        go_ret
        exact ⟨ret_int HF.out.symm, rfl⟩
    · obtain rfl : k = 2 := by omega
      have HF := Lib.hid (orF2_none hz)
      clear hz
      go_wp2
      go_ret
      exact ⟨ret_int HF.out.symm, rfl⟩
theorem or2_call (x y : Int) (b : Nat) (w : World) (c0 : w.cell? ⟨b, 0, none⟩ = some (.int .i64 x)) (c1 : w.cell? ⟨b, 1, none⟩ = some (.int .i64 y)) :
    Calls Try.prog 53 #[.slice (some ⟨b, 0, none⟩) 2 2] w fun e w' => e = .returned (.int .i64 (orF2 x y)) ∧ w = w' :=
  or2_any (fun i => if i = 0 then x else y) b w fun i hi => by
    match i, hi with
    | 0, _ => simpa using c0
    | 1, _ => simpa using c1
def cmpT (a b : Tp) : Int := orF2 (cmpI a.F b.F) (cmpI b.C a.C)
theorem cmpT_pos {a b : Tp} : 0 < cmpT a b ↔ b.after a := by
  unfold cmpT orF2 cmpI Tp.after
  repeat' split
  all_goals omega
set_option maxRecDepth 100000 in
set_option maxHeartbeats 2000000 in
theorem compare_ok (a b : Tp) (w : World)  :
    Calls Try.prog 41 #[.agg #[.int .i64 a.F, .int .i64 a.C, .int .i64 a.A, .int .i64 a.N], .agg #[.int .i64 b.F, .int .i64 b.C, .int .i64 b.A, .int .i64 b.N]] w fun e w' => e = .returned (.int .i64 (cmpT a b)) ∧ Below w.heap.size w w' := by
  have B0 := Lib.hid (((Bel.refl w).alloc (.cells #[.int .i64 a.F, .int .i64 a.C, .int .i64 a.A, .int .i64 a.N] 52)).alloc (.cells #[.int .i64 b.F, .int .i64 b.C, .int .i64 b.A, .int .i64 b.N] 52))
  have X0 := (Quad.new w (.int .i64 a.F) (.int .i64 a.C) (.int .i64 a.A) (.int .i64 a.N) 52 (w.heap.size) (by simp)).alloc (.cells #[.int .i64 b.F, .int .i64 b.C, .int .i64 b.A, .int .i64 b.N] 52)
  have Y0 := Quad.new (w.alloc (.cells #[.int .i64 a.F, .int .i64 a.C, .int .i64 a.A, .int .i64 a.N] 52)) (.int .i64 b.F) (.int .i64 b.C) (.int .i64 b.A) (.int .i64 b.N) 52 (w.heap.size + 1) (by simp)
  go_enter Try.func41, Try.ntmps41
  obtain ⟨xf0, xf1, xf2, xf3, xf4, xf5, xf6, xf7, xf8⟩ := id X0
  obtain ⟨yf0, yf1, yf2, yf3, yf4, yf5, yf6, yf7, yf8⟩ := id Y0
  go_wp2_with fail
  clear xf0 xf1 xf2 xf3 xf4 xf5 xf6 xf7 xf8 yf0 yf1 yf2 yf3 yf4 yf5 yf6 yf7 yf8
  refine Qt.region 10 (by kernel_rfl) (by kernel_rfl) ?_
  intro T f F hne
  have RB := Lib.hid (fun g => B0.out.up (F.below g))
  have RX := fun g => X0.up (F.below g)
  have RX0 := fun g => (RX g).c0
  have RX1 := fun g => (RX g).c1
  have RX2 := fun g => (RX g).c2
  have RX3 := fun g => (RX g).c3
  have RY := fun g => Y0.up (F.below g)
  have RY0 := fun g => (RY g).c0
  have RY1 := fun g => (RY g).c1
  have RY2 := fun g => (RY g).c2
  have RY3 := fun g => (RY g).c3
  simp only [List.take_succ_cons, List.take_zero, List.drop_succ_cons, List.drop_zero]
  repeat (go_big_quiet_step (first | (go_at_call 54; with_reducible exact F.call (compare_int _ _ _))))
  refine wpQuiet_nil ?_
  rintro _ ⟨g, rfl⟩
  have B1 := Lib.hid (RB.out g)
  have X1 := RX g
  have Y1 := RY g
  clear F RB hne RX RX0 RX1 RX2 RX3 RY RY0 RY1 RY2 RY3 B0 X0 Y0
  generalize f g = w1 at *
  clear f
  obtain ⟨xf0, xf1, xf2, xf3, xf4, xf5, xf6, xf7, xf8⟩ := id X1
  obtain ⟨yf0, yf1, yf2, yf3, yf4, yf5, yf6, yf7, yf8⟩ := id Y1
  go_wp2_with fail
  refine (or2_call (cmpI a.F b.F) (cmpI b.C a.C) _ _ (by simp [go_sem]) (by simp [go_sem])).mono ?_
  rintro e w5 ⟨rfl, rfl⟩
  go_wp2_with fail
  go_ret
  exact ⟨rfl, (B1.out.alloc _).out⟩
end Go.Proofs.Ytidggmfgbcmklaa
