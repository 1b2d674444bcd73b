/- Tuplets: length. -/
import Derived.Test.YtidggmfgbcmklaaTf
namespace Go.Proofs.Ytidggmfgbcmklaa
open Go.RowKit
set_option linter.unusedVariables false
set_option linter.unusedSimpArgs false

/-- the error and the length of an event with a written length -/
def lenE (f : Nat → Tp) (n : Nat) (x t : Int) : Int := if t < 0 ∨ 7741440 < t then 2 else if t % ((rat f x n).2 : Int) = 0 then 0 else 16
def lenV (f : Nat → Tp) (n : Nat) (x t : Int) : Int := if lenE f n x t = 0 then t / ((rat f x n).2 : Int) * ((rat f x n).1 : Int) else 0
theorem lenV_le {f : Nat → Tp} {n : Nat} (h : Gd f n) {x t : Int} (t0 : 0 ≤ t) (t1 : t ≤ 7741440) : 0 ≤ t / ((rat f x n).2 : Int) * ((rat f x n).1 : Int) ∧ t / ((rat f x n).2 : Int) * ((rat f x n).1 : Int) ≤ 253671505920 := by
  obtain ⟨p1, p2, p3, p4⟩ := rat_bd h x (Nat.le_refl n)
  have h8 : 0 ≤ t / ((rat f x n).2 : Int) := Int.ediv_nonneg t0 (by omega)
  have h7 : t / ((rat f x n).2 : Int) ≤ t := Int.ediv_le_self _ t0
  refine ⟨Int.mul_nonneg h8 (by omega), ?_⟩
  have : t / ((rat f x n).2 : Int) * ((rat f x n).1 : Int) ≤ 7741440 * 32768 := Int.mul_le_mul (by omega) (by omega) (by omega) (by omega)
  omega
theorem lenV_bd {f : Nat → Tp} {n : Nat} (h : Gd f n) {x t : Int} : 0 ≤ lenV f n x t ∧ lenV f n x t ≤ 253671505920 := by
  unfold lenV
  by_cases h0 : lenE f n x t = 0
  · rw [if_pos h0]
    by_cases hr : t < 0 ∨ 7741440 < t
    · unfold lenE at h0
      rw [if_pos hr] at h0
      cases h0
    · exact lenV_le h (by omega) (by omega)
  · rw [if_neg h0]
    omega
set_option maxRecDepth 100000 in
set_option maxHeartbeats 2000000 in
theorem length_lo (f : Nat → Tp) (n cap : Nat) (ad : Option Addr) (x t : Int) (w : World) (t0 : t < 0) :
    Calls Try.prog 45 #[.slice ad n cap, .int .i64 x, .int .i64 t] w fun e w' => e = .returned (.tuple #[.int .i64 (lenV f n x t), .int .i64 (lenE f n x t)]) ∧ Below w.heap.size w w' := by
  have g0 : decide (t < 0) = true := decide_eq_true t0
  have e1 : lenE f n x t = 2 := if_pos (.inl t0)
  have e2 : lenV f n x t = 0 := by unfold lenV; rw [e1]; rfl
  rw [e1, e2]
  clear e1 e2
  have B0 := Lib.hid (Bel.refl w)
  go_enter Try.func45, Try.ntmps45
  go_wp2_with fail
  go_ret2
  exact ⟨rfl, B0.out.out⟩
set_option maxRecDepth 100000 in
set_option maxHeartbeats 2000000 in
theorem length_hi (f : Nat → Tp) (n cap : Nat) (ad : Option Addr) (x t : Int) (w : World) (t0 : 0 ≤ t) (t1 : 7741440 < t) :
    Calls Try.prog 45 #[.slice ad n cap, .int .i64 x, .int .i64 t] w fun e w' => e = .returned (.tuple #[.int .i64 (lenV f n x t), .int .i64 (lenE f n x t)]) ∧ Below w.heap.size w w' := by
  have g0 : decide (t < 0) = false := decide_eq_false (by omega)
  have g1 : decide (7741440 < t) = true := decide_eq_true t1
  have e1 : lenE f n x t = 2 := if_pos (.inr t1)
  have e2 : lenV f n x t = 0 := by unfold lenV; rw [e1]; rfl
  rw [e1, e2]
  clear e1 e2
  have B0 := Lib.hid (Bel.refl w)
  go_enter Try.func45, Try.ntmps45
  go_wp2_with fail
  go_ret2
  exact ⟨rfl, B0.out.out⟩
set_option maxRecDepth 100000 in
set_option maxHeartbeats 2000000 in
theorem length_n (f : Nat → Tp) (n cap : Nat) (ad : Option Addr) (x t : Int) (w : World) (hn : n ≤ 1048576) (hg : Gd f n) (h : TsAt w ad n f) (t0 : 0 ≤ t) (t1 : t ≤ 7741440) (hm : ¬ t % ((rat f x n).2 : Int) = 0) :
    Calls Try.prog 45 #[.slice ad n cap, .int .i64 x, .int .i64 t] w fun e w' => e = .returned (.tuple #[.int .i64 (lenV f n x t), .int .i64 (lenE f n x t)]) ∧ Below w.heap.size w w' := by
  have HT := Lib.hid h
  have HG := Lib.hid hg
  have g0 : decide (t < 0) = false := decide_eq_false (by omega)
  have g1 : decide (7741440 < t) = false := decide_eq_false (by omega)
  have e1 : lenE f n x t = 16 := by unfold lenE; rw [if_neg (by omega), if_neg hm]
  have e2 : lenV f n x t = 0 := by unfold lenV; rw [e1]; rfl
  rw [e1, e2]
  clear e1 e2 h hg
  have HU := Lib.hid (fun u => under_ok f n cap ad x u hn HG.out)
  obtain ⟨p1, p2, p3, p4⟩ := rat_bd HG.out x (Nat.le_refl n)
  have hv := lenV_le HG.out (x := x) t0 t1
  generalize rat f x n = P at *
  obtain ⟨p, q⟩ := P
  simp only at *
  have B0 := Lib.hid (Bel.refl w)
  go_enter Try.func45, Try.ntmps45
  go_wp2_with fail
  refine (HU.out _ HT.out).mono ?_
  rintro e w1 ⟨rfl, hb⟩
  have B1 := Lib.hid (B0.out.up hb)
  clear hb B0  
  go_wp2_with fail
  refine (of_n p q t _ p3 (by omega) (by omega) t0 t1 hm).mono ?_
  rintro e w2 ⟨rfl, hb⟩
  have B2 := Lib.hid (B1.out.up hb)
  clear hb B1  
  go_wp2_with fail
  go_ret2
  exact ⟨rfl, B2.out.out⟩
set_option maxRecDepth 100000 in
set_option maxHeartbeats 2000000 in
theorem length_y (f : Nat → Tp) (n cap : Nat) (ad : Option Addr) (x t : Int) (w : World) (hn : n ≤ 1048576) (hg : Gd f n) (h : TsAt w ad n f) (t0 : 0 ≤ t) (t1 : t ≤ 7741440) (hm : t % ((rat f x n).2 : Int) = 0) :
    Calls Try.prog 45 #[.slice ad n cap, .int .i64 x, .int .i64 t] w fun e w' => e = .returned (.tuple #[.int .i64 (lenV f n x t), .int .i64 (lenE f n x t)]) ∧ Below w.heap.size w w' := by
  have HT := Lib.hid h
  have HG := Lib.hid hg
  have g0 : decide (t < 0) = false := decide_eq_false (by omega)
  have g1 : decide (7741440 < t) = false := decide_eq_false (by omega)
  have e1 : lenE f n x t = 0 := by unfold lenE; rw [if_neg (by omega), if_pos hm]
  have e2 : lenV f n x t = t / ((rat f x n).2 : Int) * ((rat f x n).1 : Int) := by unfold lenV; rw [e1]; rfl
  rw [e1, e2]
  clear e1 e2 h hg
  have HU := Lib.hid (fun u => under_ok f n cap ad x u hn HG.out)
  obtain ⟨p1, p2, p3, p4⟩ := rat_bd HG.out x (Nat.le_refl n)
  have hv := lenV_le HG.out (x := x) t0 t1
  generalize rat f x n = P at *
  obtain ⟨p, q⟩ := P
  simp only at *
  have B0 := Lib.hid (Bel.refl w)
  go_enter Try.func45, Try.ntmps45
  go_wp2_with fail
  refine (HU.out _ HT.out).mono ?_
  rintro e w1 ⟨rfl, hb⟩
  have B1 := Lib.hid (B0.out.up hb)
  clear hb B0  
  go_wp2_with fail
  refine (of_y p q t _ p3 (by omega) (by omega) t0 t1 hm (by omega)).mono ?_
  rintro e w2 ⟨rfl, hb⟩
  have B2 := Lib.hid (B1.out.up hb)
  clear hb B1  
  go_wp2_with fail
  go_ret2
  exact ⟨rfl, B2.out.out⟩
theorem length_ok (f : Nat → Tp) (n cap : Nat) (ad : Option Addr) (x t : Int) (w : World) (hn : n ≤ 1048576) (hg : Gd f n) (h : TsAt w ad n f) : Calls Try.prog 45 #[.slice ad n cap, .int .i64 x, .int .i64 t] w fun e w' => e = .returned (.tuple #[.int .i64 (lenV f n x t), .int .i64 (lenE f n x t)]) ∧ Below w.heap.size w w' := by
  by_cases t0 : t < 0
  · exact length_lo f n cap ad x t w t0
  · by_cases t1 : 7741440 < t
    · exact length_hi f n cap ad x t w (by omega) t1
    · by_cases hm : t % ((rat f x n).2 : Int) = 0
      · exact length_y f n cap ad x t w hn hg h (by omega) (by omega) hm
      · exact length_n f n cap ad x t w hn hg h (by omega) (by omega) hm
end Go.Proofs.Ytidggmfgbcmklaa
