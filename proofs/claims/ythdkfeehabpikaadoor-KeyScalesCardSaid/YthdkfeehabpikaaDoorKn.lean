/- Keys: the reference's Number; the numbers of scales. -/
import Derived.Test.YthdkfeehabpikaaDoorKm
import Derived.Deep.RegionWith
import Derived.Deep.DeepCutAuto
namespace Go.Proofs.YthdkfeehabpikaaDoor
open Go.RowKit
set_option linter.unusedVariables false
set_option linter.unusedSimpArgs false

def stI (s : Int) : Int := if s = 0 then 0 else if s = 1 then 2 else if s = 2 then 4 else if s = 3 then 5 else if s = 4 then 7 else if s = 5 then 9 else 11
theorem stI_bd (s : Int) : 0 ≤ stI s ∧ stI s ≤ 11 := by unfold stI; repeat' split <;> omega
def nmI (s a o : Int) : Int := stI s + a + 12 * (o + 1)
theorem stTab (w : World) (n : Nat) (hn : n = w.heap.size) {s : Int} (s0 : 0 ≤ s) (s1 : s ≤ 6) : (w.alloc (.cells #[.int .i64 0, .int .i64 2, .int .i64 4, .int .i64 5, .int .i64 7, .int .i64 9, .int .i64 11] 3)).cell? ⟨n, s.toNat, none⟩ = some (.int .i64 (stI s)) := by
  subst hn
  rcases (show s = 0 ∨ s = 1 ∨ s = 2 ∨ s = 3 ∨ s = 4 ∨ s = 5 ∨ s = 6 by omega) with rfl | rfl | rfl | rfl | rfl | rfl | rfl <;> simp [stI]
set_option maxRecDepth 100000 in
set_option maxHeartbeats 4000000 in
theorem refNumK (s a o : Int) (w : World) (s0 : 0 ≤ s) (s1 : s ≤ 6) (a0 : -2 ≤ a) (a1 : a ≤ 2) (o0 : -1 ≤ o) (o1 : o ≤ 10) :
    Calls Tryd.prog 11 #[.agg #[.int .i64 s, .int .i64 a, .int .i64 o]] w fun e w' => e = .returned (.int .i64 (nmI s a o)) ∧ Below w.heap.size w w' := by
  have X0 := Tri.new w (.int .i64 s) (.int .i64 a) (.int .i64 o) 32 w.heap.size rfl
  have B1 := Lib.hid (((Bel.refl w).alloc (.cells #[.int .i64 s, .int .i64 a, .int .i64 o] 32)).alloc (.cells #[.int .i64 0, .int .i64 2, .int .i64 4, .int .i64 5, .int .i64 7, .int .i64 9, .int .i64 11] 3))
  have X1 := X0.alloc (.cells #[.int .i64 0, .int .i64 2, .int .i64 4, .int .i64 5, .int .i64 7, .int .i64 9, .int .i64 11] 3)
  have Z := stTab (w.alloc (.cells #[.int .i64 s, .int .i64 a, .int .i64 o] 32)) (w.heap.size + 1) (by simp) s0 s1
  have sb := stI_bd s
  have HV := Lib.hid (show stI s + a + 12 * (o + 1) = nmI s a o from rfl)
  obtain ⟨sb0, sb1⟩ := sb
  generalize stI s = N at *
  have i1 : IntKind.i64.wrap (N + a) = N + a := (IntWalk.i64_left _).trans (IntWalk.wrap64_in _ ⟨by omega, by omega⟩)
  have i2 : IntKind.i64.wrap (o + 1) = o + 1 := (IntWalk.i64_left _).trans (IntWalk.wrap64_in _ ⟨by omega, by omega⟩)
  have i3 : IntKind.i64.wrap (12 * (o + 1)) = 12 * (o + 1) := (IntWalk.i64_left _).trans (IntWalk.wrap64_in _ ⟨by omega, by omega⟩)
  have i4 : IntKind.i64.wrap (N + a + 12 * (o + 1)) = N + a + 12 * (o + 1) := (IntWalk.i64_left _).trans (IntWalk.wrap64_in _ ⟨by omega, by omega⟩)
  have i5 : s < 7 := by omega
  obtain ⟨x0, x1, x2, x3, x4, x5, x6⟩ := id X0
  obtain ⟨y0, y1, y2, y3, y4, y5, y6⟩ := id X1
  go_enter Tryd.func11, Tryd.ntmps11
  go_wp2_with fail
  go_cut [2] (fun v wx => v = .int .i64 (N + a + 12 * (o + 1)) ∧ Bel w wx)
  case first =>
    go_region_with (fail)
    all_goals (go_wp2_with fail; go_meet)
    all_goals exact ⟨rfl, Below.drew B1.out.out⟩
  case rest =>
    obtain ⟨rfl, hB⟩ := hcut
    go_wp2_with fail
    go_ret
    exact ⟨by rw [← HV.out]; first | done | rfl, hB⟩
def nK (f : Int) (k : Nat) : Int := nmI ((shI ((f + 1) % 7) + (k : Int)) % 7) (alI f ((shI ((f + 1) % 7) + (k : Int)) % 7)) (4 + (shI ((f + 1) % 7) + (k : Int)) / 7)
theorem nK_all : ∀ (f : Fin 15) (k : Fin 7), (nK ((f.val : Int) - 7) k.val - nK 0 k.val - 7 * ((f.val : Int) - 7)) % 12 = 0 := by decide +kernel
theorem nK_mod {f : Int} {k : Nat} (h : Sg f) (hk : k < 7) : (nK f k - nK 0 k - 7 * f) % 12 = 0 := by
  have h0 := h.f0
  have h1 := h.f1
  have h2 : (nK ((((f + 7).toNat : Nat) : Int) - 7) k - nK 0 k - 7 * ((((f + 7).toNat : Nat) : Int) - 7)) % 12 = 0 := nK_all ⟨(f + 7).toNat, by omega⟩ ⟨k, hk⟩
  have e : (((f + 7).toNat : Nat) : Int) - 7 = f := by omega
  rw [e] at h2
  exact h2
theorem red_mod (x : Int) : ∃ j, redK x = x + 12 * j := by
  unfold redK
  split
  · exact ⟨-((x + 4) / 12), by omega⟩
  · split
    · exact ⟨(4 - x) / 12, by omega⟩
    · exact ⟨0, by omega⟩
theorem nK_moved {f t m : Int} {k : Nat} (h : Sg f) (hk : k < 7) : (nK (redK (f + 7 * m + -12 * t)) k - nK f k - m) % 12 = 0 := by
  obtain ⟨j, hj⟩ := red_mod (f + 7 * m + -12 * t)
  have b := red_bd (f + 7 * m + -12 * t)
  have h1 := nK_mod (f := redK (f + 7 * m + -12 * t)) (k := k) ⟨b.1, b.2⟩ hk
  have h2 := nK_mod h hk
  omega
theorem nK_bd (f : Int) (k : Nat) (hk : k < 7) : 0 ≤ nK f k ∧ nK f k ≤ 100 := by
  unfold nK nmI
  have h1 := stI_bd ((shI ((f + 1) % 7) + (k : Int)) % 7)
  have h2 := alI_bd f ((shI ((f + 1) % 7) + (k : Int)) % 7)
  have h3 := shI_bd ((f + 1) % 7)
  omega
end Go.Proofs.YthdkfeehabpikaaDoor
