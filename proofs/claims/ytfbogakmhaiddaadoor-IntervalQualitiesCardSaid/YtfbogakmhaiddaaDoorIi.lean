/- Intervals: the qualities. -/
import Derived.Test.YtfbogakmhaiddaaDoorIh
import Derived.Laws.EntriesVeiled
namespace Go.Proofs.YtfbogakmhaiddaaDoor
open Go.RowKit
set_option linter.unusedVariables false
set_option linter.unusedSimpArgs false

def perI (d : Int) : Int × Int := if 0 < d then (2, d) else if d < 0 then (-2, -d) else (0, 0)
def majI (d : Int) : Int × Int := if 0 < d then (2, d) else if d < -1 then (-2, -1 - d) else if d < 0 then (-1, 0) else (1, 0)
def qualI (t m : Int) : Int × Int := if clsI (t % 7) = 0 then perI (m - usualI t) else majI (m - usualI t)
set_option maxHeartbeats 1000000 in
theorem perI_ok (d : Int) (w : World) (d0 : -1000 ≤ d) (d1 : d ≤ 1000) (hi : IT w) :
    Calls Tryd.prog 65 #[.int .i64 d] w fun e w' => e = .returned (.tuple #[.int .i64 (perI d).1, .int .i64 (perI d).2]) ∧ Below w.heap.size w w' := by
  obtain ⟨l0, l1⟩ := And.intro hi.l0 hi.l1
  have B0 := Lib.hid (Bel.refl w)
  clear hi
  rcases (show 0 < d ∨ d < 0 ∨ d = 0 by omega) with h | h | h
  · have e : perI d = (2, d) := by unfold perI; (repeat' split) <;> first | rfl | omega
    rw [e]
    go_enter Tryd.func65, Tryd.ntmps65
    go_wp2_with fail
    try (go_quiet (fail); go_wp2_with fail)
    first
      | (go_ret2; exact ⟨rfl, by first | exact B0.out.out | exact below_drewN B0.out.out _⟩)
      | exact bodyPost_ret (v := .tuple #[.int .i64 2, .int .i64 (d)]) (by first | (simp [results, Tryd.results65, go_sem]; done) | (simp [results, Tryd.results65, go_sem]; omega)) rfl ⟨rfl, by first | exact B0.out.out | exact below_drewN B0.out.out _⟩
  · have e : perI d = (-2, -d) := by unfold perI; (repeat' split) <;> first | rfl | omega
    rw [e]
    go_enter Tryd.func65, Tryd.ntmps65
    go_wp2_with fail
    try (go_quiet (fail); go_wp2_with fail)
    first
      | (go_ret2; exact ⟨rfl, by first | exact B0.out.out | exact below_drewN B0.out.out _⟩)
      | exact bodyPost_ret (v := .tuple #[.int .i64 -2, .int .i64 (-d)]) (by first | (simp [results, Tryd.results65, go_sem]; done) | (simp [results, Tryd.results65, go_sem]; omega)) rfl ⟨rfl, by first | exact B0.out.out | exact below_drewN B0.out.out _⟩
  · have e : perI d = (0, 0) := by unfold perI; (repeat' split) <;> first | rfl | omega
    rw [e]
    go_enter Tryd.func65, Tryd.ntmps65
    go_wp2_with fail
    try (go_quiet (fail); go_wp2_with fail)
    first
      | (go_ret2; exact ⟨rfl, by first | exact B0.out.out | exact below_drewN B0.out.out _⟩)
      | exact bodyPost_ret (v := .tuple #[.int .i64 0, .int .i64 (0)]) (by first | (simp [results, Tryd.results65, go_sem]; done) | (simp [results, Tryd.results65, go_sem]; omega)) rfl ⟨rfl, by first | exact B0.out.out | exact below_drewN B0.out.out _⟩
set_option maxHeartbeats 1000000 in
theorem majI_ok (d : Int) (w : World) (d0 : -1000 ≤ d) (d1 : d ≤ 1000) (hi : IT w) :
    Calls Tryd.prog 66 #[.int .i64 d] w fun e w' => e = .returned (.tuple #[.int .i64 (majI d).1, .int .i64 (majI d).2]) ∧ Below w.heap.size w w' := by
  obtain ⟨l0, l1⟩ := And.intro hi.l0 hi.l1
  have B0 := Lib.hid (Bel.refl w)
  clear hi
  rcases (show 0 < d ∨ d < -1 ∨ d = -1 ∨ d = 0 by omega) with h | h | h | h
  · have e : majI d = (2, d) := by unfold majI; (repeat' split) <;> first | rfl | omega
    rw [e]
    go_enter Tryd.func66, Tryd.ntmps66
    go_wp2_with fail
    try (go_quiet (fail); go_wp2_with fail)
    first
      | (go_ret2; exact ⟨rfl, by first | exact B0.out.out | exact below_drewN B0.out.out _⟩)
      | exact bodyPost_ret (v := .tuple #[.int .i64 2, .int .i64 (d)]) (by first | (simp [results, Tryd.results66, go_sem]; done) | (simp [results, Tryd.results66, go_sem]; omega)) rfl ⟨rfl, by first | exact B0.out.out | exact below_drewN B0.out.out _⟩
  · have e : majI d = (-2, -1 - d) := by unfold majI; (repeat' split) <;> first | rfl | omega
    rw [e]
    go_enter Tryd.func66, Tryd.ntmps66
    go_wp2_with fail
    try (go_quiet (fail); go_wp2_with fail)
    first
      | (go_ret2; exact ⟨rfl, by first | exact B0.out.out | exact below_drewN B0.out.out _⟩)
      | exact bodyPost_ret (v := .tuple #[.int .i64 -2, .int .i64 (-1 - d)]) (by first | (simp [results, Tryd.results66, go_sem]; done) | (simp [results, Tryd.results66, go_sem]; omega)) rfl ⟨rfl, by first | exact B0.out.out | exact below_drewN B0.out.out _⟩
  · have e : majI d = (-1, 0) := by unfold majI; (repeat' split) <;> first | rfl | omega
    rw [e]
    go_enter Tryd.func66, Tryd.ntmps66
    go_wp2_with fail
    try (go_quiet (fail); go_wp2_with fail)
    first
      | (go_ret2; exact ⟨rfl, by first | exact B0.out.out | exact below_drewN B0.out.out _⟩)
      | exact bodyPost_ret (v := .tuple #[.int .i64 -1, .int .i64 (0)]) (by first | (simp [results, Tryd.results66, go_sem]; done) | (simp [results, Tryd.results66, go_sem]; omega)) rfl ⟨rfl, by first | exact B0.out.out | exact below_drewN B0.out.out _⟩
  · have e : majI d = (1, 0) := by unfold majI; (repeat' split) <;> first | rfl | omega
    rw [e]
    go_enter Tryd.func66, Tryd.ntmps66
    go_wp2_with fail
    try (go_quiet (fail); go_wp2_with fail)
    first
      | (go_ret2; exact ⟨rfl, by first | exact B0.out.out | exact below_drewN B0.out.out _⟩)
      | exact bodyPost_ret (v := .tuple #[.int .i64 1, .int .i64 (0)]) (by first | (simp [results, Tryd.results66, go_sem]; done) | (simp [results, Tryd.results66, go_sem]; omega)) rfl ⟨rfl, by first | exact B0.out.out | exact below_drewN B0.out.out _⟩
set_option maxRecDepth 100000 in
set_option maxHeartbeats 2000000 in
theorem qualOf_p (t m : Int) (w : World) (t0 : 0 ≤ t) (t1 : t ≤ 77) (m0 : -140 ≤ m) (m1 : m ≤ 140) (hc : clsI (t % 7) = 0) (hi : IT w) :
    Calls Tryd.prog 53 #[.agg #[.int .i64 t, .int .i64 m]] w fun e w' => e = .returned (.tuple #[.int .i64 (perI (m - usualI t)).1, .int .i64 (perI (m - usualI t)).2]) ∧ Below w.heap.size w w' := by
  have B0 := Lib.hid (((Bel.refl w).alloc (.cells #[.int .i64 t, .int .i64 m] 23)).alloc (.cells #[.func (.func 65) #[] #[], .func (.func 66) #[] #[]] 89))
  have X0 := (Duo.new w (.int .i64 t) (.int .i64 m) 23 w.heap.size rfl).alloc (.cells #[.func (.func 65) #[] #[], .func (.func 66) #[] #[]] 89)
  have Y0 := Duo.new (w.alloc (.cells #[.int .i64 t, .int .i64 m] 23)) (.func (.func 65) #[] #[]) (.func (.func 66) #[] #[]) 89 (w.heap.size + 1) (by simp)
  have I0 := Lib.hid ((hi.below ((Below.refl _ _).alloc (Nat.le_refl _) (.cells #[.int .i64 t, .int .i64 m] 23))).below ((Below.refl _ _).alloc (Nat.le_refl _) (.cells #[.func (.func 65) #[] #[], .func (.func 66) #[] #[]] 89)))
  have b0 := step_bd (s := t % 7) (by omega) (by omega)
  have d0 : 0 ≤ t / 7 ∧ t / 7 ≤ 11 := by omega
  have hu : 0 ≤ usualI t ∧ usualI t ≤ 143 := by unfold usualI; omega
  have hC := fun (v : World) (hv : IT v) => hv.cls (r := t % 7) (by omega) (by omega)
  rw [hc] at hC
  have HC := Lib.hid hC
  clear hc hi hC b0 d0
  go_enter Tryd.func53, Tryd.ntmps53
  go_wp2_with fail
  refine Qt.regionAll (by kernel_rfl) (by kernel_rfl) ?_
  intro T f F hne
  have RB := Lib.hid (fun g => B0.out.up (F.below g))
  have RI := Lib.hid (fun g => I0.out.below (F.below g))
  have RX := fun g => X0.up (F.below g)
  have RY := fun g => Y0.up (F.below g)
  have a0 := fun g => (RX g).c0; have a1 := fun g => (RX g).c1
  have c0 := fun g => (RY g).c0; have c1 := fun g => (RY g).c1
  have cc := fun g => HC.out _ (RI.out g)
  obtain ⟨V, hV⟩ : ∃ V, usualI t = V := ⟨_, rfl⟩
  have HV := Lib.hid hV
  have KU := fun (v : World) (hv : IT v) => usual_ok t v t0 t1 hv
  simp only [hV] at KU
  rw [hV] at hu
  clear hV
  repeat (go_big_quiet_step (first | (go_at_call 67; exact F.call (KU _ (RI.out _))) | (go_at_call 65; exact F.call (perI_ok (m - V) _ (by omega) (by omega) (RI.out _)))))
  refine wpQuiet_nil ?_
  rintro _ ⟨g, rfl⟩
  have B1 := Lib.hid (RB.out g)
  go_wp2_with fail
  go_ret2
  exact ⟨by rw [HV.out]; first | done | rfl | (simp; done), B1.out.out⟩
set_option maxRecDepth 100000 in
set_option maxHeartbeats 2000000 in
theorem qualOf_m (t m : Int) (w : World) (t0 : 0 ≤ t) (t1 : t ≤ 77) (m0 : -140 ≤ m) (m1 : m ≤ 140) (hc : clsI (t % 7) = 1) (hi : IT w) :
    Calls Tryd.prog 53 #[.agg #[.int .i64 t, .int .i64 m]] w fun e w' => e = .returned (.tuple #[.int .i64 (majI (m - usualI t)).1, .int .i64 (majI (m - usualI t)).2]) ∧ Below w.heap.size w w' := by
  have B0 := Lib.hid (((Bel.refl w).alloc (.cells #[.int .i64 t, .int .i64 m] 23)).alloc (.cells #[.func (.func 65) #[] #[], .func (.func 66) #[] #[]] 89))
  have X0 := (Duo.new w (.int .i64 t) (.int .i64 m) 23 w.heap.size rfl).alloc (.cells #[.func (.func 65) #[] #[], .func (.func 66) #[] #[]] 89)
  have Y0 := Duo.new (w.alloc (.cells #[.int .i64 t, .int .i64 m] 23)) (.func (.func 65) #[] #[]) (.func (.func 66) #[] #[]) 89 (w.heap.size + 1) (by simp)
  have I0 := Lib.hid ((hi.below ((Below.refl _ _).alloc (Nat.le_refl _) (.cells #[.int .i64 t, .int .i64 m] 23))).below ((Below.refl _ _).alloc (Nat.le_refl _) (.cells #[.func (.func 65) #[] #[], .func (.func 66) #[] #[]] 89)))
  have b0 := step_bd (s := t % 7) (by omega) (by omega)
  have d0 : 0 ≤ t / 7 ∧ t / 7 ≤ 11 := by omega
  have hu : 0 ≤ usualI t ∧ usualI t ≤ 143 := by unfold usualI; omega
  have hC := fun (v : World) (hv : IT v) => hv.cls (r := t % 7) (by omega) (by omega)
  rw [hc] at hC
  have HC := Lib.hid hC
  clear hc hi hC b0 d0
  go_enter Tryd.func53, Tryd.ntmps53
  go_wp2_with fail
  refine Qt.regionAll (by kernel_rfl) (by kernel_rfl) ?_
  intro T f F hne
  have RB := Lib.hid (fun g => B0.out.up (F.below g))
  have RI := Lib.hid (fun g => I0.out.below (F.below g))
  have RX := fun g => X0.up (F.below g)
  have RY := fun g => Y0.up (F.below g)
  have a0 := fun g => (RX g).c0; have a1 := fun g => (RX g).c1
  have c0 := fun g => (RY g).c0; have c1 := fun g => (RY g).c1
  have cc := fun g => HC.out _ (RI.out g)
  obtain ⟨V, hV⟩ : ∃ V, usualI t = V := ⟨_, rfl⟩
  have HV := Lib.hid hV
  have KU := fun (v : World) (hv : IT v) => usual_ok t v t0 t1 hv
  simp only [hV] at KU
  rw [hV] at hu
  clear hV
  repeat (go_big_quiet_step (first | (go_at_call 67; exact F.call (KU _ (RI.out _))) | (go_at_call 66; exact F.call (majI_ok (m - V) _ (by omega) (by omega) (RI.out _)))))
  refine wpQuiet_nil ?_
  rintro _ ⟨g, rfl⟩
  have B1 := Lib.hid (RB.out g)
  go_wp2_with fail
  go_ret2
  exact ⟨by rw [HV.out]; first | done | rfl | (simp; done), B1.out.out⟩
theorem cls_cases (r : Int) : clsI r = 0 ∨ clsI r = 1 := by unfold clsI; split <;> simp
theorem qualOf_ok (t m : Int) (w : World) (t0 : 0 ≤ t) (t1 : t ≤ 77) (m0 : -140 ≤ m) (m1 : m ≤ 140) (hi : IT w) :
    Calls Tryd.prog 53 #[.agg #[.int .i64 t, .int .i64 m]] w fun e w' => e = .returned (.tuple #[.int .i64 (qualI t m).1, .int .i64 (qualI t m).2]) ∧ Below w.heap.size w w' := by
  unfold qualI
  rcases cls_cases (t % 7) with h | h
  · rw [if_pos h]; exact qualOf_p t m w t0 t1 m0 m1 h hi
  · rw [if_neg (by rw [h]; omega)]; exact qualOf_m t m w t0 t1 m0 m1 h hi
end Go.Proofs.YtfbogakmhaiddaaDoor
