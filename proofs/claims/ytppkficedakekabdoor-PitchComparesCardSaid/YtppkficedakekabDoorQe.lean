/- Compare of the reference. -/
import Derived.Test.YtppkficedakekabDoorQd
import Derived.Deep.RegionHeld3
import Derived.Deep.DeepCutAuto
import Derived.Deep.CutBlock
namespace Go.Proofs.YtppkficedakekabDoor
open Go.RowKit
set_option linter.unusedVariables false
set_option linter.unusedSimpArgs false

theorem bring {p q : Prop} (h : p) (k : p → q) : q := k h
theorem Duo.drew {w : World} {b : Nat} {x y : Value} (h : Duo w b x y) : Duo w.drew b x y := h.drewN 1
theorem Tri.drew {w : World} {b : Nat} {x y z : Value} (h : Tri w b x y z) : Tri w.drew b x y z := h.drewN 1
theorem Bel.drew {w W : World} (h : Bel w W) : Bel w W.drew := h.drewN 1
theorem Duo.set {w : World} {b : Nat} {x y : Value} (h : Duo w b x y) {c : Nat} (hn : c ≠ b) (o : Nat) (v : Value) : Duo (w.setCell ⟨c, o, none⟩ v) b x y := by
  obtain ⟨h0, h1, h2, h3, h4⟩ := h
  exact ⟨by simpa [go_sem] using h0, by simp [go_sem, *], by simp [go_sem, *], by simp [go_sem, *], by simp [go_sem, *]⟩
theorem Tri.set {w : World} {b : Nat} {x y z : Value} (h : Tri w b x y z) {c : Nat} (hn : c ≠ b) (o : Nat) (v : Value) : Tri (w.setCell ⟨c, o, none⟩ v) b x y z := by
  obtain ⟨h0, h1, h2, h3, h4, h5, h6⟩ := h
  exact ⟨by simpa [go_sem] using h0, by simp [go_sem, *], by simp [go_sem, *], by simp [go_sem, *], by simp [go_sem, *], by simp [go_sem, *], by simp [go_sem, *]⟩
theorem Tri.both {w : World} {b c : Nat} {x y z x' y' z' : Value} (h : Tri w b x y z) (k : Tri w c x' y' z') : w.cell? ⟨b, 0, none⟩ = some x ∧ w.cell? ⟨b, 1, none⟩ = some y ∧ w.cell? ⟨b, 2, none⟩ = some z ∧ w.cell? ⟨c, 0, none⟩ = some x' ∧ w.cell? ⟨c, 1, none⟩ = some y' ∧ w.cell? ⟨c, 2, none⟩ = some z' := ⟨h.c0, h.c1, h.c2, k.c0, k.c1, k.c2⟩
set_option maxRecDepth 100000 in
set_option maxHeartbeats 12000000 in
theorem refCompare_cut (s a o t b u : Int) (w : World) (R : Int) (hR : cmpR s a o t b u = R) :
    Calls Tryd.prog 19 #[.agg #[.int .i64 s, .int .i64 a, .int .i64 o], .agg #[.int .i64 t, .int .i64 b, .int .i64 u]] w fun e w' => e = .returned (.int .i64 R) ∧ Below w.heap.size w w' := by
  have B0 := Lib.hid (((Bel.refl w).alloc (.cells #[.int .i64 s, .int .i64 a, .int .i64 o] 29)).alloc (.cells #[.int .i64 t, .int .i64 b, .int .i64 u] 29))
  have X0 := ((Tri.new w (.int .i64 s) (.int .i64 a) (.int .i64 o) 29 w.heap.size rfl).alloc (.cells #[.int .i64 t, .int .i64 b, .int .i64 u] 29))
  have Y0 := Tri.new (w.alloc (.cells #[.int .i64 s, .int .i64 a, .int .i64 o] 29)) (.int .i64 t) (.int .i64 b) (.int .i64 u) 29 (w.heap.size + 1) (by simp)
  have r1 := rk_bd s a o
  have r2 := rk_bd t b u
  have HR := Lib.hid hR
  clear hR
  generalize hN1 : rkN s a o = N1 at *
  generalize hD1 : rkD s a o = D1 at *
  generalize hN2 : rkN t b u = N2 at *
  generalize hD2 : rkD t b u = D2 at *
  have HN1 := Lib.hid hN1; have HN2 := Lib.hid hN2; have HD1 := Lib.hid hD1; have HD2 := Lib.hid hD2
  clear hN1 hN2 hD1 hD2
  have K1 := fun v => key_any s a o v
  have K2 := fun v => key_any t b u v
  rw [HN1.out, HD1.out] at K1
  rw [HN2.out, HD2.out] at K2
  replace K1 := Lib.hid K1
  replace K2 := Lib.hid K2
  obtain ⟨x0, x1, x2, x3, x4, x5, x6⟩ := id X0
  obtain ⟨y0, y1, y2, y3, y4, y5, y6⟩ := id Y0
  go_enter Tryd.func19, Tryd.ntmps19
  go_wp2_with fail
  go_cut [5, 6] (fun va vb wx => ∃ k l : Nat, va = .pointer (some ⟨k, 0, none⟩) ∧ vb = .pointer (some ⟨l, 0, none⟩) ∧ Bel w wx ∧ Duo wx k (.int .i64 N1) (.int .i64 D1) ∧ Duo wx l (.int .i64 N2) (.int .i64 D2))
  case first =>
    go_region_held3 (fun w' => w'.cell? ⟨w.heap.size, 0, none⟩ = some (.int .i64 s) ∧ w'.cell? ⟨w.heap.size, 1, none⟩ = some (.int .i64 a) ∧ w'.cell? ⟨w.heap.size, 2, none⟩ = some (.int .i64 o) ∧ w'.cell? ⟨w.heap.size + 1, 0, none⟩ = some (.int .i64 t) ∧ w'.cell? ⟨w.heap.size + 1, 1, none⟩ = some (.int .i64 b) ∧ w'.cell? ⟨w.heap.size + 1, 2, none⟩ = some (.int .i64 u))
      (first | (refine Tri.both ?_ ?_ <;> (repeat (first | exact X0 | exact Y0 | apply Tri.alloc | apply Tri.drew | (refine Tri.set ?_ (by omega) _ _) | refine Tri.up ?_ (by assumption)))))
      (first | (go_at_call 38; with_reducible refine (K1.out _).mono ?_; rintro e W1 ⟨rfl, hb1⟩; have s1 : w.heap.size + 1 + 1 ≤ W1.heap.size := Nat.le_trans (by (try simp [go_sem]); try omega) hb1.size; (with_reducible first | (refine bring (p := Duo W1 (w.heap.size + 1 + 1) (.int .i64 0) (.int .i64 0)) (Duo.up ?_ hb1) ?_; (focus ((repeat (first  | (refine Duo.new _ _ _ _ _ ?_; (simp [go_sem]; done)) | exact Duo.new _ _ _ _ _ rfl | apply Duo.alloc | apply Duo.drew)); done)); intro TA; refine bring (p := Duo W1 (w.heap.size + 1 + 1 + 1) (.int .i64 0) (.int .i64 0)) (Duo.up ?_ hb1) ?_; (focus ((repeat (first  | (refine Duo.new _ _ _ _ _ ?_; (simp [go_sem]; done)) | exact Duo.new _ _ _ _ _ rfl | apply Duo.alloc | apply Duo.drew)); done)); intro TB; obtain ⟨z0, z1, z2, z3, z4⟩ := id TA; obtain ⟨q0, q1, q2, q3, q4⟩ := id TB) | (refine bring (p := Duo W1 (w.heap.size + 1 + 1) (.int .i64 0) (.int .i64 0)) (Duo.up ?_ hb1) ?_; (focus ((repeat (first  | (refine Duo.new _ _ _ _ _ ?_; (simp [go_sem]; done)) | exact Duo.new _ _ _ _ _ rfl | apply Duo.alloc | apply Duo.drew)); done)); intro TA; obtain ⟨z0, z1, z2, z3, z4⟩ := id TA) | skip)) | (go_at_call 38; with_reducible refine (K2.out _).mono ?_; rintro e W2 ⟨rfl, hb2⟩; have s2 : W1.heap.size ≤ W2.heap.size := Nat.le_trans (by (try simp [go_sem]); try omega) hb2.size; (with_reducible first | (refine bring (p := Duo W2 (w.heap.size + 1 + 1) (.int .i64 0) (.int .i64 0)) (Duo.up ?_ hb2) ?_; (focus ((repeat (first | exact TA | (refine Duo.new _ _ _ _ _ ?_; (simp [go_sem]; done)) | exact Duo.new _ _ _ _ _ rfl | apply Duo.alloc | apply Duo.drew)); done)); intro TA; refine bring (p := Duo W2 (w.heap.size + 1 + 1 + 1) (.int .i64 0) (.int .i64 0)) (Duo.up ?_ hb2) ?_; (focus ((repeat (first | exact TB | (refine Duo.new _ _ _ _ _ ?_; (simp [go_sem]; done)) | exact Duo.new _ _ _ _ _ rfl | apply Duo.alloc | apply Duo.drew)); done)); intro TB; obtain ⟨z0, z1, z2, z3, z4⟩ := id TA; obtain ⟨q0, q1, q2, q3, q4⟩ := id TB) | (refine bring (p := Duo W2 (w.heap.size + 1 + 1) (.int .i64 0) (.int .i64 0)) (Duo.up ?_ hb2) ?_; (focus ((repeat (first | exact TA | (refine Duo.new _ _ _ _ _ ?_; (simp [go_sem]; done)) | exact Duo.new _ _ _ _ _ rfl | apply Duo.alloc | apply Duo.drew)); done)); intro TA; refine bring (p := Duo W2 (W1.heap.size) (.int .i64 0) (.int .i64 0)) (Duo.up ?_ hb2) ?_; (focus ((repeat (first  | (refine Duo.new _ _ _ _ _ ?_; (simp [go_sem]; done)) | exact Duo.new _ _ _ _ _ rfl | apply Duo.alloc | apply Duo.drew)); done)); intro TB; obtain ⟨z0, z1, z2, z3, z4⟩ := id TA; obtain ⟨q0, q1, q2, q3, q4⟩ := id TB) | (refine bring (p := Duo W2 (W1.heap.size) (.int .i64 0) (.int .i64 0)) (Duo.up ?_ hb2) ?_; (focus ((repeat (first  | (refine Duo.new _ _ _ _ _ ?_; (simp [go_sem]; done)) | exact Duo.new _ _ _ _ _ rfl | apply Duo.alloc | apply Duo.drew)); done)); intro TA; refine bring (p := Duo W2 (W1.heap.size + 1) (.int .i64 0) (.int .i64 0)) (Duo.up ?_ hb2) ?_; (focus ((repeat (first  | (refine Duo.new _ _ _ _ _ ?_; (simp [go_sem]; done)) | exact Duo.new _ _ _ _ _ rfl | apply Duo.alloc | apply Duo.drew)); done)); intro TB; obtain ⟨z0, z1, z2, z3, z4⟩ := id TA; obtain ⟨q0, q1, q2, q3, q4⟩ := id TB) | (refine bring (p := Duo W2 (w.heap.size + 1 + 1) (.int .i64 0) (.int .i64 0)) (Duo.up ?_ hb2) ?_; (focus ((repeat (first | exact TA | (refine Duo.new _ _ _ _ _ ?_; (simp [go_sem]; done)) | exact Duo.new _ _ _ _ _ rfl | apply Duo.alloc | apply Duo.drew)); done)); intro TA; obtain ⟨z0, z1, z2, z3, z4⟩ := id TA) | (refine bring (p := Duo W2 (W1.heap.size) (.int .i64 0) (.int .i64 0)) (Duo.up ?_ hb2) ?_; (focus ((repeat (first  | (refine Duo.new _ _ _ _ _ ?_; (simp [go_sem]; done)) | exact Duo.new _ _ _ _ _ rfl | apply Duo.alloc | apply Duo.drew)); done)); intro TA; obtain ⟨z0, z1, z2, z3, z4⟩ := id TA) | skip)))
    all_goals (go_wp2_with fail; go_meet)
    all_goals (refine ⟨_, _, rfl, rfl, ?_, ?_, ?_⟩)
    all_goals first
      | ((repeat (first | exact Bel.refl _ | exact B0.out | apply Bel.alloc | apply Bel.drew | (refine Bel.set ?_ (by omega) _ _) | (refine Bel.up ?_ (by assumption)))); done)
      | ((repeat (first | exact TA | exact TB | (refine Duo.store (x := .int .i64 0) (y := .int .i64 0) ?_) | (refine Duo.set ?_ (by omega) _ _) | (refine Duo.new _ _ _ _ _ ?_; (simp [go_sem]; done)) | exact Duo.new _ _ _ _ _ rfl | apply Duo.alloc | apply Duo.drew | (refine Duo.up ?_ (by assumption)))); done)
  case rest =>
    obtain ⟨k, l, rfl, rfl, hB, hk, hl⟩ := hcut
    clear X0 Y0 x0 x1 x2 x3 x4 x5 x6 y0 y1 y2 y3 y4 y5 y6 B0 K1 K2
    have HB := Lib.hid hB
    clear hB
    obtain ⟨k0, k1, k2, k3, k4⟩ := id hk
    obtain ⟨l0, l1, l2, l3, l4⟩ := id hl
    have hR : R = orF2 (cmpI N1 N2) (cmpI D1 D2) := by rw [← HR.out]; unfold cmpR; rw [HN1.out, HN2.out, HD1.out, HD2.out]
    go_wp2_with fail
    go_loopg [7] 2 (fun gm i wr => ∃ n : Nat, n ≤ 2 ∧ gm = 2 - n ∧ i = .int .i64 n ∧ (1 ≤ n → N1 = N2) ∧ (2 ≤ n → D1 = D2) ∧ Hid (Bel w wr ∧ Duo wr k (.int .i64 N1) (.int .i64 D1) ∧ Duo wr l (.int .i64 N2) (.int .i64 D2)))
    case atStart => exact ⟨0, by omega, by omega, rfl, fun h => absurd h (by omega), fun h => absurd h (by omega), Lib.hid ⟨HB.out, hk, hl⟩⟩
    case round =>
      obtain ⟨n, hn, rfl, rfl, e1, e2, HS⟩ := hrel
      clear hk hl k0 k1 k2 k3 k4 l0 l1 l2 l3 l4 HB
      obtain ⟨k0, k1, k2, k3, k4⟩ := id HS.out.2.1
      obtain ⟨l0, l1, l2, l3, l4⟩ := id HS.out.2.2
      rcases (show n = 0 ∨ n = 1 ∨ n = 2 by omega) with rfl | rfl | rfl
      · clear e1 e2
        rcases (show N1 < N2 ∨ N2 < N1 ∨ N1 = N2 by omega) with h | h | rfl
        · have e : R = -1 := by rw [hR]; simp [orF2, cmpI, h]
          subst e
          clear hR
          go_wp2_with fail
          go_quiet (fail)
          go_wp2_with fail
          go_ret
          first
            | exact ⟨rfl, HS.out.1.out⟩
            | exact ⟨rfl, (HS.out.1.drewN _).out⟩
            | exact ⟨rfl, ((HS.out.1.drewN _).drewN _).out⟩
        · have h' : ¬ N1 < N2 := by omega
          have e : R = 1 := by rw [hR]; simp [orF2, cmpI, h, h']
          subst e
          clear hR
          go_wp2_with fail
          go_quiet (fail)
          go_wp2_with fail
          go_quiet (fail)
          go_wp2_with fail
          go_ret
          first
            | exact ⟨rfl, HS.out.1.out⟩
            | exact ⟨rfl, (HS.out.1.drewN _).out⟩
            | exact ⟨rfl, ((HS.out.1.drewN _).drewN _).out⟩
        · go_wp2_with fail
          go_quiet (fail)
          go_wp2_with fail
          go_quiet (fail)
          go_wp2_with fail
          go_roundg (1)
          case measure => omega
          case rel => first
            | exact ⟨1, by omega, rfl, by go_num, by simp, fun h => absurd h (by omega), Lib.hid ⟨(HS.out.1.drewN _), (HS.out.2.1.drewN _), (HS.out.2.2.drewN _)⟩⟩
      · obtain rfl := e1 (by omega)
        clear e1 e2
        rcases (show D1 < D2 ∨ D2 < D1 ∨ D1 = D2 by omega) with h | h | rfl
        · have e : R = -1 := by rw [hR]; simp [orF2, cmpI, h]
          subst e
          clear hR
          go_wp2_with fail
          go_quiet (fail)
          go_wp2_with fail
          go_ret
          first
            | exact ⟨rfl, HS.out.1.out⟩
            | exact ⟨rfl, (HS.out.1.drewN _).out⟩
            | exact ⟨rfl, ((HS.out.1.drewN _).drewN _).out⟩
        · have h' : ¬ D1 < D2 := by omega
          have e : R = 1 := by rw [hR]; simp [orF2, cmpI, h, h']
          subst e
          clear hR
          go_wp2_with fail
          go_quiet (fail)
          go_wp2_with fail
          go_quiet (fail)
          go_wp2_with fail
          go_ret
          first
            | exact ⟨rfl, HS.out.1.out⟩
            | exact ⟨rfl, (HS.out.1.drewN _).out⟩
            | exact ⟨rfl, ((HS.out.1.drewN _).drewN _).out⟩
        · go_wp2_with fail
          go_quiet (fail)
          go_wp2_with fail
          go_quiet (fail)
          go_wp2_with fail
          go_roundg (0)
          case measure => omega
          case rel => first
            | exact ⟨2, by omega, rfl, by go_num, by simp, by simp, Lib.hid ⟨(HS.out.1.drewN _), (HS.out.2.1.drewN _), (HS.out.2.2.drewN _)⟩⟩
      · obtain rfl := e1 (by omega)
        obtain rfl := e2 (by omega)
        clear e1 e2
        have e : R = 0 := by rw [hR]; simp [orF2, cmpI]
        subst e
        clear hR
        go_wp2_with fail
        go_ret
        exact ⟨rfl, HS.out.1.out⟩
end Go.Proofs.YtppkficedakekabDoor
