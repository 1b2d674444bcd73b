/- Compare, the program's and the reference's. -/
import Derived.Test.YtppkficedakekabDoorQa
import Derived.Deep.RegionHeld3
import Derived.Deep.DeepCutAuto
import Derived.Deep.CutBlock
namespace Go.Proofs.YtppkficedakekabDoor
open Go.RowKit
set_option linter.unusedVariables false
set_option linter.unusedSimpArgs false

/-- by what a pitch is ordered -/
def rkN (s a o : Int) : Int := if Pit s a o then numP s a o else -1
def rkD (s a o : Int) : Int := if Pit s a o then diaP s o else 0
def cmpI (x y : Int) : Int := if x < y then -1 else if y < x then 1 else 0
def orF2 (x y : Int) : Int := if x ≠ 0 then x else y
def cmpR (s a o t b u : Int) : Int := orF2 (cmpI (rkN s a o) (rkN t b u)) (cmpI (rkD s a o) (rkD t b u))
theorem cmpI_bd (x y : Int) : -1 ≤ cmpI x y ∧ cmpI x y ≤ 1 := by unfold cmpI; split <;> (try split) <;> omega
theorem rk_yes {s a o : Int} (h : Pit s a o) : rkN s a o = numP s a o ∧ rkD s a o = diaP s o := by simp [rkN, rkD, h]
theorem rk_no {s a o : Int} (h : ¬ Pit s a o) : rkN s a o = -1 ∧ rkD s a o = 0 := by simp [rkN, rkD, h]
theorem rk_bd (s a o : Int) : -1 ≤ rkN s a o ∧ rkN s a o ≤ 127 ∧ -7 ≤ rkD s a o ∧ rkD s a o ≤ 69 := by
  by_cases h : Pit s a o
  · obtain ⟨e, f⟩ := rk_yes h
    obtain ⟨s0, s1, a0, a1, o0, o1, n0, n1⟩ := h
    rw [e, f]; unfold diaP; omega
  · obtain ⟨e, f⟩ := rk_no h
    rw [e, f]; omega
set_option maxRecDepth 100000 in
set_option maxHeartbeats 2000000 in
theorem compare_int (x y : Int) (w : World) :
    Calls Tryd.prog 37 #[.int .i64 x, .int .i64 y] w fun e w' => e = .returned (.int .i64 (cmpI x y)) ∧ Below w.heap.size w w' := by
  by_cases h1 : x < y
  · rw [show cmpI x y = -1 from by simp [cmpI, h1]]
    go_enter Tryd.func37, Tryd.ntmps37
    go_wp2
    go_ret
    exact ⟨rfl, Below.refl _ _⟩
  · by_cases h2 : y < x
    · rw [show cmpI x y = 1 from by simp [cmpI, h1, h2]]
      go_enter Tryd.func37, Tryd.ntmps37
      go_wp2
      go_ret
      exact ⟨rfl, Below.refl _ _⟩
    · rw [show cmpI x y = 0 from by simp [cmpI, h1, h2]]
      go_enter Tryd.func37, Tryd.ntmps37
      go_wp2
      go_ret
      exact ⟨rfl, Below.refl _ _⟩
theorem orF2_at {v : Nat → Int} {k : Nat} (hk : k < 2) (h : ∀ i, i < k → v i = 0) (hv : v k ≠ 0) : orF2 (v 0) (v 1) = v k := by
  unfold orF2
  match k, hk with
  | 0, _ => rw [if_pos hv]
  | 1, _ => rw [if_neg (by simpa using h 0 (by omega))]
theorem orF2_none {v : Nat → Int} (h : ∀ i, i < 2 → v i = 0) : orF2 (v 0) (v 1) = 0 := by
  unfold orF2
  rw [if_neg (by simpa using h 0 (by omega)), h 1 (by omega)]
set_option maxHeartbeats 400000 in
theorem or2_any (v : Nat → Int) (b : Nat) (w : World) (hc : ∀ i, i < 2 → w.cell? ⟨b, i, none⟩ = some (.int .i64 (v i))) :
    Calls Tryd.prog 36 #[.slice (some ⟨b, 0, none⟩) 2 2] w fun e w' => e = .returned (.int .i64 (orF2 (v 0) (v 1))) ∧ w = w' := by
  have HC := Lib.hid hc
  clear hc
  have h3 : 2 ≤ 9223372036854775807 := by omega
  go_enter Tryd.func36, Tryd.ntmps36
  go_wp2
  go_loop [8] (fun i => ∃ k : Nat, k ≤ 2 ∧ i = .int .i64 k ∧ Hid (∀ i, i < k → v i = 0)) (fun i => 2 - (intOf i).toNat)
  case atStart => exact ⟨0, by omega, rfl, fun i h => absurd h (by omega)⟩
  case round =>
    obtain ⟨k, hk, rfl, hz⟩ := hrel
    by_cases hlt : k < 2
    · have hcell := HC.out k hlt
      by_cases h0 : v k = 0
      · have hz' : Hid (∀ i, i < k + 1 → v i = 0) := by
          intro i hi
          by_cases e : i = k
          · rw [e]; exact h0
          · exact hz i (by omega)
        rw [h0] at hcell
        clear h0 hz
        go_wp2
        go_round
        case rel => exact ⟨k + 1, by omega, by go_num, hz'⟩
        case measure => simp [intOf]; omega
      · have hne : (v k == 0) = false := by simpa using h0
        have HF := Lib.hid (orF2_at hlt hz h0)
        clear hz h0
        go_wp2
        go_ret
        exact ⟨ret_int HF.out.symm, rfl⟩
    · obtain rfl : k = 2 := by omega
      have HF := Lib.hid (orF2_none hz)
      clear hz
      go_wp2
      go_ret
      exact ⟨ret_int HF.out.symm, rfl⟩
theorem or2_call (x y : Int) (b : Nat) (w : World) (c0 : w.cell? ⟨b, 0, none⟩ = some (.int .i64 x)) (c1 : w.cell? ⟨b, 1, none⟩ = some (.int .i64 y)) :
    Calls Tryd.prog 36 #[.slice (some ⟨b, 0, none⟩) 2 2] w fun e w' => e = .returned (.int .i64 (orF2 x y)) ∧ w = w' :=
  or2_any (fun i => if i = 0 then x else y) b w fun i hi => by
    match i, hi with
    | 0, _ => simpa using c0
    | 1, _ => simpa using c1
set_option maxRecDepth 100000 in
set_option maxHeartbeats 2000000 in
theorem rank_any (s a o : Int) (w : World) (ht : PT w) :
    Calls Tryd.prog 35 #[.agg #[.int .i64 s, .int .i64 a, .int .i64 o]] w fun e w' => e = .returned (.tuple #[.int .i64 (rkN s a o), .int .i64 (rkD s a o)]) ∧ Below w.heap.size w w' := by
  by_cases hp : Pit s a o
  · rw [(rk_yes hp).1, (rk_yes hp).2]
    have HP := Lib.hid hp
    have B0 := Lib.hid ((Bel.refl w).alloc (.cells #[.int .i64 s, .int .i64 a, .int .i64 o] 29))
    have T0 := Lib.hid (ht.alloc (.cells #[.int .i64 s, .int .i64 a, .int .i64 o] 29))
    have X0 := Tri.new w (.int .i64 s) (.int .i64 a) (.int .i64 o) 29 w.heap.size rfl
    clear hp ht
    go_enter Tryd.func35, Tryd.ntmps35
    go_wp2_with fail
    refine (check_ok s a o _ HP.out T0.out).mono ?_
    rintro e w1 ⟨rfl, hb⟩
    have B1 := Lib.hid (B0.out.up hb)
    have T1 := Lib.hid (T0.out.below hb)
    have X1 := X0.up hb
    clear B0 T0 hb X0
    obtain ⟨x0, x1, x2, x3, x4, x5, x6⟩ := id X1
    go_wp2_with fail
    refine Qt.regionAll (by kernel_rfl) (by kernel_rfl) ?_
    intro T f F hne
    have HB := Lib.hid (fun t => B1.out.up (F.below t))
    have HT := Lib.hid (fun t => T1.out.below (F.below t))
    have Y := fun t => X1.up (F.below t)
    have a1 := fun t => (Y t).c0; have a2 := fun t => (Y t).c1; have a3 := fun t => (Y t).c2
    clear x0 x1 x2 x3 x4 x5 x6
    repeat (go_big_quiet_step (first | (go_at_call 31; exact F.call (number_any s a o _ HP.out.s0 HP.out.s1 HP.out.a0 HP.out.a1 HP.out.o0 HP.out.o1 (HT.out _))) | (go_at_call 32; exact F.call (diatonic_any s a o _ HP.out.s0 HP.out.s1 HP.out.o0 HP.out.o1))))
    refine wpQuiet_nil ?_
    rintro _ ⟨t, rfl⟩
    go_wp2_with fail
    go_ret2
    exact ⟨rfl, (HB.out t).out⟩
  · rw [(rk_no hp).1, (rk_no hp).2]
    have HP := Lib.hid hp
    have B0 := Lib.hid ((Bel.refl w).alloc (.cells #[.int .i64 s, .int .i64 a, .int .i64 o] 29))
    have T0 := Lib.hid (ht.alloc (.cells #[.int .i64 s, .int .i64 a, .int .i64 o] 29))
    have X0 := Tri.new w (.int .i64 s) (.int .i64 a) (.int .i64 o) 29 w.heap.size rfl
    clear hp ht
    go_enter Tryd.func35, Tryd.ntmps35
    go_wp2_with fail
    refine (check_bad s a o _ HP.out T0.out).mono ?_
    rintro e w1 ⟨rfl, hb⟩
    have B1 := Lib.hid (B0.out.up hb)
    clear hb
    go_wp2_with fail
    go_ret2
    exact ⟨rfl, B1.out.out⟩
set_option maxRecDepth 100000 in
set_option maxHeartbeats 2000000 in
theorem compare_ok (s a o t b u : Int) (w : World) (ht : PT w) :
    Calls Tryd.prog 18 #[.agg #[.int .i64 s, .int .i64 a, .int .i64 o], .agg #[.int .i64 t, .int .i64 b, .int .i64 u]] w fun e w' => e = .returned (.int .i64 (cmpR s a o t b u)) ∧ Below w.heap.size w w' := by
  have B0 := Lib.hid (((Bel.refl w).alloc (.cells #[.int .i64 s, .int .i64 a, .int .i64 o] 29)).alloc (.cells #[.int .i64 t, .int .i64 b, .int .i64 u] 29))
  have X0 := ((Tri.new w (.int .i64 s) (.int .i64 a) (.int .i64 o) 29 w.heap.size rfl).alloc (.cells #[.int .i64 t, .int .i64 b, .int .i64 u] 29))
  have Y0 := Tri.new (w.alloc (.cells #[.int .i64 s, .int .i64 a, .int .i64 o] 29)) (.int .i64 t) (.int .i64 b) (.int .i64 u) 29 (w.heap.size + 1) (by simp)
  have T0 := Lib.hid ((ht.alloc (.cells #[.int .i64 s, .int .i64 a, .int .i64 o] 29)).alloc (.cells #[.int .i64 t, .int .i64 b, .int .i64 u] 29))
  have r1 := rk_bd s a o
  have r2 := rk_bd t b u
  go_enter Tryd.func18, Tryd.ntmps18
  go_wp2_with fail
  refine (rank_any s a o _ T0.out).mono ?_
  rintro e w1 ⟨rfl, hb⟩
  have B1 := Lib.hid (B0.out.up hb)
  have T1 := Lib.hid (T0.out.below hb)
  have Y1 := Y0.up hb
  clear hb X0 Y0 B0 T0
  obtain ⟨y0, y1, y2, y3, y4, y5, y6⟩ := id Y1
  go_wp2_with fail
  refine (rank_any t b u _ T1.out).mono ?_
  rintro e w2 ⟨rfl, hb⟩
  have B2 := Lib.hid (B1.out.up hb)
  clear hb Y1 B1 T1 y0 y1 y2 y3 y4 y5 y6
  generalize hN1 : rkN s a o = N1
  generalize hD1 : rkD s a o = D1
  generalize hN2 : rkN t b u = N2
  generalize hD2 : rkD t b u = D2
  rw [hN1, hD1] at r1
  rw [hN2, hD2] at r2
  replace hN1 := Lib.hid hN1
  replace hD1 := Lib.hid hD1
  replace hN2 := Lib.hid hN2
  replace hD2 := Lib.hid hD2
  go_wp2_with fail
  refine (compare_int _ _ _).mono ?_
  rintro e w3 ⟨rfl, hb⟩
  have B3 := Lib.hid (B2.out.up hb)
  clear hb B2
  go_wp2_with fail
  refine (compare_int _ _ _).mono ?_
  rintro e w4 ⟨rfl, hb⟩
  have B4 := Lib.hid (B3.out.up hb)
  clear hb B3
  generalize hE1 : cmpI N1 N2 = E1
  generalize hE2 : cmpI D1 D2 = E2
  replace hE1 := Lib.hid hE1
  replace hE2 := Lib.hid hE2
  go_wp2_with fail
  refine (or2_call E1 E2 _ _ (by simp [go_sem]) (by simp [go_sem])).mono ?_
  rintro e w5 ⟨rfl, rfl⟩
  go_wp2_with fail
  go_ret
  exact ⟨ret_int (by unfold cmpR; rw [hN1.out, hN2.out, hD1.out, hD2.out, hE1.out, hE2.out]), ((B4.out).alloc _).out⟩
structure Duo (w : World) (b : Nat) (x y : Value) : Prop where
  lt : b < w.heap.size
  c0 : w.cell? ⟨b, 0, none⟩ = some x
  c1 : w.cell? ⟨b, 1, none⟩ = some y
  f0 : w.frozen? ⟨b, 0, none⟩ = false
  f1 : w.frozen? ⟨b, 1, none⟩ = false
theorem Duo.up {w w' : World} {b : Nat} {x y : Value} (h : Duo w b x y) (hb : Below w.heap.size w w') : Duo w' b x y :=
  ⟨Nat.lt_of_lt_of_le h.lt hb.size, (hb.cell (p := ⟨b, 0, none⟩) h.lt).trans h.c0, (hb.cell (p := ⟨b, 1, none⟩) h.lt).trans h.c1, (hb.frozen (p := ⟨b, 0, none⟩) h.lt).trans h.f0, (hb.frozen (p := ⟨b, 1, none⟩) h.lt).trans h.f1⟩
theorem Duo.alloc {w : World} {b : Nat} {x y : Value} (h : Duo w b x y) (o : Obj) : Duo (w.alloc o) b x y := h.up ((Below.refl _ _).alloc (Nat.le_refl _) o)
theorem Duo.drewN {w : World} {b : Nat} {x y : Value} (h : Duo w b x y) (n : Nat) : Duo (w.drewN n) b x y := ⟨h.lt, h.c0, h.c1, h.f0, h.f1⟩
theorem Duo.new (w : World) (x y : Value) (t : TypeId) (n : Nat) (hn : n = w.heap.size) : Duo (w.alloc (.cells #[x, y] t)) n x y := by
  subst hn
  exact ⟨by simp, by simp, by simp, by simp [go_sem], by simp [go_sem]⟩
theorem Duo.store {w : World} {b : Nat} {x y u v : Value} (h : Duo w b x y) : Duo ((w.setCell ⟨b, 0, none⟩ u).setCell ⟨b, 1, none⟩ v) b u v := by
  obtain ⟨h0, h1, h2, h3, h4⟩ := h
  exact ⟨by simpa [go_sem] using h0, by simp [go_sem, *], by simp [go_sem, *], by simp [go_sem, *], by simp [go_sem, *]⟩
set_option maxRecDepth 100000 in
set_option maxHeartbeats 2000000 in
theorem refDia_any (s a o : Int) (w : World) (s0 : 0 ≤ s) (s1 : s ≤ 6) (o0 : -1 ≤ o) (o1 : o ≤ 9) :
    Calls Tryd.prog 33 #[.agg #[.int .i64 s, .int .i64 a, .int .i64 o]] w fun e w' => e = .returned (.int .i64 (diaP s o)) ∧ Below w.heap.size w w' := by
  unfold diaP
  go_enter Tryd.func33, Tryd.ntmps33
  go_wp2
  try go_quiet (fail)
  go_wp2
  go_ret
  first
    | exact ⟨rfl, (Below.refl _ _).alloc (Nat.le_refl _) _⟩
    | exact ⟨rfl, below_drewN ((Below.refl _ _).alloc (Nat.le_refl _) _) _⟩
set_option maxRecDepth 100000 in
set_option maxHeartbeats 2000000 in
theorem key_any (s a o : Int) (w : World) :
    Calls Tryd.prog 38 #[.agg #[.int .i64 s, .int .i64 a, .int .i64 o]] w fun e w' => e = .returned (.agg #[.int .i64 (rkN s a o), .int .i64 (rkD s a o)]) ∧ Below w.heap.size w w' := by
  have D0 := Duo.new (w.alloc (.cells #[.int .i64 s, .int .i64 a, .int .i64 o] 29)) (.int .i64 0) (.int .i64 0) 62 (w.heap.size + 1) (by simp)
  have X0 := (Tri.new w (.int .i64 s) (.int .i64 a) (.int .i64 o) 29 w.heap.size rfl).alloc (.cells #[.int .i64 0, .int .i64 0] 62)
  have B0 := Lib.hid (((Bel.refl w).alloc (.cells #[.int .i64 s, .int .i64 a, .int .i64 o] 29)).alloc (.cells #[.int .i64 0, .int .i64 0] 62))
  by_cases hp : Pit s a o
  · rw [(rk_yes hp).1, (rk_yes hp).2]
    have HP := Lib.hid hp
    clear hp
    go_enter Tryd.func38, Tryd.ntmps38
    go_wp2_with fail
    refine (exists_yes s a o _ HP.out).mono ?_
    rintro e w1 ⟨rfl, hb⟩
    have B1 := Lib.hid (B0.out.up hb)
    have X1 := X0.up hb
    have D1 := D0.up hb
    clear B0 hb X0 D0
    obtain ⟨x0, x1, x2, x3, x4, x5, x6⟩ := id X1
    go_wp2_with fail
    clear x0 x1 x2 x3 x4 x5 x6
    refine Qt.region 5 (by kernel_rfl) (by kernel_rfl) ?_
    intro T f F hne
    have HB := Lib.hid (fun t => B1.out.up (F.below t))
    have HD := Lib.hid (fun t => D1.up (F.below t))
    have Y := fun t => X1.up (F.below t)
    have a1 := fun t => (Y t).c0; have a2 := fun t => (Y t).c1; have a3 := fun t => (Y t).c2
    simp only [List.take_succ_cons, List.take_zero, List.drop_succ_cons, List.drop_zero]
    repeat (go_big_quiet_step (first | (go_at_call 29; exact F.call (refNumber_any s a o _ HP.out.s0 HP.out.s1 HP.out.a0 HP.out.a1 HP.out.o0 HP.out.o1)) | (go_at_call 33; exact F.call (refDia_any s a o _ HP.out.s0 HP.out.s1 HP.out.o0 HP.out.o1))))
    refine wpQuiet_nil ?_
    rintro _ ⟨t, rfl⟩
    have H4 := Lib.hid (HB.out t)
    have D4 := HD.out t
    clear F HB hne Y a1 a2 a3 HD
    generalize f t = w4 at *
    clear f
    obtain ⟨d0, d1, d2, d3, d4⟩ := id D4
    go_wp2_with fail
    have Tf := D4.store (u := .int .i64 (numP s a o)) (v := .int .i64 (diaP s o))
    exact bodyPost_ret (v := .agg #[.int .i64 (numP s a o), .int .i64 (diaP s o)]) (by simp [results, Tryd.results38, go_sem, Tf.c0, Tf.c1]) rfl ⟨rfl, ((H4.out.set (Nat.le_succ _) _ _).set (Nat.le_succ _) _ _).out⟩
  · rw [(rk_no hp).1, (rk_no hp).2]
    have HP := Lib.hid hp
    clear hp
    go_enter Tryd.func38, Tryd.ntmps38
    go_wp2_with fail
    refine (exists_no s a o _ HP.out).mono ?_
    rintro e w1 ⟨rfl, hb⟩
    have B1 := Lib.hid (B0.out.up hb)
    have D1 := D0.up hb
    clear B0 hb X0 D0
    obtain ⟨d0, d1, d2, d3, d4⟩ := id D1
    go_wp2_with fail
    have Tf := D1.store (u := .int .i64 (-1)) (v := .int .i64 0)
    exact bodyPost_ret (v := .agg #[.int .i64 (-1), .int .i64 0]) (by simp [results, Tryd.results38, go_sem, Tf.c0, Tf.c1]) rfl ⟨rfl, ((B1.out.set (Nat.le_succ _) _ _).set (Nat.le_succ _) _ _).out⟩
end Go.Proofs.YtppkficedakekabDoor
