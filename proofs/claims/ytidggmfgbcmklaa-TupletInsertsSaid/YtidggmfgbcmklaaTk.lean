/- Tuplets: Tree, a field out of range. -/
import Derived.Test.YtidggmfgbcmklaaTj
namespace Go.Proofs.Ytidggmfgbcmklaa
open Go.RowKit
set_option linter.unusedVariables false
set_option linter.unusedSimpArgs false

set_option maxRecDepth 100000 in
set_option maxHeartbeats 16000000 in
theorem tree_r (f : Nat → Tp) (n cap : Nat) (ad : Option Addr) (ev : Int) (w : World) (e0 : 0 ≤ ev) (e1 : ev ≤ 128) (hn : n ≤ 16) (j : Nat) (hj : j < n) (hg : good f ev j) (hq : ¬ (f j).inR ev) (h : TsAt w ad n f) :
    Calls Try.prog 30 #[.slice ad n cap, .int .i64 ev] w fun e w' => ∃ v, e = .returned (.tuple #[v, .int .i64 2]) ∧ Below w.heap.size w w' ∧ trV f n 2 w' v := by
  have g0 : decide (ev < 0) = false := decide_eq_false (by omega)
  have g1 : decide (128 < ev) = false := decide_eq_false (by omega)
  have g2 : decide (16 < n) = false := decide_eq_false (by omega)
  have g3 : decide (16 < (n : Int)) = false := decide_eq_false (by omega)
  have HT := Lib.hid h
  have HG := Lib.hid hg
  have hmk := make_int n (by omega)
  have hsu : ∀ (W : World) (o : Obj), (W.alloc o).heap.size = W.heap.size + 1 := fun W o => by simp
  clear h hg
  go_enter Try.func30, Try.ntmps30
  go_wp2_with fail
  refine (nesting_any ad n cap _).mono ?_
  rintro e w1 ⟨rfl, hw1⟩
  have B1 := Lib.hid (((Bel.refl w).alloc (.cells #[.slice ad n cap] 22)).alloc (.cells #[.slice none 0 0] 40))
  have L1 := (Uno.new w (.slice ad n cap) 22 w.heap.size rfl).alloc (.cells #[.slice none 0 0] 40)
  have hz1 : w1.heap.size = w.heap.size + 2 := by rw [hw1]; simp
  have B2 := Lib.hid (B1.out.alloc (.cells (madeCells #[.int .i64 0] n) 3))
  have L2 := L1.alloc (.cells (madeCells #[.int .i64 0] n) 3)
  have S2 := Lib.hid (St.new (w.alloc (.cells #[.slice ad n cap] 22)) 40 (.cells (madeCells #[.int .i64 0] n) 3) (w.heap.size + 1) (by simp))
  rw [← hw1] at B2 L2 S2
  have F2 := Lib.hid (fil_made w1 n 3 (w.heap.size + 2) hz1.symm)
  clear B1 L1 hw1 hsu
  go_wp2_with fail
  try rw [hz1]
  go_loopg [27] n (fun gm i wr => ∃ k : Nat, k ≤ j ∧ gm = n - k ∧ i = .int .i64 (k : Int) ∧ Hid (Bel w wr) ∧ Uno wr w.heap.size (.slice ad n cap) ∧ Hid (St wr (w.heap.size + 1) (w.heap.size + 3) (stk f k)) ∧ Hid (Fil wr (w.heap.size + 2) n (fun j => if j < k then outer f j else 0)))
  case atStart => exact ⟨0, by omega, by omega, rfl, B2, L2, S2, F2.out.eq (fun j hj => by simp)⟩
  case round =>
    clear B2 L2 S2 F2 hmk hz1 g0 g1 g2 g3
    obtain ⟨k, hk, rfl, rfl, HB, HL, HS, HF⟩ := hrel
    obtain ⟨W0, hW0, B0, L0, S0, G0⟩ : ∃ W0, W0 = _ ∧ Hid (Bel w W0) ∧ Uno W0 w.heap.size (.slice ad n cap) ∧ Hid (St W0 (w.heap.size + 1) (w.heap.size + 3) (stk f k)) ∧ Hid (Fil W0 (w.heap.size + 2) n (fun j => if j < k then outer f j else 0)) := ⟨_, rfl, HB, HL, HS, HF⟩
    subst hW0
    clear HB HL HS HF
    by_cases hlt : k < j
    · clear hq
      obtain ⟨hr0, ho0, hp0⟩ := HG.out.parts hlt
      rcases k with _ | k
      · have hgk := Lib.hid ((HG.out).le (m := 0) (by omega))
        have hF := Lib.hid (show 0 < 0 → (f (0 - 1)).F ≤ (f 0).F from fun h => absurd h (by omega))
        have hrd : decide ((f (0)).inR ev) = true := decide_eq_true hr0
        have hr := Lib.hid hr0
        clear hr0
        have hpd := Lib.hid (show decide (okP f (0)) = true from decide_eq_true hp0)
        clear hp0
        clear ho0
        obtain ⟨b, off, rfl, c0, c1, c2, c3⟩ := HT.out.up B0.out.out (0) (by omega)
        simp only [Nat.zero_mul, Nat.add_zero] at c0 c1 c2 c3
        have hkn : decide (((0 : Nat) : Int) < (n : Int)) = true := decide_eq_true (by omega)
        obtain ⟨lf0, lf1, lf2⟩ := id L0
        have B1 := Lib.hid (B0.out.alloc (.cells #[.int .i64 (f (0)).F, .int .i64 (f (0)).C, .int .i64 (f (0)).A, .int .i64 (f (0)).N] 52))
        have S1 := Lib.hid (S0.out.up ((Below.refl _ _).alloc (Nat.le_refl _) (.cells #[.int .i64 (f (0)).F, .int .i64 (f (0)).C, .int .i64 (f (0)).A, .int .i64 (f (0)).N] 52)))
        have G1 := Lib.hid (G0.out.up ((Below.refl _ _).alloc (Nat.le_refl _) (.cells #[.int .i64 (f (0)).F, .int .i64 (f (0)).C, .int .i64 (f (0)).A, .int .i64 (f (0)).N] 52)))
        have L1 := L0.alloc (.cells #[.int .i64 (f (0)).F, .int .i64 (f (0)).C, .int .i64 (f (0)).A, .int .i64 (f (0)).N] 52)
        obtain ⟨lk0, lk1, lk2⟩ := id L1
        have Y1 := Quad.new W0 (.int .i64 (f (0)).F) (.int .i64 (f (0)).C) (.int .i64 (f (0)).A) (.int .i64 (f (0)).N) 52 _ rfl
        clear B0 S0 G0 L0
        obtain ⟨yf0, yf1, yf2, yf3, yf4, yf5, yf6, yf7, yf8⟩ := id Y1
        go_wp2_with fail
        clear lf0 lf1 lf2 yf0 yf1 yf2 yf3 yf4 yf5 yf6 yf7 yf8 lk0 lk1 lk2
        refine (inRange_ok (f (0)) ev _ e0 e1).mono ?_
        rintro e w2 ⟨rfl, hb⟩
        rw [hrd]
        have B2 := Lib.hid (B1.out.up hb)
        have S2 := Lib.hid (S1.out.up hb)
        have G2 := Lib.hid (G1.out.up hb)
        have L2 := L1.up hb
        have Y2 := Y1.up hb
        clear hb B1 S1 G1 L1 Y1
        obtain ⟨lf0, lf1, lf2⟩ := id L2
        obtain ⟨yf0, yf1, yf2, yf3, yf4, yf5, yf6, yf7, yf8⟩ := id Y2
        go_wp2_with fail
        clear lf0 lf1 lf2 yf0 yf1 yf2 yf3 yf4 yf5 yf6 yf7 yf8
        refine Qt.regionAll (by kernel_rfl) (by kernel_rfl) ?_
        intro T f_ F hne
        have RB := Lib.hid (fun g => B2.out.up (F.below g))
        have RS := Lib.hid (fun g => S2.out.up (F.below g))
        have RG := Lib.hid (fun g => G2.out.up (F.below g))
        have RL := fun g => L2.up (F.below g)
        have RL0 := fun g => (RL g).c0
        have RY := fun g => Y2.up (F.below g)
        have RY0 := fun g => (RY g).c0
        have RY1 := fun g => (RY g).c1
        have RY2 := fun g => (RY g).c2
        have RY3 := fun g => (RY g).c3
        repeat (go_big_quiet_step (fail))
        refine wpQuiet_nil ?_
        rintro _ ⟨gT, rfl⟩
        have B3 := Lib.hid (RB.out gT)
        have S3 := Lib.hid (RS.out gT)
        have G3 := Lib.hid (RG.out gT)
        have L3 := RL gT
        have Y3 := RY gT
        clear F RB hne RS RG RL RL0 RY RY0 RY1 RY2 RY3 B2 S2 G2 L2 Y2
        generalize f_ gT = w3 at *
        clear f_
        obtain ⟨lf0, lf1, lf2⟩ := id L3
        obtain ⟨yf0, yf1, yf2, yf3, yf4, yf5, yf6, yf7, yf8⟩ := id Y3
        go_wp2_with fail
        refine (enter_ok f n cap (some ⟨b, off, none⟩) ev (0) w.heap.size (w.heap.size + 1) (w.heap.size + 3) w w3 (by omega) (by omega) hgk.out hr.out e1 hF.out HT.out B3.out (Nat.le_refl _) (by omega) L3 S3.out).mono ?_
        rintro e w4 ⟨rfl, hx, hs⟩
        have B4 := Lib.hid (Exc.bel hx B3.out (by omega))
        have L4 := L3.block hx.low.size (hx.low.block _ (by omega))
        have G4 := Lib.hid (G3.out.block (hx.mid _ (by omega) (by omega)))
        have S4 := Lib.hid hs
        have gk := G4.out (0) (by omega)
        obtain ⟨gk1, gk2⟩ := gk
        rw [hpd.out]
        generalize hou : outer f (0) = ou at *
        replace hou := Lib.hid hou
        clear hx hs B3 L3 S3 G3 lf0 lf1 lf2
        have hB := Lib.hid (B4.out.set (b := w.heap.size + 2) (by omega) (0) (.int .i64 ou))
        have hL := L4.other (c := w.heap.size + 2) (i := 0) (u := .int .i64 ou) (by omega)
        have hS := Lib.hid (St.aside (c := w.heap.size + 2) (i := 0) (v := .int .i64 ou) S4.out (by omega) (by omega))
        have hF := Lib.hid (G4.out.nextF (k := 0) (h := outer f) (by omega) hou.out)
        go_wp2_with fail
        go_roundg (n - (0 + 1))
        case measure => omega
        case rel => exact ⟨0 + 1, by omega, rfl, by go_num, hB, hL, hS, hF⟩
      · have hoa : ¬ (f (k + 1)).after (f k) := fun h => ho0 ⟨by omega, h⟩
        clear ho0
        have hgk := Lib.hid ((HG.out).le (m := k + 1) (by omega))
        have hF := Lib.hid (show 0 < k + 1 → (f (k + 1 - 1)).F ≤ (f (k + 1)).F from fun _ => by have := hoa; unfold Tp.after at this; simp only [Nat.add_sub_cancel]; omega)
        have hrd : decide ((f (k + 1)).inR ev) = true := decide_eq_true hr0
        have hr := Lib.hid hr0
        clear hr0
        have hcm : decide (0 < cmpT (f k) (f (k + 1))) = false := decide_eq_false (fun h => hoa (cmpT_pos.1 h))
        clear hoa
        have hpd := Lib.hid (show decide (okP f (k + 1)) = true from decide_eq_true hp0)
        clear hp0
        obtain ⟨b, off, rfl, c0, c1, c2, c3⟩ := HT.out.up B0.out.out (k + 1) (by omega)
        obtain ⟨b', off', e, d0, d1, d2, d3⟩ := HT.out.up B0.out.out k (by omega)
        cases e
        have hkn : decide (((k + 1 : Nat) : Int) < (n : Int)) = true := decide_eq_true (by omega)
        have hkn2 : decide ((k : Int) + 1 < (n : Int)) = true := decide_eq_true (by omega)
        have hkp : decide ((0 : Int) < (k : Int) + 1) = true := decide_eq_true (by omega)
        have hkq : decide ((0 : Int) < ((k + 1 : Nat) : Int)) = true := decide_eq_true (by omega)
        obtain ⟨lf0, lf1, lf2⟩ := id L0
        have B1 := Lib.hid (B0.out.alloc (.cells #[.int .i64 (f (k + 1)).F, .int .i64 (f (k + 1)).C, .int .i64 (f (k + 1)).A, .int .i64 (f (k + 1)).N] 52))
        have S1 := Lib.hid (S0.out.up ((Below.refl _ _).alloc (Nat.le_refl _) (.cells #[.int .i64 (f (k + 1)).F, .int .i64 (f (k + 1)).C, .int .i64 (f (k + 1)).A, .int .i64 (f (k + 1)).N] 52)))
        have G1 := Lib.hid (G0.out.up ((Below.refl _ _).alloc (Nat.le_refl _) (.cells #[.int .i64 (f (k + 1)).F, .int .i64 (f (k + 1)).C, .int .i64 (f (k + 1)).A, .int .i64 (f (k + 1)).N] 52)))
        have L1 := L0.alloc (.cells #[.int .i64 (f (k + 1)).F, .int .i64 (f (k + 1)).C, .int .i64 (f (k + 1)).A, .int .i64 (f (k + 1)).N] 52)
        obtain ⟨lk0, lk1, lk2⟩ := id L1
        have Y1 := Quad.new W0 (.int .i64 (f (k + 1)).F) (.int .i64 (f (k + 1)).C) (.int .i64 (f (k + 1)).A) (.int .i64 (f (k + 1)).N) 52 _ rfl
        clear B0 S0 G0 L0
        obtain ⟨yf0, yf1, yf2, yf3, yf4, yf5, yf6, yf7, yf8⟩ := id Y1
        go_wp2_with fail
        clear lf0 lf1 lf2 yf0 yf1 yf2 yf3 yf4 yf5 yf6 yf7 yf8 lk0 lk1 lk2
        refine (inRange_ok (f (k + 1)) ev _ e0 e1).mono ?_
        rintro e w2 ⟨rfl, hb⟩
        have d0' := cell_up hb (cell_up ((Below.refl _ _).alloc (Nat.le_refl _) (.cells #[.int .i64 (f (k + 1)).F, .int .i64 (f (k + 1)).C, .int .i64 (f (k + 1)).A, .int .i64 (f (k + 1)).N] 52)) d0)
        clear d0
        have d0 := d0'
        clear d0'
        have d1' := cell_up hb (cell_up ((Below.refl _ _).alloc (Nat.le_refl _) (.cells #[.int .i64 (f (k + 1)).F, .int .i64 (f (k + 1)).C, .int .i64 (f (k + 1)).A, .int .i64 (f (k + 1)).N] 52)) d1)
        clear d1
        have d1 := d1'
        clear d1'
        have d2' := cell_up hb (cell_up ((Below.refl _ _).alloc (Nat.le_refl _) (.cells #[.int .i64 (f (k + 1)).F, .int .i64 (f (k + 1)).C, .int .i64 (f (k + 1)).A, .int .i64 (f (k + 1)).N] 52)) d2)
        clear d2
        have d2 := d2'
        clear d2'
        have d3' := cell_up hb (cell_up ((Below.refl _ _).alloc (Nat.le_refl _) (.cells #[.int .i64 (f (k + 1)).F, .int .i64 (f (k + 1)).C, .int .i64 (f (k + 1)).A, .int .i64 (f (k + 1)).N] 52)) d3)
        clear d3
        have d3 := d3'
        clear d3'
        rw [hrd]
        have B2 := Lib.hid (B1.out.up hb)
        have S2 := Lib.hid (S1.out.up hb)
        have G2 := Lib.hid (G1.out.up hb)
        have L2 := L1.up hb
        have Y2 := Y1.up hb
        clear hb B1 S1 G1 L1 Y1
        obtain ⟨lf0, lf1, lf2⟩ := id L2
        obtain ⟨yf0, yf1, yf2, yf3, yf4, yf5, yf6, yf7, yf8⟩ := id Y2
        go_wp2_with fail
        clear lf0 lf1 lf2 yf0 yf1 yf2 yf3 yf4 yf5 yf6 yf7 yf8
        refine Qt.regionAll (by kernel_rfl) (by kernel_rfl) ?_
        intro T f_ F hne
        have RB := Lib.hid (fun g => B2.out.up (F.below g))
        have RS := Lib.hid (fun g => S2.out.up (F.below g))
        have RG := Lib.hid (fun g => G2.out.up (F.below g))
        have RL := fun g => L2.up (F.below g)
        have RL0 := fun g => (RL g).c0
        have RY := fun g => Y2.up (F.below g)
        have RY0 := fun g => (RY g).c0
        have RY1 := fun g => (RY g).c1
        have RY2 := fun g => (RY g).c2
        have RY3 := fun g => (RY g).c3
        have R_d0 := fun g => cell_up (F.below g) d0
        have R_d1 := fun g => cell_up (F.below g) d1
        have R_d2 := fun g => cell_up (F.below g) d2
        have R_d3 := fun g => cell_up (F.below g) d3
        repeat (go_big_quiet_step (first | (go_at_call 41; with_reducible exact F.call (compare_ok (f k) (f (k + 1)) _))))
        refine wpQuiet_nil ?_
        rintro _ ⟨gT, rfl⟩
        have B3 := Lib.hid (RB.out gT)
        have S3 := Lib.hid (RS.out gT)
        have G3 := Lib.hid (RG.out gT)
        have L3 := RL gT
        have Y3 := RY gT
        have n_d0 := R_d0 gT
        have n_d1 := R_d1 gT
        have n_d2 := R_d2 gT
        have n_d3 := R_d3 gT
        clear F RB hne RS RG RL RL0 RY RY0 RY1 RY2 RY3 B2 S2 G2 L2 Y2 R_d0 d0 R_d1 d1 R_d2 d2 R_d3 d3
        generalize f_ gT = w3 at *
        clear f_
        have d0 := n_d0
        clear n_d0
        have d1 := n_d1
        clear n_d1
        have d2 := n_d2
        clear n_d2
        have d3 := n_d3
        clear n_d3
        obtain ⟨lf0, lf1, lf2⟩ := id L3
        obtain ⟨yf0, yf1, yf2, yf3, yf4, yf5, yf6, yf7, yf8⟩ := id Y3
        go_wp2_with fail
        refine (enter_ok f n cap (some ⟨b, off, none⟩) ev (k + 1) w.heap.size (w.heap.size + 1) (w.heap.size + 3) w w3 (by omega) (by omega) hgk.out hr.out e1 hF.out HT.out B3.out (Nat.le_refl _) (by omega) L3 S3.out).mono ?_
        rintro e w4 ⟨rfl, hx, hs⟩
        have B4 := Lib.hid (Exc.bel hx B3.out (by omega))
        have L4 := L3.block hx.low.size (hx.low.block _ (by omega))
        have G4 := Lib.hid (G3.out.block (hx.mid _ (by omega) (by omega)))
        have S4 := Lib.hid hs
        have gk := G4.out (k + 1) (by omega)
        obtain ⟨gk1, gk2⟩ := gk
        rw [hpd.out]
        generalize hou : outer f (k + 1) = ou at *
        replace hou := Lib.hid hou
        clear hx hs B3 L3 S3 G3 lf0 lf1 lf2
        have hB := Lib.hid (B4.out.set (b := w.heap.size + 2) (by omega) (k + 1) (.int .i64 ou))
        have hL := L4.other (c := w.heap.size + 2) (i := k + 1) (u := .int .i64 ou) (by omega)
        have hS := Lib.hid (St.aside (c := w.heap.size + 2) (i := k + 1) (v := .int .i64 ou) S4.out (by omega) (by omega))
        have hF := Lib.hid (G4.out.nextF (k := k + 1) (h := outer f) (by omega) hou.out)
        go_wp2_with fail
        go_roundg (n - (k + 1 + 1))
        case measure => omega
        case rel => exact ⟨k + 1 + 1, by omega, rfl, by go_num, hB, hL, hS, hF⟩
    · obtain rfl : k = j := by omega
      rcases k with _ | k
      · have hr0 := hq
        clear hq
        have hgk := Lib.hid ((HG.out).le (m := 0) (by omega))
        have hrd : decide ((f (0)).inR ev) = false := decide_eq_false hr0
        clear hr0
        obtain ⟨b, off, rfl, c0, c1, c2, c3⟩ := HT.out.up B0.out.out (0) (by omega)
        simp only [Nat.zero_mul, Nat.add_zero] at c0 c1 c2 c3
        have hkn : decide (((0 : Nat) : Int) < (n : Int)) = true := decide_eq_true (by omega)
        obtain ⟨lf0, lf1, lf2⟩ := id L0
        have B1 := Lib.hid (B0.out.alloc (.cells #[.int .i64 (f (0)).F, .int .i64 (f (0)).C, .int .i64 (f (0)).A, .int .i64 (f (0)).N] 52))
        have S1 := Lib.hid (S0.out.up ((Below.refl _ _).alloc (Nat.le_refl _) (.cells #[.int .i64 (f (0)).F, .int .i64 (f (0)).C, .int .i64 (f (0)).A, .int .i64 (f (0)).N] 52)))
        have G1 := Lib.hid (G0.out.up ((Below.refl _ _).alloc (Nat.le_refl _) (.cells #[.int .i64 (f (0)).F, .int .i64 (f (0)).C, .int .i64 (f (0)).A, .int .i64 (f (0)).N] 52)))
        have L1 := L0.alloc (.cells #[.int .i64 (f (0)).F, .int .i64 (f (0)).C, .int .i64 (f (0)).A, .int .i64 (f (0)).N] 52)
        obtain ⟨lk0, lk1, lk2⟩ := id L1
        have Y1 := Quad.new W0 (.int .i64 (f (0)).F) (.int .i64 (f (0)).C) (.int .i64 (f (0)).A) (.int .i64 (f (0)).N) 52 _ rfl
        clear B0 S0 G0 L0
        obtain ⟨yf0, yf1, yf2, yf3, yf4, yf5, yf6, yf7, yf8⟩ := id Y1
        go_wp2_with fail
        clear lf0 lf1 lf2 yf0 yf1 yf2 yf3 yf4 yf5 yf6 yf7 yf8 lk0 lk1 lk2
        refine (inRange_ok (f (0)) ev _ e0 e1).mono ?_
        rintro e w2 ⟨rfl, hb⟩
        rw [hrd]
        have B2 := Lib.hid (B1.out.up hb)
        have S2 := Lib.hid (S1.out.up hb)
        have G2 := Lib.hid (G1.out.up hb)
        have L2 := L1.up hb
        have Y2 := Y1.up hb
        clear hb B1 S1 G1 L1 Y1
        obtain ⟨lf0, lf1, lf2⟩ := id L2
        obtain ⟨yf0, yf1, yf2, yf3, yf4, yf5, yf6, yf7, yf8⟩ := id Y2
        go_wp2_with fail
        go_ret2
        exact ⟨_, rfl, B2.out.out, ⟨fun h => absurd h (by decide), fun _ => rfl⟩⟩
      · have hr0 := hq
        clear hq
        have hgk := Lib.hid ((HG.out).le (m := k + 1) (by omega))
        have hrd : decide ((f (k + 1)).inR ev) = false := decide_eq_false hr0
        clear hr0
        obtain ⟨b, off, rfl, c0, c1, c2, c3⟩ := HT.out.up B0.out.out (k + 1) (by omega)
        obtain ⟨b', off', e, d0, d1, d2, d3⟩ := HT.out.up B0.out.out k (by omega)
        cases e
        have hkn : decide (((k + 1 : Nat) : Int) < (n : Int)) = true := decide_eq_true (by omega)
        have hkn2 : decide ((k : Int) + 1 < (n : Int)) = true := decide_eq_true (by omega)
        have hkp : decide ((0 : Int) < (k : Int) + 1) = true := decide_eq_true (by omega)
        have hkq : decide ((0 : Int) < ((k + 1 : Nat) : Int)) = true := decide_eq_true (by omega)
        obtain ⟨lf0, lf1, lf2⟩ := id L0
        have B1 := Lib.hid (B0.out.alloc (.cells #[.int .i64 (f (k + 1)).F, .int .i64 (f (k + 1)).C, .int .i64 (f (k + 1)).A, .int .i64 (f (k + 1)).N] 52))
        have S1 := Lib.hid (S0.out.up ((Below.refl _ _).alloc (Nat.le_refl _) (.cells #[.int .i64 (f (k + 1)).F, .int .i64 (f (k + 1)).C, .int .i64 (f (k + 1)).A, .int .i64 (f (k + 1)).N] 52)))
        have G1 := Lib.hid (G0.out.up ((Below.refl _ _).alloc (Nat.le_refl _) (.cells #[.int .i64 (f (k + 1)).F, .int .i64 (f (k + 1)).C, .int .i64 (f (k + 1)).A, .int .i64 (f (k + 1)).N] 52)))
        have L1 := L0.alloc (.cells #[.int .i64 (f (k + 1)).F, .int .i64 (f (k + 1)).C, .int .i64 (f (k + 1)).A, .int .i64 (f (k + 1)).N] 52)
        obtain ⟨lk0, lk1, lk2⟩ := id L1
        have Y1 := Quad.new W0 (.int .i64 (f (k + 1)).F) (.int .i64 (f (k + 1)).C) (.int .i64 (f (k + 1)).A) (.int .i64 (f (k + 1)).N) 52 _ rfl
        clear B0 S0 G0 L0
        obtain ⟨yf0, yf1, yf2, yf3, yf4, yf5, yf6, yf7, yf8⟩ := id Y1
        go_wp2_with fail
        clear lf0 lf1 lf2 yf0 yf1 yf2 yf3 yf4 yf5 yf6 yf7 yf8 lk0 lk1 lk2
        refine (inRange_ok (f (k + 1)) ev _ e0 e1).mono ?_
        rintro e w2 ⟨rfl, hb⟩
        rw [hrd]
        have B2 := Lib.hid (B1.out.up hb)
        have S2 := Lib.hid (S1.out.up hb)
        have G2 := Lib.hid (G1.out.up hb)
        have L2 := L1.up hb
        have Y2 := Y1.up hb
        clear hb B1 S1 G1 L1 Y1
        obtain ⟨lf0, lf1, lf2⟩ := id L2
        obtain ⟨yf0, yf1, yf2, yf3, yf4, yf5, yf6, yf7, yf8⟩ := id Y2
        go_wp2_with fail
        go_ret2
        exact ⟨_, rfl, B2.out.out, ⟨fun h => absurd h (by decide), fun _ => rfl⟩⟩
end Go.Proofs.Ytidggmfgbcmklaa
