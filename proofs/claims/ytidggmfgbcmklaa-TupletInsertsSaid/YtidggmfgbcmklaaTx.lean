/- Tuplets: the reference Check, not nested. -/
import Derived.Test.YtidggmfgbcmklaaTu
namespace Go.Proofs.Ytidggmfgbcmklaa
open Go.RowKit
set_option linter.unusedVariables false
set_option linter.unusedSimpArgs false

set_option maxRecDepth 100000 in
set_option maxHeartbeats 16000000 in
theorem rchk_p (f : Nat → Tp) (n cap : Nat) (ad : Option Addr) (m : Nat) (w : World) (e1 : m ≤ 128) (hn : n ≤ 16) (z : Nat) (hi : z < n) (hg : good f m z) (hr0 : (f z).inR m) (ho0 : ¬ (0 < z ∧ (f z).after (f (z - 1)))) (hmo : ∀ j, j < z → (f j).F ≤ (f z).F) (hq : ¬ okP f z) (h : TsAt w ad n f) :
    Calls Try.prog 15 #[.slice ad n cap, .int .i64 (m : Int)] w fun e w' => e = .returned (.int .i64 21) ∧ Below w.heap.size w w' := by
  have g0 : decide ((m : Int) < 0) = false := decide_eq_false (by omega)
  have g1 : decide ((128 : Int) < (m : Int)) = false := decide_eq_false (by omega)
  have g1n : decide (128 < m) = false := decide_eq_false (by omega)
  have g2 : decide (16 < n) = false := decide_eq_false (by omega)
  have g3 : decide (16 < (n : Int)) = false := decide_eq_false (by omega)
  have HT := Lib.hid h
  have HG := Lib.hid hg
  have B0 := Lib.hid (Bel.refl w)
  clear h hg
  go_enter Try.func15, Try.ntmps15
  go_wp2_with fail
  go_loopg [5] n (fun gm i wr => ∃ k : Nat, k ≤ z ∧ gm = n - k ∧ i = .int .i64 (k : Int) ∧ Hid (Bel w wr))
  case atStart => exact ⟨0, by omega, by omega, rfl, B0⟩
  case round =>
    clear B0 g0 g1 g1n g2 g3
    obtain ⟨k, hk, rfl, rfl, HB⟩ := hrel
    obtain ⟨W0, hW0, B0⟩ : ∃ W0, W0 = _ ∧ Hid (Bel w W0) := ⟨_, rfl, HB⟩
    subst hW0
    clear HB
    by_cases hlt : k < z
    · clear hq hr0 ho0 hmo
      obtain ⟨hr0, ho0, hp0⟩ := HG.out.parts hlt
      have HSM := Lib.hid (fun j (hj : j < k) => Sm.of (HG.out.parts (show j < _ by omega)).1 (show (m : Int) ≤ 128 by omega))
      have HMO := Lib.hid (fun j (hj : j < k) => HG.out.mono (show j ≤ k by omega) hlt)
      have hr := Lib.hid hr0
      clear hr0
      rcases k with _ | k
      · clear ho0
        have HE := Lib.hid (fun (x : Nat) (hx : x < m) => (okP_of_events hr.out (fun j hj => HMO.out j hj)).1 hp0 x (by omega) (by omega))
        have HBz := Lib.hid B0.out.size
        clear hp0
        obtain ⟨b, off, rfl, c0, c1, c2, c3⟩ := HT.out.up B0.out.out (0) (by omega)
        simp only [Nat.zero_mul, Nat.add_zero] at c0 c1 c2 c3
        have hkn : decide (((0 : Nat) : Int) < (n : Int)) = true := decide_eq_true (by omega)
        have hr1 := hr.out
        unfold Tp.inR at hr1
        have q0 : decide ((f (0)).C < 1) = false := decide_eq_false (by omega)
        have q1 : decide ((m : Int) < (f (0)).C) = false := decide_eq_false (by omega)
        have q2 : decide ((f (0)).F < 0) = false := decide_eq_false (by omega)
        have q3 : decide ((m : Int) - (f (0)).C < (f (0)).F) = false := decide_eq_false (by omega)
        have q4 : decide ((f (0)).A < 1) = false := decide_eq_false (by omega)
        have q5 : decide (32 < (f (0)).A) = false := decide_eq_false (by omega)
        have q6 : decide ((f (0)).N < 1) = false := decide_eq_false (by omega)
        have q7 : decide (32 < (f (0)).N) = false := decide_eq_false (by omega)
        have q8 : ((f (0)).A == (f (0)).N) = false := by simp; omega
        have z0 : 1 ≤ (f (0)).C := by omega
        have z1 : (f (0)).C ≤ (m : Int) := by omega
        clear hr1
        have B1 := Lib.hid (B0.out.alloc (.cells #[.int .i64 (f (0)).F, .int .i64 (f (0)).C, .int .i64 (f (0)).A, .int .i64 (f (0)).N] 39))
        have Y1 := Quad.new W0 (.int .i64 (f (0)).F) (.int .i64 (f (0)).C) (.int .i64 (f (0)).A) (.int .i64 (f (0)).N) 39 _ rfl
        clear B0  
        obtain ⟨yf0, yf1, yf2, yf3, yf4, yf5, yf6, yf7, yf8⟩ := id Y1
        go_wp2_with fail
        clear yf0 yf1 yf2 yf3 yf4 yf5 yf6 yf7 yf8
        refine Qt.regionAll (by kernel_rfl) (by kernel_rfl) ?_
        intro T f_ F hne
        have RB := Lib.hid (fun g => B1.out.up (F.below g))
        have RY := fun g => Y1.up (F.below g)
        have RY0 := fun g => (RY g).c0
        have RY1 := fun g => (RY g).c1
        have RY2 := fun g => (RY g).c2
        have RY3 := fun g => (RY g).c3
        repeat (go_big_quiet_step (fail))
        refine wpQuiet_nil ?_
        rintro _ ⟨gT, rfl⟩
        have B2 := Lib.hid (RB.out gT)
        have Y2 := RY gT
        clear F RB hne RY RY0 RY1 RY2 RY3 B1 Y1
        generalize f_ gT = w2 at *
        clear f_
        obtain ⟨yf0, yf1, yf2, yf3, yf4, yf5, yf6, yf7, yf8⟩ := id Y2
        go_wp2_with fail
        have hyb : w.heap.size ≤ W0.heap.size := HBz.out
        generalize hybe : W0.heap.size = yb at *
        have hsk := Lib.hid (Sm.of hr.out (by omega))
        try rw [show ((k + 1 : Nat) : Int) = (k : Int) + 1 from rfl]
        try rw [hcm]
        go_loopg [7] m (fun ge y wr => ∃ x : Nat, x ≤ m ∧ ge = m - x ∧ y = .int .i64 (x : Int) ∧ Hid (Bel w wr) ∧ Quad wr yb (.int .i64 (f (0)).F) (.int .i64 (f (0)).C) (.int .i64 (f (0)).A) (.int .i64 (f (0)).N))
        case atStart => exact ⟨0, by omega, by omega, rfl, B2, Y2⟩
        case round =>
          clear B2 Y2
          obtain ⟨x, hx, rfl, rfl, BX, QX⟩ := hrel
          by_cases hxl : x < m
          · have hxm : decide ((x : Int) < (m : Int)) = true := decide_eq_true (by omega)
            have hin := Lib.hid (HE.out x hxl).1
            have hdp := (HE.out x hxl).2
            go_wp2_with fail
            try rw [show ((k + 1 : Nat) : Int) = (k : Int) + 1 from rfl]
            try rw [show decide (x < m) = true from decide_eq_true (by omega)]
            go_loopg [9, 8] (0) (fun gq q c wr => ∃ p : Nat, p ≤ 0 ∧ gq = (0) - p ∧ q = .int .i64 (p : Int) ∧ c = .int .i64 (dep f (0) x p : Int) ∧ Hid (Bel w wr) ∧ Quad wr yb (.int .i64 (f (0)).F) (.int .i64 (f (0)).C) (.int .i64 (f (0)).A) (.int .i64 (f (0)).N))
            case atStart => exact ⟨0, by omega, by omega, rfl, rfl, BX, QX⟩
            case round =>
              clear BX QX
              obtain ⟨p, hp, rfl, rfl, rfl, HB, HQ⟩ := hrel
              obtain ⟨W5, hW5, B0, Y0⟩ : ∃ W5, W5 = _ ∧ Hid (Bel w W5) ∧ Quad W5 yb (.int .i64 (f (0)).F) (.int .i64 (f (0)).C) (.int .i64 (f (0)).A) (.int .i64 (f (0)).N) := ⟨_, rfl, HB, HQ⟩
              subst hW5
              clear HB HQ
              have hdl := dep_le (f := f) (i := 0) (x := (x : Int)) p
              by_cases hpl : p < 0
              · exact absurd hpl (by omega)
              · obtain rfl : p = 0 := by omega
                have hdd : decide (3 ≤ dep f (0) x (0)) = false := decide_eq_false (by omega)
                have hdd2 : decide ((3 : Int) ≤ (dep f (0) x (0) : Int)) = false := decide_eq_false (by omega)
                have hpk : decide ((((0) : Nat) : Int) < (((0) : Nat) : Int)) = false := decide_eq_false (by omega)
                go_wp2_with fail
                go_roundg (m - (x + 1))
                case measure => omega
                case rel => exact ⟨x + 1, by omega, rfl, by go_num, B0, Y0⟩
          · obtain rfl : x = m := by omega
            have hxm : decide ((x : Int) < (x : Int)) = false := decide_eq_false (by omega)
            go_wp2_with fail
            go_roundg (n - (0 + 1))
            case measure => omega
            case rel => exact ⟨0 + 1, by omega, rfl, by go_num, BX⟩
      · have hoa : ¬ (f (k + 1)).after (f k) := fun h => ho0 ⟨by omega, h⟩
        clear ho0
        have HE := Lib.hid (fun (x : Nat) (hx : x < m) => (okP_of_events hr.out (fun j hj => HMO.out j hj)).1 hp0 x (by omega) (by omega))
        have HBz := Lib.hid B0.out.size
        clear hp0
        obtain ⟨b, off, rfl, c0, c1, c2, c3⟩ := HT.out.up B0.out.out (k + 1) (by omega)
        obtain ⟨b', off', e, d0, d1, d2, d3⟩ := HT.out.up B0.out.out k (by omega)
        cases e
        have hkn : decide (((k + 1 : Nat) : Int) < (n : Int)) = true := decide_eq_true (by omega)
        have hkn2 : decide ((k : Int) + 1 < (n : Int)) = true := decide_eq_true (by omega)
        have hkp : decide ((0 : Int) < (k : Int) + 1) = true := decide_eq_true (by omega)
        have hkq : decide ((0 : Int) < ((k + 1 : Nat) : Int)) = true := decide_eq_true (by omega)
        have hr1 := hr.out
        unfold Tp.inR at hr1
        have q0 : decide ((f (k + 1)).C < 1) = false := decide_eq_false (by omega)
        have q1 : decide ((m : Int) < (f (k + 1)).C) = false := decide_eq_false (by omega)
        have q2 : decide ((f (k + 1)).F < 0) = false := decide_eq_false (by omega)
        have q3 : decide ((m : Int) - (f (k + 1)).C < (f (k + 1)).F) = false := decide_eq_false (by omega)
        have q4 : decide ((f (k + 1)).A < 1) = false := decide_eq_false (by omega)
        have q5 : decide (32 < (f (k + 1)).A) = false := decide_eq_false (by omega)
        have q6 : decide ((f (k + 1)).N < 1) = false := decide_eq_false (by omega)
        have q7 : decide (32 < (f (k + 1)).N) = false := decide_eq_false (by omega)
        have q8 : ((f (k + 1)).A == (f (k + 1)).N) = false := by simp; omega
        have z0 : 1 ≤ (f (k + 1)).C := by omega
        have z1 : (f (k + 1)).C ≤ (m : Int) := by omega
        clear hr1
        have hcm : decide ((f (k + 1)).after (f k)) = false := decide_eq_false hoa
        clear hoa
        have B1 := Lib.hid (B0.out.alloc (.cells #[.int .i64 (f (k + 1)).F, .int .i64 (f (k + 1)).C, .int .i64 (f (k + 1)).A, .int .i64 (f (k + 1)).N] 39))
        have Y1 := Quad.new W0 (.int .i64 (f (k + 1)).F) (.int .i64 (f (k + 1)).C) (.int .i64 (f (k + 1)).A) (.int .i64 (f (k + 1)).N) 39 _ rfl
        clear B0  
        obtain ⟨yf0, yf1, yf2, yf3, yf4, yf5, yf6, yf7, yf8⟩ := id Y1
        replace d0 := cell_up ((Below.refl _ _).alloc (Nat.le_refl _) (.cells #[.int .i64 (f (k + 1)).F, .int .i64 (f (k + 1)).C, .int .i64 (f (k + 1)).A, .int .i64 (f (k + 1)).N] 39)) d0
        replace d1 := cell_up ((Below.refl _ _).alloc (Nat.le_refl _) (.cells #[.int .i64 (f (k + 1)).F, .int .i64 (f (k + 1)).C, .int .i64 (f (k + 1)).A, .int .i64 (f (k + 1)).N] 39)) d1
        replace d2 := cell_up ((Below.refl _ _).alloc (Nat.le_refl _) (.cells #[.int .i64 (f (k + 1)).F, .int .i64 (f (k + 1)).C, .int .i64 (f (k + 1)).A, .int .i64 (f (k + 1)).N] 39)) d2
        replace d3 := cell_up ((Below.refl _ _).alloc (Nat.le_refl _) (.cells #[.int .i64 (f (k + 1)).F, .int .i64 (f (k + 1)).C, .int .i64 (f (k + 1)).A, .int .i64 (f (k + 1)).N] 39)) d3
        go_wp2_with fail
        clear yf0 yf1 yf2 yf3 yf4 yf5 yf6 yf7 yf8
        refine Qt.regionAll (by kernel_rfl) (by kernel_rfl) ?_
        intro T f_ F hne
        have RB := Lib.hid (fun g => B1.out.up (F.below g))
        have RY := fun g => Y1.up (F.below g)
        have RY0 := fun g => (RY g).c0
        have RY1 := fun g => (RY g).c1
        have RY2 := fun g => (RY g).c2
        have RY3 := fun g => (RY g).c3
        have R_d0 := fun g => cell_up (F.below g) d0
        have R_d1 := fun g => cell_up (F.below g) d1
        have R_d2 := fun g => cell_up (F.below g) d2
        have R_d3 := fun g => cell_up (F.below g) d3
        repeat (go_big_quiet_step (first | (go_at_call 38; with_reducible exact F.call (after_ok (f (k + 1)) (f k) _))))
        refine wpQuiet_nil ?_
        rintro _ ⟨gT, rfl⟩
        have B2 := Lib.hid (RB.out gT)
        have Y2 := RY gT
        have n_d0 := R_d0 gT
        have n_d1 := R_d1 gT
        have n_d2 := R_d2 gT
        have n_d3 := R_d3 gT
        clear F RB hne RY RY0 RY1 RY2 RY3 B1 Y1 R_d0 d0 R_d1 d1 R_d2 d2 R_d3 d3
        generalize f_ gT = w2 at *
        clear f_
        have d0 := n_d0
        clear n_d0
        have d1 := n_d1
        clear n_d1
        have d2 := n_d2
        clear n_d2
        have d3 := n_d3
        clear n_d3
        obtain ⟨yf0, yf1, yf2, yf3, yf4, yf5, yf6, yf7, yf8⟩ := id Y2
        go_wp2_with fail
        have hyb : w.heap.size ≤ W0.heap.size := HBz.out
        generalize hybe : W0.heap.size = yb at *
        have hsk := Lib.hid (Sm.of hr.out (by omega))
        try rw [show ((k + 1 : Nat) : Int) = (k : Int) + 1 from rfl]
        try rw [hcm]
        go_loopg [7] m (fun ge y wr => ∃ x : Nat, x ≤ m ∧ ge = m - x ∧ y = .int .i64 (x : Int) ∧ Hid (Bel w wr) ∧ Quad wr yb (.int .i64 (f (k + 1)).F) (.int .i64 (f (k + 1)).C) (.int .i64 (f (k + 1)).A) (.int .i64 (f (k + 1)).N))
        case atStart => exact ⟨0, by omega, by omega, rfl, B2, Y2⟩
        case round =>
          clear B2 Y2
          obtain ⟨x, hx, rfl, rfl, BX, QX⟩ := hrel
          by_cases hxl : x < m
          · have hxm : decide ((x : Int) < (m : Int)) = true := decide_eq_true (by omega)
            have hin := Lib.hid (HE.out x hxl).1
            have hdp := (HE.out x hxl).2
            go_wp2_with fail
            try rw [show ((k + 1 : Nat) : Int) = (k : Int) + 1 from rfl]
            try rw [show decide (x < m) = true from decide_eq_true (by omega)]
            go_loopg [9, 8] (k + 1) (fun gq q c wr => ∃ p : Nat, p ≤ k + 1 ∧ gq = (k + 1) - p ∧ q = .int .i64 (p : Int) ∧ c = .int .i64 (dep f (k + 1) x p : Int) ∧ Hid (Bel w wr) ∧ Quad wr yb (.int .i64 (f (k + 1)).F) (.int .i64 (f (k + 1)).C) (.int .i64 (f (k + 1)).A) (.int .i64 (f (k + 1)).N))
            case atStart => exact ⟨0, by omega, by omega, rfl, rfl, BX, QX⟩
            case round =>
              clear BX QX
              obtain ⟨p, hp, rfl, rfl, rfl, HB, HQ⟩ := hrel
              obtain ⟨W5, hW5, B0, Y0⟩ : ∃ W5, W5 = _ ∧ Hid (Bel w W5) ∧ Quad W5 yb (.int .i64 (f (k + 1)).F) (.int .i64 (f (k + 1)).C) (.int .i64 (f (k + 1)).A) (.int .i64 (f (k + 1)).N) := ⟨_, rfl, HB, HQ⟩
              subst hW5
              clear HB HQ
              have hdl := dep_le (f := f) (i := k + 1) (x := (x : Int)) p
              by_cases hpl : p < k + 1
              · have hpk : decide ((p : Int) < ((k + 1 : Nat) : Int)) = true := decide_eq_true (by omega)
                have hpk2 : p < k + 1 := by omega
                obtain ⟨b', off', e, p0, p1, p2, p3⟩ := HT.out.up B0.out.out p (by omega)
                cases e
                have hsp := Lib.hid (HSM.out p (by omega))
                by_cases hx1 : (f (k + 1)).has x
                · have hx1d : decide ((f (k + 1)).has x) = true := decide_eq_true hx1
                  by_cases hx2 : (f p).has x
                  · have hx2d : decide ((f p).has x) = true := decide_eq_true hx2
                    have hwd : decide (wi (f (k + 1)) (f p)) = true := decide_eq_true (hin.out p hpl hx1 hx2)
                    have HD := Lib.hid (dep_both hx1 hx2)
                    clear hx1 hx2
                    generalize dep f (k + 1) x p = dd at *
                    obtain ⟨yf0, yf1, yf2, yf3, yf4, yf5, yf6, yf7, yf8⟩ := id Y0
                    go_wp2_with fail
                    clear yf0 yf1 yf2 yf3 yf4 yf5 yf6 yf7 yf8
                    refine (in_ok (f (k + 1)) x _ hsk.out).mono ?_
                    rintro e w1 ⟨rfl, hb⟩
                    replace p0 := cell_up hb p0
                    replace p1 := cell_up hb p1
                    replace p2 := cell_up hb p2
                    replace p3 := cell_up hb p3
                    rw [hx1d]
                    have B1 := Lib.hid (B0.out.up hb)
                    have Y1 := Y0.up hb
                    clear hb B0  Y0
                    obtain ⟨yf0, yf1, yf2, yf3, yf4, yf5, yf6, yf7, yf8⟩ := id Y1
                    go_wp2_with fail
                    clear yf0 yf1 yf2 yf3 yf4 yf5 yf6 yf7 yf8
                    refine (in_ok (f p) x _ hsp.out).mono ?_
                    rintro e w2 ⟨rfl, hb⟩
                    replace p0 := cell_up hb p0
                    replace p1 := cell_up hb p1
                    replace p2 := cell_up hb p2
                    replace p3 := cell_up hb p3
                    rw [hx2d]
                    have B2 := Lib.hid (B1.out.up hb)
                    have Y2 := Y1.up hb
                    clear hb B1  Y1
                    obtain ⟨yf0, yf1, yf2, yf3, yf4, yf5, yf6, yf7, yf8⟩ := id Y2
                    go_wp2_with fail
                    clear yf0 yf1 yf2 yf3 yf4 yf5 yf6 yf7 yf8
                    refine Qt.regionAll (by kernel_rfl) (by kernel_rfl) ?_
                    intro T f_ F hne
                    have RB := Lib.hid (fun g => B2.out.up (F.below g))
                    have RY := fun g => Y2.up (F.below g)
                    have RY0 := fun g => (RY g).c0
                    have RY1 := fun g => (RY g).c1
                    have RY2 := fun g => (RY g).c2
                    have RY3 := fun g => (RY g).c3
                    have R_p0 := fun g => cell_up (F.below g) p0
                    have R_p1 := fun g => cell_up (F.below g) p1
                    have R_p2 := fun g => cell_up (F.below g) p2
                    have R_p3 := fun g => cell_up (F.below g) p3
                    repeat (go_big_quiet_step (first | (go_at_call 31; with_reducible exact F.call (within_ok (f (k + 1)) (f p) _ hsk.out hsp.out))))
                    refine wpQuiet_nil ?_
                    rintro _ ⟨gT, rfl⟩
                    have B3 := Lib.hid (RB.out gT)
                    have Y3 := RY gT
                    have n_p0 := R_p0 gT
                    have n_p1 := R_p1 gT
                    have n_p2 := R_p2 gT
                    have n_p3 := R_p3 gT
                    clear F RB hne RY RY0 RY1 RY2 RY3 B2 Y2 R_p0 p0 R_p1 p1 R_p2 p2 R_p3 p3
                    generalize f_ gT = w3 at *
                    clear f_
                    have p0 := n_p0
                    clear n_p0
                    have p1 := n_p1
                    clear n_p1
                    have p2 := n_p2
                    clear n_p2
                    have p3 := n_p3
                    clear n_p3
                    obtain ⟨yf0, yf1, yf2, yf3, yf4, yf5, yf6, yf7, yf8⟩ := id Y3
                    go_wp2_with fail
                    go_roundg ((k + 1) - (p + 1))
                    case measure => omega
                    case rel => first | exact ⟨p + 1, by omega, rfl, by go_num, by rw [HD.out] <;> go_num, B3, Y3⟩ | exact ⟨p + 1, by omega, by go_num, by rw [HD.out] <;> go_num, B3, Y3⟩
                  · have hx2d : decide ((f p).has x) = false := decide_eq_false hx2
                    have HD := Lib.hid (dep_skip (f := f) (i := k + 1) (q := p) (x := (x : Int)) (fun h => hx2 h.2))
                    clear hx1 hx2
                    generalize dep f (k + 1) x p = dd at *
                    obtain ⟨yf0, yf1, yf2, yf3, yf4, yf5, yf6, yf7, yf8⟩ := id Y0
                    go_wp2_with fail
                    clear yf0 yf1 yf2 yf3 yf4 yf5 yf6 yf7 yf8
                    refine (in_ok (f (k + 1)) x _ hsk.out).mono ?_
                    rintro e w1 ⟨rfl, hb⟩
                    replace p0 := cell_up hb p0
                    replace p1 := cell_up hb p1
                    replace p2 := cell_up hb p2
                    replace p3 := cell_up hb p3
                    rw [hx1d]
                    have B1 := Lib.hid (B0.out.up hb)
                    have Y1 := Y0.up hb
                    clear hb B0  Y0
                    obtain ⟨yf0, yf1, yf2, yf3, yf4, yf5, yf6, yf7, yf8⟩ := id Y1
                    go_wp2_with fail
                    clear yf0 yf1 yf2 yf3 yf4 yf5 yf6 yf7 yf8
                    refine (in_ok (f p) x _ hsp.out).mono ?_
                    rintro e w2 ⟨rfl, hb⟩
                    replace p0 := cell_up hb p0
                    replace p1 := cell_up hb p1
                    replace p2 := cell_up hb p2
                    replace p3 := cell_up hb p3
                    rw [hx2d]
                    have B2 := Lib.hid (B1.out.up hb)
                    have Y2 := Y1.up hb
                    clear hb B1  Y1
                    obtain ⟨yf0, yf1, yf2, yf3, yf4, yf5, yf6, yf7, yf8⟩ := id Y2
                    go_wp2_with fail
                    go_roundg ((k + 1) - (p + 1))
                    case measure => omega
                    case rel => first | exact ⟨p + 1, by omega, rfl, by go_num, by rw [HD.out] <;> go_num, B2, Y2⟩ | exact ⟨p + 1, by omega, by go_num, by rw [HD.out] <;> go_num, B2, Y2⟩
                · have hx1d : decide ((f (k + 1)).has x) = false := decide_eq_false hx1
                  have HD := Lib.hid (dep_skip (f := f) (i := k + 1) (q := p) (x := (x : Int)) (fun h => hx1 h.1))
                  clear hx1
                  generalize dep f (k + 1) x p = dd at *
                  obtain ⟨yf0, yf1, yf2, yf3, yf4, yf5, yf6, yf7, yf8⟩ := id Y0
                  go_wp2_with fail
                  clear yf0 yf1 yf2 yf3 yf4 yf5 yf6 yf7 yf8
                  refine (in_ok (f (k + 1)) x _ hsk.out).mono ?_
                  rintro e w1 ⟨rfl, hb⟩
                  replace p0 := cell_up hb p0
                  replace p1 := cell_up hb p1
                  replace p2 := cell_up hb p2
                  replace p3 := cell_up hb p3
                  rw [hx1d]
                  have B1 := Lib.hid (B0.out.up hb)
                  have Y1 := Y0.up hb
                  clear hb B0  Y0
                  obtain ⟨yf0, yf1, yf2, yf3, yf4, yf5, yf6, yf7, yf8⟩ := id Y1
                  go_wp2_with fail
                  go_roundg ((k + 1) - (p + 1))
                  case measure => omega
                  case rel => first | exact ⟨p + 1, by omega, rfl, by go_num, by rw [HD.out] <;> go_num, B1, Y1⟩ | exact ⟨p + 1, by omega, by go_num, by rw [HD.out] <;> go_num, B1, Y1⟩
              · obtain rfl : p = k + 1 := by omega
                have hdd : decide (3 ≤ dep f (k + 1) x (k + 1)) = false := decide_eq_false (by omega)
                have hdd2 : decide ((3 : Int) ≤ (dep f (k + 1) x (k + 1) : Int)) = false := decide_eq_false (by omega)
                have hpk : decide ((((k + 1) : Nat) : Int) < (((k + 1) : Nat) : Int)) = false := decide_eq_false (by omega)
                go_wp2_with fail
                go_roundg (m - (x + 1))
                case measure => omega
                case rel => exact ⟨x + 1, by omega, rfl, by go_num, B0, Y0⟩
          · obtain rfl : x = m := by omega
            have hxm : decide ((x : Int) < (x : Int)) = false := decide_eq_false (by omega)
            go_wp2_with fail
            go_roundg (n - (k + 1 + 1))
            case measure => omega
            case rel => exact ⟨k + 1 + 1, by omega, rfl, by go_num, BX⟩
    · obtain rfl : k = z := by omega
      have HSM := Lib.hid (fun j (hj : j < k) => Sm.of (HG.out.parts hj).1 (show (m : Int) ≤ 128 by omega))
      have HMO := Lib.hid hmo
      have hr := Lib.hid hr0
      have hp0 := hq
      clear hr0 hmo hq
      rcases k with _ | k
      · clear ho0
        have HE0 := fun (h : ∀ x : Nat, x < m → evOk f (0) x) => hp0 ((okP_of_events hr.out (fun j hj => HMO.out j hj)).2 (fun x x0 x1 => by
          obtain ⟨y, rfl⟩ := Int.eq_ofNat_of_zero_le x0
          exact h y (by omega)))
        obtain ⟨xb, hxb, HE, hbe⟩ : ∃ x : Nat, x < m ∧ (∀ y : Nat, y < x → evOk f (0) y) ∧ ¬ evOk f (0) x := by
          rcases ev_first f (0) m with h | h
          · exact absurd h HE0
          · exact h
        replace HE := Lib.hid HE
        have HBz := Lib.hid B0.out.size
        clear hp0 HE0
        obtain ⟨b, off, rfl, c0, c1, c2, c3⟩ := HT.out.up B0.out.out (0) (by omega)
        simp only [Nat.zero_mul, Nat.add_zero] at c0 c1 c2 c3
        have hkn : decide (((0 : Nat) : Int) < (n : Int)) = true := decide_eq_true (by omega)
        have hr1 := hr.out
        unfold Tp.inR at hr1
        have q0 : decide ((f (0)).C < 1) = false := decide_eq_false (by omega)
        have q1 : decide ((m : Int) < (f (0)).C) = false := decide_eq_false (by omega)
        have q2 : decide ((f (0)).F < 0) = false := decide_eq_false (by omega)
        have q3 : decide ((m : Int) - (f (0)).C < (f (0)).F) = false := decide_eq_false (by omega)
        have q4 : decide ((f (0)).A < 1) = false := decide_eq_false (by omega)
        have q5 : decide (32 < (f (0)).A) = false := decide_eq_false (by omega)
        have q6 : decide ((f (0)).N < 1) = false := decide_eq_false (by omega)
        have q7 : decide (32 < (f (0)).N) = false := decide_eq_false (by omega)
        have q8 : ((f (0)).A == (f (0)).N) = false := by simp; omega
        have z0 : 1 ≤ (f (0)).C := by omega
        have z1 : (f (0)).C ≤ (m : Int) := by omega
        clear hr1
        have B1 := Lib.hid (B0.out.alloc (.cells #[.int .i64 (f (0)).F, .int .i64 (f (0)).C, .int .i64 (f (0)).A, .int .i64 (f (0)).N] 39))
        have Y1 := Quad.new W0 (.int .i64 (f (0)).F) (.int .i64 (f (0)).C) (.int .i64 (f (0)).A) (.int .i64 (f (0)).N) 39 _ rfl
        clear B0  
        obtain ⟨yf0, yf1, yf2, yf3, yf4, yf5, yf6, yf7, yf8⟩ := id Y1
        go_wp2_with fail
        clear yf0 yf1 yf2 yf3 yf4 yf5 yf6 yf7 yf8
        refine Qt.regionAll (by kernel_rfl) (by kernel_rfl) ?_
        intro T f_ F hne
        have RB := Lib.hid (fun g => B1.out.up (F.below g))
        have RY := fun g => Y1.up (F.below g)
        have RY0 := fun g => (RY g).c0
        have RY1 := fun g => (RY g).c1
        have RY2 := fun g => (RY g).c2
        have RY3 := fun g => (RY g).c3
        repeat (go_big_quiet_step (fail))
        refine wpQuiet_nil ?_
        rintro _ ⟨gT, rfl⟩
        have B2 := Lib.hid (RB.out gT)
        have Y2 := RY gT
        clear F RB hne RY RY0 RY1 RY2 RY3 B1 Y1
        generalize f_ gT = w2 at *
        clear f_
        obtain ⟨yf0, yf1, yf2, yf3, yf4, yf5, yf6, yf7, yf8⟩ := id Y2
        go_wp2_with fail
        have hyb : w.heap.size ≤ W0.heap.size := HBz.out
        generalize hybe : W0.heap.size = yb at *
        have hsk := Lib.hid (Sm.of hr.out (by omega))
        try rw [show ((k + 1 : Nat) : Int) = (k : Int) + 1 from rfl]
        try rw [hcm]
        go_loopg [7] m (fun ge y wr => ∃ x : Nat, x ≤ xb ∧ ge = m - x ∧ y = .int .i64 (x : Int) ∧ Hid (Bel w wr) ∧ Quad wr yb (.int .i64 (f (0)).F) (.int .i64 (f (0)).C) (.int .i64 (f (0)).A) (.int .i64 (f (0)).N))
        case atStart => exact ⟨0, by omega, by omega, rfl, B2, Y2⟩
        case round =>
          clear B2 Y2
          obtain ⟨x, hx, rfl, rfl, BX, QX⟩ := hrel
          by_cases hxl : x < xb
          · have hxm : decide ((x : Int) < (m : Int)) = true := decide_eq_true (by omega)
            have hin := Lib.hid (HE.out x hxl).1
            have hdp := (HE.out x hxl).2
            go_wp2_with fail
            try rw [show ((k + 1 : Nat) : Int) = (k : Int) + 1 from rfl]
            try rw [show decide (x < m) = true from decide_eq_true (by omega)]
            go_loopg [9, 8] (0) (fun gq q c wr => ∃ p : Nat, p ≤ 0 ∧ gq = (0) - p ∧ q = .int .i64 (p : Int) ∧ c = .int .i64 (dep f (0) x p : Int) ∧ Hid (Bel w wr) ∧ Quad wr yb (.int .i64 (f (0)).F) (.int .i64 (f (0)).C) (.int .i64 (f (0)).A) (.int .i64 (f (0)).N))
            case atStart => exact ⟨0, by omega, by omega, rfl, rfl, BX, QX⟩
            case round =>
              clear BX QX
              obtain ⟨p, hp, rfl, rfl, rfl, HB, HQ⟩ := hrel
              obtain ⟨W5, hW5, B0, Y0⟩ : ∃ W5, W5 = _ ∧ Hid (Bel w W5) ∧ Quad W5 yb (.int .i64 (f (0)).F) (.int .i64 (f (0)).C) (.int .i64 (f (0)).A) (.int .i64 (f (0)).N) := ⟨_, rfl, HB, HQ⟩
              subst hW5
              clear HB HQ
              have hdl := dep_le (f := f) (i := 0) (x := (x : Int)) p
              by_cases hpl : p < 0
              · exact absurd hpl (by omega)
              · obtain rfl : p = 0 := by omega
                have hdd : decide (3 ≤ dep f (0) x (0)) = false := decide_eq_false (by omega)
                have hdd2 : decide ((3 : Int) ≤ (dep f (0) x (0) : Int)) = false := decide_eq_false (by omega)
                have hpk : decide ((((0) : Nat) : Int) < (((0) : Nat) : Int)) = false := decide_eq_false (by omega)
                go_wp2_with fail
                go_roundg (m - (x + 1))
                case measure => omega
                case rel => exact ⟨x + 1, by omega, rfl, by go_num, B0, Y0⟩
          · obtain rfl : x = xb := by omega
            have hxm : decide ((x : Int) < (m : Int)) = true := decide_eq_true (by omega)
            rcases inn_first f (0) x (0) with hin0 | ⟨j, hj, hin0, hx1, hx2, hnw⟩
            · have hd3 : 3 ≤ dep f (0) x (0) := Nat.le_of_not_lt (fun h => hbe ⟨hin0, h⟩)
              have hin := Lib.hid hin0
              clear hbe hin0
              go_wp2_with fail
              try rw [show ((k + 1 : Nat) : Int) = (k : Int) + 1 from rfl]
              try rw [show decide (x < m) = true from decide_eq_true (by omega)]
              go_loopg [9, 8] (0) (fun gq q c wr => ∃ p : Nat, p ≤ 0 ∧ gq = (0) - p ∧ q = .int .i64 (p : Int) ∧ c = .int .i64 (dep f (0) x p : Int) ∧ Hid (Bel w wr) ∧ Quad wr yb (.int .i64 (f (0)).F) (.int .i64 (f (0)).C) (.int .i64 (f (0)).A) (.int .i64 (f (0)).N))
              case atStart => exact ⟨0, by omega, by omega, rfl, rfl, BX, QX⟩
              case round =>
                clear BX QX
                obtain ⟨p, hp, rfl, rfl, rfl, HB, HQ⟩ := hrel
                obtain ⟨W5, hW5, B0, Y0⟩ : ∃ W5, W5 = _ ∧ Hid (Bel w W5) ∧ Quad W5 yb (.int .i64 (f (0)).F) (.int .i64 (f (0)).C) (.int .i64 (f (0)).A) (.int .i64 (f (0)).N) := ⟨_, rfl, HB, HQ⟩
                subst hW5
                clear HB HQ
                have hdl := dep_le (f := f) (i := 0) (x := (x : Int)) p
                by_cases hpl : p < 0
                · exact absurd hpl (by omega)
                · obtain rfl : p = 0 := by omega
                  have hdd : decide (3 ≤ dep f (0) x (0)) = true := decide_eq_true hd3
                  have hdd2 : decide ((3 : Int) ≤ (dep f (0) x (0) : Int)) = true := decide_eq_true (by omega)
                  have hpk : decide ((((0) : Nat) : Int) < (((0) : Nat) : Int)) = false := decide_eq_false (by omega)
                  go_wp2_with fail
                  go_ret
                  exact ⟨rfl, B0.out.out⟩
            · exact absurd hj (by omega)
      · have hoa : ¬ (f (k + 1)).after (f k) := fun h => ho0 ⟨by omega, h⟩
        clear ho0
        have HE0 := fun (h : ∀ x : Nat, x < m → evOk f (k + 1) x) => hp0 ((okP_of_events hr.out (fun j hj => HMO.out j hj)).2 (fun x x0 x1 => by
          obtain ⟨y, rfl⟩ := Int.eq_ofNat_of_zero_le x0
          exact h y (by omega)))
        obtain ⟨xb, hxb, HE, hbe⟩ : ∃ x : Nat, x < m ∧ (∀ y : Nat, y < x → evOk f (k + 1) y) ∧ ¬ evOk f (k + 1) x := by
          rcases ev_first f (k + 1) m with h | h
          · exact absurd h HE0
          · exact h
        replace HE := Lib.hid HE
        have HBz := Lib.hid B0.out.size
        clear hp0 HE0
        obtain ⟨b, off, rfl, c0, c1, c2, c3⟩ := HT.out.up B0.out.out (k + 1) (by omega)
        obtain ⟨b', off', e, d0, d1, d2, d3⟩ := HT.out.up B0.out.out k (by omega)
        cases e
        have hkn : decide (((k + 1 : Nat) : Int) < (n : Int)) = true := decide_eq_true (by omega)
        have hkn2 : decide ((k : Int) + 1 < (n : Int)) = true := decide_eq_true (by omega)
        have hkp : decide ((0 : Int) < (k : Int) + 1) = true := decide_eq_true (by omega)
        have hkq : decide ((0 : Int) < ((k + 1 : Nat) : Int)) = true := decide_eq_true (by omega)
        have hr1 := hr.out
        unfold Tp.inR at hr1
        have q0 : decide ((f (k + 1)).C < 1) = false := decide_eq_false (by omega)
        have q1 : decide ((m : Int) < (f (k + 1)).C) = false := decide_eq_false (by omega)
        have q2 : decide ((f (k + 1)).F < 0) = false := decide_eq_false (by omega)
        have q3 : decide ((m : Int) - (f (k + 1)).C < (f (k + 1)).F) = false := decide_eq_false (by omega)
        have q4 : decide ((f (k + 1)).A < 1) = false := decide_eq_false (by omega)
        have q5 : decide (32 < (f (k + 1)).A) = false := decide_eq_false (by omega)
        have q6 : decide ((f (k + 1)).N < 1) = false := decide_eq_false (by omega)
        have q7 : decide (32 < (f (k + 1)).N) = false := decide_eq_false (by omega)
        have q8 : ((f (k + 1)).A == (f (k + 1)).N) = false := by simp; omega
        have z0 : 1 ≤ (f (k + 1)).C := by omega
        have z1 : (f (k + 1)).C ≤ (m : Int) := by omega
        clear hr1
        have hcm : decide ((f (k + 1)).after (f k)) = false := decide_eq_false hoa
        clear hoa
        have B1 := Lib.hid (B0.out.alloc (.cells #[.int .i64 (f (k + 1)).F, .int .i64 (f (k + 1)).C, .int .i64 (f (k + 1)).A, .int .i64 (f (k + 1)).N] 39))
        have Y1 := Quad.new W0 (.int .i64 (f (k + 1)).F) (.int .i64 (f (k + 1)).C) (.int .i64 (f (k + 1)).A) (.int .i64 (f (k + 1)).N) 39 _ rfl
        clear B0  
        obtain ⟨yf0, yf1, yf2, yf3, yf4, yf5, yf6, yf7, yf8⟩ := id Y1
        replace d0 := cell_up ((Below.refl _ _).alloc (Nat.le_refl _) (.cells #[.int .i64 (f (k + 1)).F, .int .i64 (f (k + 1)).C, .int .i64 (f (k + 1)).A, .int .i64 (f (k + 1)).N] 39)) d0
        replace d1 := cell_up ((Below.refl _ _).alloc (Nat.le_refl _) (.cells #[.int .i64 (f (k + 1)).F, .int .i64 (f (k + 1)).C, .int .i64 (f (k + 1)).A, .int .i64 (f (k + 1)).N] 39)) d1
        replace d2 := cell_up ((Below.refl _ _).alloc (Nat.le_refl _) (.cells #[.int .i64 (f (k + 1)).F, .int .i64 (f (k + 1)).C, .int .i64 (f (k + 1)).A, .int .i64 (f (k + 1)).N] 39)) d2
        replace d3 := cell_up ((Below.refl _ _).alloc (Nat.le_refl _) (.cells #[.int .i64 (f (k + 1)).F, .int .i64 (f (k + 1)).C, .int .i64 (f (k + 1)).A, .int .i64 (f (k + 1)).N] 39)) d3
        go_wp2_with fail
        clear yf0 yf1 yf2 yf3 yf4 yf5 yf6 yf7 yf8
        refine Qt.regionAll (by kernel_rfl) (by kernel_rfl) ?_
        intro T f_ F hne
        have RB := Lib.hid (fun g => B1.out.up (F.below g))
        have RY := fun g => Y1.up (F.below g)
        have RY0 := fun g => (RY g).c0
        have RY1 := fun g => (RY g).c1
        have RY2 := fun g => (RY g).c2
        have RY3 := fun g => (RY g).c3
        have R_d0 := fun g => cell_up (F.below g) d0
        have R_d1 := fun g => cell_up (F.below g) d1
        have R_d2 := fun g => cell_up (F.below g) d2
        have R_d3 := fun g => cell_up (F.below g) d3
        repeat (go_big_quiet_step (first | (go_at_call 38; with_reducible exact F.call (after_ok (f (k + 1)) (f k) _))))
        refine wpQuiet_nil ?_
        rintro _ ⟨gT, rfl⟩
        have B2 := Lib.hid (RB.out gT)
        have Y2 := RY gT
        have n_d0 := R_d0 gT
        have n_d1 := R_d1 gT
        have n_d2 := R_d2 gT
        have n_d3 := R_d3 gT
        clear F RB hne RY RY0 RY1 RY2 RY3 B1 Y1 R_d0 d0 R_d1 d1 R_d2 d2 R_d3 d3
        generalize f_ gT = w2 at *
        clear f_
        have d0 := n_d0
        clear n_d0
        have d1 := n_d1
        clear n_d1
        have d2 := n_d2
        clear n_d2
        have d3 := n_d3
        clear n_d3
        obtain ⟨yf0, yf1, yf2, yf3, yf4, yf5, yf6, yf7, yf8⟩ := id Y2
        go_wp2_with fail
        have hyb : w.heap.size ≤ W0.heap.size := HBz.out
        generalize hybe : W0.heap.size = yb at *
        have hsk := Lib.hid (Sm.of hr.out (by omega))
        try rw [show ((k + 1 : Nat) : Int) = (k : Int) + 1 from rfl]
        try rw [hcm]
        go_loopg [7] m (fun ge y wr => ∃ x : Nat, x ≤ xb ∧ ge = m - x ∧ y = .int .i64 (x : Int) ∧ Hid (Bel w wr) ∧ Quad wr yb (.int .i64 (f (k + 1)).F) (.int .i64 (f (k + 1)).C) (.int .i64 (f (k + 1)).A) (.int .i64 (f (k + 1)).N))
        case atStart => exact ⟨0, by omega, by omega, rfl, B2, Y2⟩
        case round =>
          clear B2 Y2
          obtain ⟨x, hx, rfl, rfl, BX, QX⟩ := hrel
          by_cases hxl : x < xb
          · have hxm : decide ((x : Int) < (m : Int)) = true := decide_eq_true (by omega)
            have hin := Lib.hid (HE.out x hxl).1
            have hdp := (HE.out x hxl).2
            go_wp2_with fail
            try rw [show ((k + 1 : Nat) : Int) = (k : Int) + 1 from rfl]
            try rw [show decide (x < m) = true from decide_eq_true (by omega)]
            go_loopg [9, 8] (k + 1) (fun gq q c wr => ∃ p : Nat, p ≤ k + 1 ∧ gq = (k + 1) - p ∧ q = .int .i64 (p : Int) ∧ c = .int .i64 (dep f (k + 1) x p : Int) ∧ Hid (Bel w wr) ∧ Quad wr yb (.int .i64 (f (k + 1)).F) (.int .i64 (f (k + 1)).C) (.int .i64 (f (k + 1)).A) (.int .i64 (f (k + 1)).N))
            case atStart => exact ⟨0, by omega, by omega, rfl, rfl, BX, QX⟩
            case round =>
              clear BX QX
              obtain ⟨p, hp, rfl, rfl, rfl, HB, HQ⟩ := hrel
              obtain ⟨W5, hW5, B0, Y0⟩ : ∃ W5, W5 = _ ∧ Hid (Bel w W5) ∧ Quad W5 yb (.int .i64 (f (k + 1)).F) (.int .i64 (f (k + 1)).C) (.int .i64 (f (k + 1)).A) (.int .i64 (f (k + 1)).N) := ⟨_, rfl, HB, HQ⟩
              subst hW5
              clear HB HQ
              have hdl := dep_le (f := f) (i := k + 1) (x := (x : Int)) p
              by_cases hpl : p < k + 1
              · have hpk : decide ((p : Int) < ((k + 1 : Nat) : Int)) = true := decide_eq_true (by omega)
                have hpk2 : p < k + 1 := by omega
                obtain ⟨b', off', e, p0, p1, p2, p3⟩ := HT.out.up B0.out.out p (by omega)
                cases e
                have hsp := Lib.hid (HSM.out p (by omega))
                by_cases hx1 : (f (k + 1)).has x
                · have hx1d : decide ((f (k + 1)).has x) = true := decide_eq_true hx1
                  by_cases hx2 : (f p).has x
                  · have hx2d : decide ((f p).has x) = true := decide_eq_true hx2
                    have hwd : decide (wi (f (k + 1)) (f p)) = true := decide_eq_true (hin.out p hpl hx1 hx2)
                    have HD := Lib.hid (dep_both hx1 hx2)
                    clear hx1 hx2
                    generalize dep f (k + 1) x p = dd at *
                    obtain ⟨yf0, yf1, yf2, yf3, yf4, yf5, yf6, yf7, yf8⟩ := id Y0
                    go_wp2_with fail
                    clear yf0 yf1 yf2 yf3 yf4 yf5 yf6 yf7 yf8
                    refine (in_ok (f (k + 1)) x _ hsk.out).mono ?_
                    rintro e w1 ⟨rfl, hb⟩
                    replace p0 := cell_up hb p0
                    replace p1 := cell_up hb p1
                    replace p2 := cell_up hb p2
                    replace p3 := cell_up hb p3
                    rw [hx1d]
                    have B1 := Lib.hid (B0.out.up hb)
                    have Y1 := Y0.up hb
                    clear hb B0  Y0
                    obtain ⟨yf0, yf1, yf2, yf3, yf4, yf5, yf6, yf7, yf8⟩ := id Y1
                    go_wp2_with fail
                    clear yf0 yf1 yf2 yf3 yf4 yf5 yf6 yf7 yf8
                    refine (in_ok (f p) x _ hsp.out).mono ?_
                    rintro e w2 ⟨rfl, hb⟩
                    replace p0 := cell_up hb p0
                    replace p1 := cell_up hb p1
                    replace p2 := cell_up hb p2
                    replace p3 := cell_up hb p3
                    rw [hx2d]
                    have B2 := Lib.hid (B1.out.up hb)
                    have Y2 := Y1.up hb
                    clear hb B1  Y1
                    obtain ⟨yf0, yf1, yf2, yf3, yf4, yf5, yf6, yf7, yf8⟩ := id Y2
                    go_wp2_with fail
                    clear yf0 yf1 yf2 yf3 yf4 yf5 yf6 yf7 yf8
                    refine Qt.regionAll (by kernel_rfl) (by kernel_rfl) ?_
                    intro T f_ F hne
                    have RB := Lib.hid (fun g => B2.out.up (F.below g))
                    have RY := fun g => Y2.up (F.below g)
                    have RY0 := fun g => (RY g).c0
                    have RY1 := fun g => (RY g).c1
                    have RY2 := fun g => (RY g).c2
                    have RY3 := fun g => (RY g).c3
                    have R_p0 := fun g => cell_up (F.below g) p0
                    have R_p1 := fun g => cell_up (F.below g) p1
                    have R_p2 := fun g => cell_up (F.below g) p2
                    have R_p3 := fun g => cell_up (F.below g) p3
                    repeat (go_big_quiet_step (first | (go_at_call 31; with_reducible exact F.call (within_ok (f (k + 1)) (f p) _ hsk.out hsp.out))))
                    refine wpQuiet_nil ?_
                    rintro _ ⟨gT, rfl⟩
                    have B3 := Lib.hid (RB.out gT)
                    have Y3 := RY gT
                    have n_p0 := R_p0 gT
                    have n_p1 := R_p1 gT
                    have n_p2 := R_p2 gT
                    have n_p3 := R_p3 gT
                    clear F RB hne RY RY0 RY1 RY2 RY3 B2 Y2 R_p0 p0 R_p1 p1 R_p2 p2 R_p3 p3
                    generalize f_ gT = w3 at *
                    clear f_
                    have p0 := n_p0
                    clear n_p0
                    have p1 := n_p1
                    clear n_p1
                    have p2 := n_p2
                    clear n_p2
                    have p3 := n_p3
                    clear n_p3
                    obtain ⟨yf0, yf1, yf2, yf3, yf4, yf5, yf6, yf7, yf8⟩ := id Y3
                    go_wp2_with fail
                    go_roundg ((k + 1) - (p + 1))
                    case measure => omega
                    case rel => first | exact ⟨p + 1, by omega, rfl, by go_num, by rw [HD.out] <;> go_num, B3, Y3⟩ | exact ⟨p + 1, by omega, by go_num, by rw [HD.out] <;> go_num, B3, Y3⟩
                  · have hx2d : decide ((f p).has x) = false := decide_eq_false hx2
                    have HD := Lib.hid (dep_skip (f := f) (i := k + 1) (q := p) (x := (x : Int)) (fun h => hx2 h.2))
                    clear hx1 hx2
                    generalize dep f (k + 1) x p = dd at *
                    obtain ⟨yf0, yf1, yf2, yf3, yf4, yf5, yf6, yf7, yf8⟩ := id Y0
                    go_wp2_with fail
                    clear yf0 yf1 yf2 yf3 yf4 yf5 yf6 yf7 yf8
                    refine (in_ok (f (k + 1)) x _ hsk.out).mono ?_
                    rintro e w1 ⟨rfl, hb⟩
                    replace p0 := cell_up hb p0
                    replace p1 := cell_up hb p1
                    replace p2 := cell_up hb p2
                    replace p3 := cell_up hb p3
                    rw [hx1d]
                    have B1 := Lib.hid (B0.out.up hb)
                    have Y1 := Y0.up hb
                    clear hb B0  Y0
                    obtain ⟨yf0, yf1, yf2, yf3, yf4, yf5, yf6, yf7, yf8⟩ := id Y1
                    go_wp2_with fail
                    clear yf0 yf1 yf2 yf3 yf4 yf5 yf6 yf7 yf8
                    refine (in_ok (f p) x _ hsp.out).mono ?_
                    rintro e w2 ⟨rfl, hb⟩
                    replace p0 := cell_up hb p0
                    replace p1 := cell_up hb p1
                    replace p2 := cell_up hb p2
                    replace p3 := cell_up hb p3
                    rw [hx2d]
                    have B2 := Lib.hid (B1.out.up hb)
                    have Y2 := Y1.up hb
                    clear hb B1  Y1
                    obtain ⟨yf0, yf1, yf2, yf3, yf4, yf5, yf6, yf7, yf8⟩ := id Y2
                    go_wp2_with fail
                    go_roundg ((k + 1) - (p + 1))
                    case measure => omega
                    case rel => first | exact ⟨p + 1, by omega, rfl, by go_num, by rw [HD.out] <;> go_num, B2, Y2⟩ | exact ⟨p + 1, by omega, by go_num, by rw [HD.out] <;> go_num, B2, Y2⟩
                · have hx1d : decide ((f (k + 1)).has x) = false := decide_eq_false hx1
                  have HD := Lib.hid (dep_skip (f := f) (i := k + 1) (q := p) (x := (x : Int)) (fun h => hx1 h.1))
                  clear hx1
                  generalize dep f (k + 1) x p = dd at *
                  obtain ⟨yf0, yf1, yf2, yf3, yf4, yf5, yf6, yf7, yf8⟩ := id Y0
                  go_wp2_with fail
                  clear yf0 yf1 yf2 yf3 yf4 yf5 yf6 yf7 yf8
                  refine (in_ok (f (k + 1)) x _ hsk.out).mono ?_
                  rintro e w1 ⟨rfl, hb⟩
                  replace p0 := cell_up hb p0
                  replace p1 := cell_up hb p1
                  replace p2 := cell_up hb p2
                  replace p3 := cell_up hb p3
                  rw [hx1d]
                  have B1 := Lib.hid (B0.out.up hb)
                  have Y1 := Y0.up hb
                  clear hb B0  Y0
                  obtain ⟨yf0, yf1, yf2, yf3, yf4, yf5, yf6, yf7, yf8⟩ := id Y1
                  go_wp2_with fail
                  go_roundg ((k + 1) - (p + 1))
                  case measure => omega
                  case rel => first | exact ⟨p + 1, by omega, rfl, by go_num, by rw [HD.out] <;> go_num, B1, Y1⟩ | exact ⟨p + 1, by omega, by go_num, by rw [HD.out] <;> go_num, B1, Y1⟩
              · obtain rfl : p = k + 1 := by omega
                have hdd : decide (3 ≤ dep f (k + 1) x (k + 1)) = false := decide_eq_false (by omega)
                have hdd2 : decide ((3 : Int) ≤ (dep f (k + 1) x (k + 1) : Int)) = false := decide_eq_false (by omega)
                have hpk : decide ((((k + 1) : Nat) : Int) < (((k + 1) : Nat) : Int)) = false := decide_eq_false (by omega)
                go_wp2_with fail
                go_roundg (m - (x + 1))
                case measure => omega
                case rel => exact ⟨x + 1, by omega, rfl, by go_num, B0, Y0⟩
          · obtain rfl : x = xb := by omega
            have hxm : decide ((x : Int) < (m : Int)) = true := decide_eq_true (by omega)
            rcases inn_first f (k + 1) x (k + 1) with hin0 | ⟨j, hj, hin0, hx1, hx2, hnw⟩
            · have hd3 : 3 ≤ dep f (k + 1) x (k + 1) := Nat.le_of_not_lt (fun h => hbe ⟨hin0, h⟩)
              have hin := Lib.hid hin0
              clear hbe hin0
              go_wp2_with fail
              try rw [show ((k + 1 : Nat) : Int) = (k : Int) + 1 from rfl]
              try rw [show decide (x < m) = true from decide_eq_true (by omega)]
              go_loopg [9, 8] (k + 1) (fun gq q c wr => ∃ p : Nat, p ≤ k + 1 ∧ gq = (k + 1) - p ∧ q = .int .i64 (p : Int) ∧ c = .int .i64 (dep f (k + 1) x p : Int) ∧ Hid (Bel w wr) ∧ Quad wr yb (.int .i64 (f (k + 1)).F) (.int .i64 (f (k + 1)).C) (.int .i64 (f (k + 1)).A) (.int .i64 (f (k + 1)).N))
              case atStart => exact ⟨0, by omega, by omega, rfl, rfl, BX, QX⟩
              case round =>
                clear BX QX
                obtain ⟨p, hp, rfl, rfl, rfl, HB, HQ⟩ := hrel
                obtain ⟨W5, hW5, B0, Y0⟩ : ∃ W5, W5 = _ ∧ Hid (Bel w W5) ∧ Quad W5 yb (.int .i64 (f (k + 1)).F) (.int .i64 (f (k + 1)).C) (.int .i64 (f (k + 1)).A) (.int .i64 (f (k + 1)).N) := ⟨_, rfl, HB, HQ⟩
                subst hW5
                clear HB HQ
                have hdl := dep_le (f := f) (i := k + 1) (x := (x : Int)) p
                by_cases hpl : p < k + 1
                · have hpk : decide ((p : Int) < ((k + 1 : Nat) : Int)) = true := decide_eq_true (by omega)
                  have hpk2 : p < k + 1 := by omega
                  obtain ⟨b', off', e, p0, p1, p2, p3⟩ := HT.out.up B0.out.out p (by omega)
                  cases e
                  have hsp := Lib.hid (HSM.out p (by omega))
                  by_cases hx1 : (f (k + 1)).has x
                  · have hx1d : decide ((f (k + 1)).has x) = true := decide_eq_true hx1
                    by_cases hx2 : (f p).has x
                    · have hx2d : decide ((f p).has x) = true := decide_eq_true hx2
                      have hwd : decide (wi (f (k + 1)) (f p)) = true := decide_eq_true (hin.out p hpl hx1 hx2)
                      have HD := Lib.hid (dep_both hx1 hx2)
                      clear hx1 hx2
                      generalize dep f (k + 1) x p = dd at *
                      obtain ⟨yf0, yf1, yf2, yf3, yf4, yf5, yf6, yf7, yf8⟩ := id Y0
                      go_wp2_with fail
                      clear yf0 yf1 yf2 yf3 yf4 yf5 yf6 yf7 yf8
                      refine (in_ok (f (k + 1)) x _ hsk.out).mono ?_
                      rintro e w1 ⟨rfl, hb⟩
                      replace p0 := cell_up hb p0
                      replace p1 := cell_up hb p1
                      replace p2 := cell_up hb p2
                      replace p3 := cell_up hb p3
                      rw [hx1d]
                      have B1 := Lib.hid (B0.out.up hb)
                      have Y1 := Y0.up hb
                      clear hb B0  Y0
                      obtain ⟨yf0, yf1, yf2, yf3, yf4, yf5, yf6, yf7, yf8⟩ := id Y1
                      go_wp2_with fail
                      clear yf0 yf1 yf2 yf3 yf4 yf5 yf6 yf7 yf8
                      refine (in_ok (f p) x _ hsp.out).mono ?_
                      rintro e w2 ⟨rfl, hb⟩
                      replace p0 := cell_up hb p0
                      replace p1 := cell_up hb p1
                      replace p2 := cell_up hb p2
                      replace p3 := cell_up hb p3
                      rw [hx2d]
                      have B2 := Lib.hid (B1.out.up hb)
                      have Y2 := Y1.up hb
                      clear hb B1  Y1
                      obtain ⟨yf0, yf1, yf2, yf3, yf4, yf5, yf6, yf7, yf8⟩ := id Y2
                      go_wp2_with fail
                      clear yf0 yf1 yf2 yf3 yf4 yf5 yf6 yf7 yf8
                      refine Qt.regionAll (by kernel_rfl) (by kernel_rfl) ?_
                      intro T f_ F hne
                      have RB := Lib.hid (fun g => B2.out.up (F.below g))
                      have RY := fun g => Y2.up (F.below g)
                      have RY0 := fun g => (RY g).c0
                      have RY1 := fun g => (RY g).c1
                      have RY2 := fun g => (RY g).c2
                      have RY3 := fun g => (RY g).c3
                      have R_p0 := fun g => cell_up (F.below g) p0
                      have R_p1 := fun g => cell_up (F.below g) p1
                      have R_p2 := fun g => cell_up (F.below g) p2
                      have R_p3 := fun g => cell_up (F.below g) p3
                      repeat (go_big_quiet_step (first | (go_at_call 31; with_reducible exact F.call (within_ok (f (k + 1)) (f p) _ hsk.out hsp.out))))
                      refine wpQuiet_nil ?_
                      rintro _ ⟨gT, rfl⟩
                      have B3 := Lib.hid (RB.out gT)
                      have Y3 := RY gT
                      have n_p0 := R_p0 gT
                      have n_p1 := R_p1 gT
                      have n_p2 := R_p2 gT
                      have n_p3 := R_p3 gT
                      clear F RB hne RY RY0 RY1 RY2 RY3 B2 Y2 R_p0 p0 R_p1 p1 R_p2 p2 R_p3 p3
                      generalize f_ gT = w3 at *
                      clear f_
                      have p0 := n_p0
                      clear n_p0
                      have p1 := n_p1
                      clear n_p1
                      have p2 := n_p2
                      clear n_p2
                      have p3 := n_p3
                      clear n_p3
                      obtain ⟨yf0, yf1, yf2, yf3, yf4, yf5, yf6, yf7, yf8⟩ := id Y3
                      go_wp2_with fail
                      go_roundg ((k + 1) - (p + 1))
                      case measure => omega
                      case rel => first | exact ⟨p + 1, by omega, rfl, by go_num, by rw [HD.out] <;> go_num, B3, Y3⟩ | exact ⟨p + 1, by omega, by go_num, by rw [HD.out] <;> go_num, B3, Y3⟩
                    · have hx2d : decide ((f p).has x) = false := decide_eq_false hx2
                      have HD := Lib.hid (dep_skip (f := f) (i := k + 1) (q := p) (x := (x : Int)) (fun h => hx2 h.2))
                      clear hx1 hx2
                      generalize dep f (k + 1) x p = dd at *
                      obtain ⟨yf0, yf1, yf2, yf3, yf4, yf5, yf6, yf7, yf8⟩ := id Y0
                      go_wp2_with fail
                      clear yf0 yf1 yf2 yf3 yf4 yf5 yf6 yf7 yf8
                      refine (in_ok (f (k + 1)) x _ hsk.out).mono ?_
                      rintro e w1 ⟨rfl, hb⟩
                      replace p0 := cell_up hb p0
                      replace p1 := cell_up hb p1
                      replace p2 := cell_up hb p2
                      replace p3 := cell_up hb p3
                      rw [hx1d]
                      have B1 := Lib.hid (B0.out.up hb)
                      have Y1 := Y0.up hb
                      clear hb B0  Y0
                      obtain ⟨yf0, yf1, yf2, yf3, yf4, yf5, yf6, yf7, yf8⟩ := id Y1
                      go_wp2_with fail
                      clear yf0 yf1 yf2 yf3 yf4 yf5 yf6 yf7 yf8
                      refine (in_ok (f p) x _ hsp.out).mono ?_
                      rintro e w2 ⟨rfl, hb⟩
                      replace p0 := cell_up hb p0
                      replace p1 := cell_up hb p1
                      replace p2 := cell_up hb p2
                      replace p3 := cell_up hb p3
                      rw [hx2d]
                      have B2 := Lib.hid (B1.out.up hb)
                      have Y2 := Y1.up hb
                      clear hb B1  Y1
                      obtain ⟨yf0, yf1, yf2, yf3, yf4, yf5, yf6, yf7, yf8⟩ := id Y2
                      go_wp2_with fail
                      go_roundg ((k + 1) - (p + 1))
                      case measure => omega
                      case rel => first | exact ⟨p + 1, by omega, rfl, by go_num, by rw [HD.out] <;> go_num, B2, Y2⟩ | exact ⟨p + 1, by omega, by go_num, by rw [HD.out] <;> go_num, B2, Y2⟩
                  · have hx1d : decide ((f (k + 1)).has x) = false := decide_eq_false hx1
                    have HD := Lib.hid (dep_skip (f := f) (i := k + 1) (q := p) (x := (x : Int)) (fun h => hx1 h.1))
                    clear hx1
                    generalize dep f (k + 1) x p = dd at *
                    obtain ⟨yf0, yf1, yf2, yf3, yf4, yf5, yf6, yf7, yf8⟩ := id Y0
                    go_wp2_with fail
                    clear yf0 yf1 yf2 yf3 yf4 yf5 yf6 yf7 yf8
                    refine (in_ok (f (k + 1)) x _ hsk.out).mono ?_
                    rintro e w1 ⟨rfl, hb⟩
                    replace p0 := cell_up hb p0
                    replace p1 := cell_up hb p1
                    replace p2 := cell_up hb p2
                    replace p3 := cell_up hb p3
                    rw [hx1d]
                    have B1 := Lib.hid (B0.out.up hb)
                    have Y1 := Y0.up hb
                    clear hb B0  Y0
                    obtain ⟨yf0, yf1, yf2, yf3, yf4, yf5, yf6, yf7, yf8⟩ := id Y1
                    go_wp2_with fail
                    go_roundg ((k + 1) - (p + 1))
                    case measure => omega
                    case rel => first | exact ⟨p + 1, by omega, rfl, by go_num, by rw [HD.out] <;> go_num, B1, Y1⟩ | exact ⟨p + 1, by omega, by go_num, by rw [HD.out] <;> go_num, B1, Y1⟩
                · obtain rfl : p = k + 1 := by omega
                  have hdd : decide (3 ≤ dep f (k + 1) x (k + 1)) = true := decide_eq_true hd3
                  have hdd2 : decide ((3 : Int) ≤ (dep f (k + 1) x (k + 1) : Int)) = true := decide_eq_true (by omega)
                  have hpk : decide ((((k + 1) : Nat) : Int) < (((k + 1) : Nat) : Int)) = false := decide_eq_false (by omega)
                  go_wp2_with fail
                  go_ret
                  exact ⟨rfl, B0.out.out⟩
            · have hin := Lib.hid hin0
              have hj1 := Lib.hid hx1
              have hj2 := Lib.hid hx2
              have hj3 := Lib.hid hnw
              clear hbe hin0 hx1 hx2 hnw
              go_wp2_with fail
              try rw [show ((k + 1 : Nat) : Int) = (k : Int) + 1 from rfl]
              try rw [show decide (x < m) = true from decide_eq_true (by omega)]
              go_loopg [9, 8] (k + 1) (fun gq q c wr => ∃ p : Nat, p ≤ j ∧ gq = (k + 1) - p ∧ q = .int .i64 (p : Int) ∧ c = .int .i64 (dep f (k + 1) x p : Int) ∧ Hid (Bel w wr) ∧ Quad wr yb (.int .i64 (f (k + 1)).F) (.int .i64 (f (k + 1)).C) (.int .i64 (f (k + 1)).A) (.int .i64 (f (k + 1)).N))
              case atStart => exact ⟨0, by omega, by omega, rfl, rfl, BX, QX⟩
              case round =>
                clear BX QX
                obtain ⟨p, hp, rfl, rfl, rfl, HB, HQ⟩ := hrel
                obtain ⟨W5, hW5, B0, Y0⟩ : ∃ W5, W5 = _ ∧ Hid (Bel w W5) ∧ Quad W5 yb (.int .i64 (f (k + 1)).F) (.int .i64 (f (k + 1)).C) (.int .i64 (f (k + 1)).A) (.int .i64 (f (k + 1)).N) := ⟨_, rfl, HB, HQ⟩
                subst hW5
                clear HB HQ
                have hdl := dep_le (f := f) (i := k + 1) (x := (x : Int)) p
                by_cases hpl : p < j
                · have hpk : decide ((p : Int) < ((k + 1 : Nat) : Int)) = true := decide_eq_true (by omega)
                  have hpk2 : p < k + 1 := by omega
                  obtain ⟨b', off', e, p0, p1, p2, p3⟩ := HT.out.up B0.out.out p (by omega)
                  cases e
                  have hsp := Lib.hid (HSM.out p (by omega))
                  by_cases hx1 : (f (k + 1)).has x
                  · have hx1d : decide ((f (k + 1)).has x) = true := decide_eq_true hx1
                    by_cases hx2 : (f p).has x
                    · have hx2d : decide ((f p).has x) = true := decide_eq_true hx2
                      have hwd : decide (wi (f (k + 1)) (f p)) = true := decide_eq_true (hin.out p hpl hx1 hx2)
                      have HD := Lib.hid (dep_both hx1 hx2)
                      clear hx1 hx2
                      generalize dep f (k + 1) x p = dd at *
                      obtain ⟨yf0, yf1, yf2, yf3, yf4, yf5, yf6, yf7, yf8⟩ := id Y0
                      go_wp2_with fail
                      clear yf0 yf1 yf2 yf3 yf4 yf5 yf6 yf7 yf8
                      refine (in_ok (f (k + 1)) x _ hsk.out).mono ?_
                      rintro e w1 ⟨rfl, hb⟩
                      replace p0 := cell_up hb p0
                      replace p1 := cell_up hb p1
                      replace p2 := cell_up hb p2
                      replace p3 := cell_up hb p3
                      rw [hx1d]
                      have B1 := Lib.hid (B0.out.up hb)
                      have Y1 := Y0.up hb
                      clear hb B0  Y0
                      obtain ⟨yf0, yf1, yf2, yf3, yf4, yf5, yf6, yf7, yf8⟩ := id Y1
                      go_wp2_with fail
                      clear yf0 yf1 yf2 yf3 yf4 yf5 yf6 yf7 yf8
                      refine (in_ok (f p) x _ hsp.out).mono ?_
                      rintro e w2 ⟨rfl, hb⟩
                      replace p0 := cell_up hb p0
                      replace p1 := cell_up hb p1
                      replace p2 := cell_up hb p2
                      replace p3 := cell_up hb p3
                      rw [hx2d]
                      have B2 := Lib.hid (B1.out.up hb)
                      have Y2 := Y1.up hb
                      clear hb B1  Y1
                      obtain ⟨yf0, yf1, yf2, yf3, yf4, yf5, yf6, yf7, yf8⟩ := id Y2
                      go_wp2_with fail
                      clear yf0 yf1 yf2 yf3 yf4 yf5 yf6 yf7 yf8
                      refine Qt.regionAll (by kernel_rfl) (by kernel_rfl) ?_
                      intro T f_ F hne
                      have RB := Lib.hid (fun g => B2.out.up (F.below g))
                      have RY := fun g => Y2.up (F.below g)
                      have RY0 := fun g => (RY g).c0
                      have RY1 := fun g => (RY g).c1
                      have RY2 := fun g => (RY g).c2
                      have RY3 := fun g => (RY g).c3
                      have R_p0 := fun g => cell_up (F.below g) p0
                      have R_p1 := fun g => cell_up (F.below g) p1
                      have R_p2 := fun g => cell_up (F.below g) p2
                      have R_p3 := fun g => cell_up (F.below g) p3
                      repeat (go_big_quiet_step (first | (go_at_call 31; with_reducible exact F.call (within_ok (f (k + 1)) (f p) _ hsk.out hsp.out))))
                      refine wpQuiet_nil ?_
                      rintro _ ⟨gT, rfl⟩
                      have B3 := Lib.hid (RB.out gT)
                      have Y3 := RY gT
                      have n_p0 := R_p0 gT
                      have n_p1 := R_p1 gT
                      have n_p2 := R_p2 gT
                      have n_p3 := R_p3 gT
                      clear F RB hne RY RY0 RY1 RY2 RY3 B2 Y2 R_p0 p0 R_p1 p1 R_p2 p2 R_p3 p3
                      generalize f_ gT = w3 at *
                      clear f_
                      have p0 := n_p0
                      clear n_p0
                      have p1 := n_p1
                      clear n_p1
                      have p2 := n_p2
                      clear n_p2
                      have p3 := n_p3
                      clear n_p3
                      obtain ⟨yf0, yf1, yf2, yf3, yf4, yf5, yf6, yf7, yf8⟩ := id Y3
                      go_wp2_with fail
                      go_roundg ((k + 1) - (p + 1))
                      case measure => omega
                      case rel => first | exact ⟨p + 1, by omega, rfl, by go_num, by rw [HD.out] <;> go_num, B3, Y3⟩ | exact ⟨p + 1, by omega, by go_num, by rw [HD.out] <;> go_num, B3, Y3⟩
                    · have hx2d : decide ((f p).has x) = false := decide_eq_false hx2
                      have HD := Lib.hid (dep_skip (f := f) (i := k + 1) (q := p) (x := (x : Int)) (fun h => hx2 h.2))
                      clear hx1 hx2
                      generalize dep f (k + 1) x p = dd at *
                      obtain ⟨yf0, yf1, yf2, yf3, yf4, yf5, yf6, yf7, yf8⟩ := id Y0
                      go_wp2_with fail
                      clear yf0 yf1 yf2 yf3 yf4 yf5 yf6 yf7 yf8
                      refine (in_ok (f (k + 1)) x _ hsk.out).mono ?_
                      rintro e w1 ⟨rfl, hb⟩
                      replace p0 := cell_up hb p0
                      replace p1 := cell_up hb p1
                      replace p2 := cell_up hb p2
                      replace p3 := cell_up hb p3
                      rw [hx1d]
                      have B1 := Lib.hid (B0.out.up hb)
                      have Y1 := Y0.up hb
                      clear hb B0  Y0
                      obtain ⟨yf0, yf1, yf2, yf3, yf4, yf5, yf6, yf7, yf8⟩ := id Y1
                      go_wp2_with fail
                      clear yf0 yf1 yf2 yf3 yf4 yf5 yf6 yf7 yf8
                      refine (in_ok (f p) x _ hsp.out).mono ?_
                      rintro e w2 ⟨rfl, hb⟩
                      replace p0 := cell_up hb p0
                      replace p1 := cell_up hb p1
                      replace p2 := cell_up hb p2
                      replace p3 := cell_up hb p3
                      rw [hx2d]
                      have B2 := Lib.hid (B1.out.up hb)
                      have Y2 := Y1.up hb
                      clear hb B1  Y1
                      obtain ⟨yf0, yf1, yf2, yf3, yf4, yf5, yf6, yf7, yf8⟩ := id Y2
                      go_wp2_with fail
                      go_roundg ((k + 1) - (p + 1))
                      case measure => omega
                      case rel => first | exact ⟨p + 1, by omega, rfl, by go_num, by rw [HD.out] <;> go_num, B2, Y2⟩ | exact ⟨p + 1, by omega, by go_num, by rw [HD.out] <;> go_num, B2, Y2⟩
                  · have hx1d : decide ((f (k + 1)).has x) = false := decide_eq_false hx1
                    have HD := Lib.hid (dep_skip (f := f) (i := k + 1) (q := p) (x := (x : Int)) (fun h => hx1 h.1))
                    clear hx1
                    generalize dep f (k + 1) x p = dd at *
                    obtain ⟨yf0, yf1, yf2, yf3, yf4, yf5, yf6, yf7, yf8⟩ := id Y0
                    go_wp2_with fail
                    clear yf0 yf1 yf2 yf3 yf4 yf5 yf6 yf7 yf8
                    refine (in_ok (f (k + 1)) x _ hsk.out).mono ?_
                    rintro e w1 ⟨rfl, hb⟩
                    replace p0 := cell_up hb p0
                    replace p1 := cell_up hb p1
                    replace p2 := cell_up hb p2
                    replace p3 := cell_up hb p3
                    rw [hx1d]
                    have B1 := Lib.hid (B0.out.up hb)
                    have Y1 := Y0.up hb
                    clear hb B0  Y0
                    obtain ⟨yf0, yf1, yf2, yf3, yf4, yf5, yf6, yf7, yf8⟩ := id Y1
                    go_wp2_with fail
                    go_roundg ((k + 1) - (p + 1))
                    case measure => omega
                    case rel => first | exact ⟨p + 1, by omega, rfl, by go_num, by rw [HD.out] <;> go_num, B1, Y1⟩ | exact ⟨p + 1, by omega, by go_num, by rw [HD.out] <;> go_num, B1, Y1⟩
                · obtain rfl : p = j := by omega
                  have hpk : decide ((p : Int) < ((k + 1 : Nat) : Int)) = true := decide_eq_true (by omega)
                  have hpk2 : p < k + 1 := by omega
                  obtain ⟨b', off', e, p0, p1, p2, p3⟩ := HT.out.up B0.out.out p (by omega)
                  cases e
                  have hsp := Lib.hid (HSM.out p (by omega))
                  have hx1d : decide ((f (k + 1)).has x) = true := decide_eq_true hj1.out
                  have hx2d : decide ((f p).has x) = true := decide_eq_true hj2.out
                  have hwd : decide (wi (f (k + 1)) (f p)) = false := decide_eq_false hj3.out
                  clear hj1 hj2 hj3
                  generalize dep f (k + 1) x p = dd at *
                  obtain ⟨yf0, yf1, yf2, yf3, yf4, yf5, yf6, yf7, yf8⟩ := id Y0
                  go_wp2_with fail
                  clear yf0 yf1 yf2 yf3 yf4 yf5 yf6 yf7 yf8
                  refine (in_ok (f (k + 1)) x _ hsk.out).mono ?_
                  rintro e w1 ⟨rfl, hb⟩
                  replace p0 := cell_up hb p0
                  replace p1 := cell_up hb p1
                  replace p2 := cell_up hb p2
                  replace p3 := cell_up hb p3
                  rw [hx1d]
                  have B1 := Lib.hid (B0.out.up hb)
                  have Y1 := Y0.up hb
                  clear hb B0  Y0
                  obtain ⟨yf0, yf1, yf2, yf3, yf4, yf5, yf6, yf7, yf8⟩ := id Y1
                  go_wp2_with fail
                  clear yf0 yf1 yf2 yf3 yf4 yf5 yf6 yf7 yf8
                  refine (in_ok (f p) x _ hsp.out).mono ?_
                  rintro e w2 ⟨rfl, hb⟩
                  replace p0 := cell_up hb p0
                  replace p1 := cell_up hb p1
                  replace p2 := cell_up hb p2
                  replace p3 := cell_up hb p3
                  rw [hx2d]
                  have B2 := Lib.hid (B1.out.up hb)
                  have Y2 := Y1.up hb
                  clear hb B1  Y1
                  obtain ⟨yf0, yf1, yf2, yf3, yf4, yf5, yf6, yf7, yf8⟩ := id Y2
                  go_wp2_with fail
                  clear yf0 yf1 yf2 yf3 yf4 yf5 yf6 yf7 yf8
                  refine Qt.regionAll (by kernel_rfl) (by kernel_rfl) ?_
                  intro T f_ F hne
                  have RB := Lib.hid (fun g => B2.out.up (F.below g))
                  have RY := fun g => Y2.up (F.below g)
                  have RY0 := fun g => (RY g).c0
                  have RY1 := fun g => (RY g).c1
                  have RY2 := fun g => (RY g).c2
                  have RY3 := fun g => (RY g).c3
                  have R_p0 := fun g => cell_up (F.below g) p0
                  have R_p1 := fun g => cell_up (F.below g) p1
                  have R_p2 := fun g => cell_up (F.below g) p2
                  have R_p3 := fun g => cell_up (F.below g) p3
                  repeat (go_big_quiet_step (first | (go_at_call 31; with_reducible exact F.call (within_ok (f (k + 1)) (f p) _ hsk.out hsp.out))))
                  refine wpQuiet_nil ?_
                  rintro _ ⟨gT, rfl⟩
                  have B3 := Lib.hid (RB.out gT)
                  have Y3 := RY gT
                  have n_p0 := R_p0 gT
                  have n_p1 := R_p1 gT
                  have n_p2 := R_p2 gT
                  have n_p3 := R_p3 gT
                  clear F RB hne RY RY0 RY1 RY2 RY3 B2 Y2 R_p0 p0 R_p1 p1 R_p2 p2 R_p3 p3
                  generalize f_ gT = w3 at *
                  clear f_
                  have p0 := n_p0
                  clear n_p0
                  have p1 := n_p1
                  clear n_p1
                  have p2 := n_p2
                  clear n_p2
                  have p3 := n_p3
                  clear n_p3
                  obtain ⟨yf0, yf1, yf2, yf3, yf4, yf5, yf6, yf7, yf8⟩ := id Y3
                  go_wp2_with fail
                  go_ret
                  exact ⟨rfl, B3.out.out⟩
end Go.Proofs.Ytidggmfgbcmklaa
