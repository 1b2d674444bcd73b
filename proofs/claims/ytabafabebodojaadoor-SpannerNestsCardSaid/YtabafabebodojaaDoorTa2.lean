/- Spans: law Nests. -/
import Derived.Test.YtabafabebodojaaDoorSq
import Derived.Test.YtabafabebodojaaDoorSt
import Derived.Test.YtabafabebodojaaDoorSu
import Derived.Test.YtabafabebodojaaDoorNa2
import Derived.Test.YtabafabebodojaaDoorQg
import Derived.Test.YtabafabebodojaaDoorQx
import Derived.Deep.CutBlock
import Derived.Deep.CutRange
import Derived.Deep.DeepCutAuto
namespace Go.Proofs.YtabafabebodojaaDoor
open Go.RowKit
set_option linter.unusedVariables false
set_option linter.unusedSimpArgs false

theorem allocRS (w : World) : (Instr.alloc 25 true (.tuple #[])).run Tryd.prog w = .ok (.pointer (some ⟨w.heap.size, 0, none⟩)) (w.alloc (.cells [.int .i64 0, .int .i64 0, .int .i64 0, .int .i64 0, .int .i64 0, .int .i64 0, .int .i64 0, .int .i64 0, .int .i64 0].toArray 25)) := by
  simp [go_sem]
theorem infoRS1 : (Tryd.prog.info? 25).map (·.size) = some 9 := by kernel_rfl
theorem Non.of_range {w : World} {b : Nat} {x0 x1 x2 x3 x4 x5 x6 x7 x8 : Value} (hl : b < w.heap.size) (h : w.rangeAt b 0 [x0, x1, x2, x3, x4, x5, x6, x7, x8]) (ht : w.there b 0 9) : Non w b x0 x1 x2 x3 x4 x5 x6 x7 x8 := by
  have a0 := h 0 x0 rfl
  have b0 := (ht 0 (by omega)).2
  have a1 := h 1 x1 rfl
  have b1 := (ht 1 (by omega)).2
  have a2 := h 2 x2 rfl
  have b2 := (ht 2 (by omega)).2
  have a3 := h 3 x3 rfl
  have b3 := (ht 3 (by omega)).2
  have a4 := h 4 x4 rfl
  have b4 := (ht 4 (by omega)).2
  have a5 := h 5 x5 rfl
  have b5 := (ht 5 (by omega)).2
  have a6 := h 6 x6 rfl
  have b6 := (ht 6 (by omega)).2
  have a7 := h 7 x7 rfl
  have b7 := (ht 7 (by omega)).2
  have a8 := h 8 x8 rfl
  have b8 := (ht 8 (by omega)).2
  simp only [Nat.zero_add] at *
  exact ⟨hl, a0, a1, a2, a3, a4, a5, a6, a7, a8, b0, b1, b2, b3, b4, b5, b6, b7, b8⟩
theorem er_all {f : Nat → Sp} {n : Nat} {r1 : Int} (h : fst f n 0 = (r1, 0)) : ∀ k, k < n → er f k = 0 := by
  rcases first_bad f n with hg | ⟨j, hj, hg, hb⟩
  · exact hg
  · rw [fst_bad (j := j) n 0 (by omega) (by omega) (fun t _ ht => hg t ht) hb] at h
    exact absurd (congrArg Prod.snd h) hb
set_option maxRecDepth 100000 in
set_option maxHeartbeats 2000000 in
theorem nests_many (f : Nat → Sp) (n cap : Nat) (ad : Option Addr) (p : Pl) (w : World) (hk : KT w) (h : 12 < n) :
    Calls Tryd.prog 7 #[.slice ad n cap, .agg #[.int .i64 p.m, .int .i64 p.a, .int .i64 p.s, .int .i64 p.v]] w fun e w' => e = .returned (.bool true) ∧ Below w.heap.size w w' := by
  have g0 : decide ((12 : Int) < (n : Int)) = true := decide_eq_true (by omega)
  have g1 : decide (12 < n) = true := decide_eq_true (by omega)
  have B0 := Lib.hid ((Bel.refl w).alloc (.cells #[.int .i64 p.m, .int .i64 p.a, .int .i64 p.s, .int .i64 p.v] 23))
  have K0 := Lib.hid (hk.below ((Below.refl _ _).alloc (Nat.le_refl _) (.cells #[.int .i64 p.m, .int .i64 p.a, .int .i64 p.s, .int .i64 p.v] 23)))
  have P0 := Quad.new w (.int .i64 p.m) (.int .i64 p.a) (.int .i64 p.s) (.int .i64 p.v) 23 (w.heap.size) (by simp)
  go_enter Tryd.func7, Tryd.ntmps7
  obtain ⟨pf0, pf1, pf2, pf3, pf4, pf5, pf6, pf7, pf8⟩ := id P0
  go_wp2_with fail
  clear pf0 pf1 pf2 pf3 pf4 pf5 pf6 pf7 pf8
  refine (known_ok _ K0.out).mono ?_
  rintro e w1 ⟨rfl, hb⟩
  have B1 := Lib.hid (B0.out.up hb)
  have K1 := Lib.hid (K0.out.below hb)
  have P1 := P0.up hb
  clear hb B0 K0 P0
  obtain ⟨pf0, pf1, pf2, pf3, pf4, pf5, pf6, pf7, pf8⟩ := id P1
  go_wp2_with fail
  clear pf0 pf1 pf2 pf3 pf4 pf5 pf6 pf7 pf8
  refine (known_ok _ K1.out).mono ?_
  rintro e w2 ⟨rfl, hb⟩
  have B2 := Lib.hid (B1.out.up hb)
  have K2 := Lib.hid (K1.out.below hb)
  have P2 := P1.up hb
  clear hb B1 K1 P1
  obtain ⟨pf0, pf1, pf2, pf3, pf4, pf5, pf6, pf7, pf8⟩ := id P2
  go_wp2_with fail
  go_ret
  exact ⟨rfl, B2.out.out⟩
set_option maxRecDepth 100000 in
set_option maxHeartbeats 16000000 in
theorem nests_err (f : Nat → Sp) (n cap : Nat) (ad : Option Addr) (p : Pl) (r1 r2 : Int) (w : World) (hk : KT w) (hn : n ≤ 12) (h : SpAt w ad n f) (hr : fst f n 0 = (r1, r2)) (h2 : r2 ≠ 0) :
    Calls Tryd.prog 7 #[.slice ad n cap, .agg #[.int .i64 p.m, .int .i64 p.a, .int .i64 p.s, .int .i64 p.v]] w fun e w' => e = .returned (.bool true) ∧ Below w.heap.size w w' := by
  have g0 : decide ((12 : Int) < (n : Int)) = false := decide_eq_false (by omega)
  have g1 : decide (12 < n) = false := decide_eq_false (by omega)
  have HX := Lib.hid hr
  have HS := Lib.hid h
  clear hr h
  have e2 : (r2 != 0) = true := by simpa using h2
  clear h2
  have B0 := Lib.hid ((Bel.refl w).alloc (.cells #[.int .i64 p.m, .int .i64 p.a, .int .i64 p.s, .int .i64 p.v] 23))
  have K0 := Lib.hid (hk.below ((Below.refl _ _).alloc (Nat.le_refl _) (.cells #[.int .i64 p.m, .int .i64 p.a, .int .i64 p.s, .int .i64 p.v] 23)))
  have P0 := Quad.new w (.int .i64 p.m) (.int .i64 p.a) (.int .i64 p.s) (.int .i64 p.v) 23 (w.heap.size) (by simp)
  go_enter Tryd.func7, Tryd.ntmps7
  obtain ⟨pf0, pf1, pf2, pf3, pf4, pf5, pf6, pf7, pf8⟩ := id P0
  go_wp2_with fail
  clear pf0 pf1 pf2 pf3 pf4 pf5 pf6 pf7 pf8
  refine (known_ok _ K0.out).mono ?_
  rintro e w1 ⟨rfl, hb⟩
  have B1 := Lib.hid (B0.out.up hb)
  have K1 := Lib.hid (K0.out.below hb)
  have P1 := P0.up hb
  clear hb B0 K0 P0
  obtain ⟨pf0, pf1, pf2, pf3, pf4, pf5, pf6, pf7, pf8⟩ := id P1
  go_wp2_with fail
  clear pf0 pf1 pf2 pf3 pf4 pf5 pf6 pf7 pf8
  refine (list_ok n cap ad f _ (by omega) (HS.out.up B1.out.out)).mono ?_
  rintro e w2 ⟨v, rfl, hb, ho⟩
  obtain ⟨ad2, cap2, rfl, hs⟩ := SpAt.of_sps ho
  have HL := Lib.hid hs
  clear hs ho
  have B2 := Lib.hid (B1.out.up hb)
  have K2 := Lib.hid (K1.out.below hb)
  have P2 := P1.up hb
  clear hb B1 K1 P1
  obtain ⟨pf0, pf1, pf2, pf3, pf4, pf5, pf6, pf7, pf8⟩ := id P2
  go_wp2_with fail
  clear pf0 pf1 pf2 pf3 pf4 pf5 pf6 pf7 pf8
  refine (check_ok n cap2 ad2 f r1 r2 _ (by omega) HL.out HX.out).mono ?_
  rintro e w3 ⟨rfl, hb⟩
  have B3 := Lib.hid (B2.out.up hb)
  have K3 := Lib.hid (K2.out.below hb)
  have P3 := P2.up hb
  clear hb B2 K2 P2
  obtain ⟨pf0, pf1, pf2, pf3, pf4, pf5, pf6, pf7, pf8⟩ := id P3
  go_wp2_with fail
  go_ret
  exact ⟨rfl, B3.out.out⟩
set_option maxRecDepth 100000 in
set_option maxHeartbeats 16000000 in
theorem nests_ok (f : Nat → Sp) (n cap : Nat) (ad : Option Addr) (p : Pl) (r1 : Int) (w : World) (hk : KT w) (hn : n ≤ 12) (h : SpAt w ad n f) (hr : fst f n 0 = (r1, 0))  :
    Calls Tryd.prog 7 #[.slice ad n cap, .agg #[.int .i64 p.m, .int .i64 p.a, .int .i64 p.s, .int .i64 p.v]] w fun e w' => e = .returned (.bool true) ∧ Below w.heap.size w w' := by
  have HER := Lib.hid (er_all hr)
  have HCF := Lib.hid (cf_none (er_all hr))
  have HOC := Lib.hid (fun k hk => (ocn_le (p := p) (cf_none (er_all hr)) k hk).1)
  have g0 : decide ((12 : Int) < (n : Int)) = false := decide_eq_false (by omega)
  have g1 : decide (12 < n) = false := decide_eq_false (by omega)
  have HX := Lib.hid hr
  have HS := Lib.hid h
  clear hr h
  have B0 := Lib.hid ((Bel.refl w).alloc (.cells #[.int .i64 p.m, .int .i64 p.a, .int .i64 p.s, .int .i64 p.v] 23))
  have K0 := Lib.hid (hk.below ((Below.refl _ _).alloc (Nat.le_refl _) (.cells #[.int .i64 p.m, .int .i64 p.a, .int .i64 p.s, .int .i64 p.v] 23)))
  have P0 := Quad.new w (.int .i64 p.m) (.int .i64 p.a) (.int .i64 p.s) (.int .i64 p.v) 23 (w.heap.size) (by simp)
  go_enter Tryd.func7, Tryd.ntmps7
  obtain ⟨pf0, pf1, pf2, pf3, pf4, pf5, pf6, pf7, pf8⟩ := id P0
  go_wp2_with fail
  clear pf0 pf1 pf2 pf3 pf4 pf5 pf6 pf7 pf8
  refine (known_ok _ K0.out).mono ?_
  rintro e w1 ⟨rfl, hb⟩
  have B1 := Lib.hid (B0.out.up hb)
  have K1 := Lib.hid (K0.out.below hb)
  have P1 := P0.up hb
  clear hb B0 K0 P0
  obtain ⟨pf0, pf1, pf2, pf3, pf4, pf5, pf6, pf7, pf8⟩ := id P1
  go_wp2_with fail
  clear pf0 pf1 pf2 pf3 pf4 pf5 pf6 pf7 pf8
  refine (list_ok n cap ad f _ (by omega) (HS.out.up B1.out.out)).mono ?_
  rintro e w2 ⟨v, rfl, hb, ho⟩
  obtain ⟨ad2, cap2, rfl, hs⟩ := SpAt.of_sps ho
  have HL := Lib.hid hs
  clear hs ho
  have B2 := Lib.hid (B1.out.up hb)
  have K2 := Lib.hid (K1.out.below hb)
  have P2 := P1.up hb
  clear hb B1 K1 P1
  obtain ⟨pf0, pf1, pf2, pf3, pf4, pf5, pf6, pf7, pf8⟩ := id P2
  go_wp2_with fail
  clear pf0 pf1 pf2 pf3 pf4 pf5 pf6 pf7 pf8
  refine (check_ok n cap2 ad2 f r1 0 _ (by omega) HL.out HX.out).mono ?_
  rintro e w3 ⟨rfl, hb⟩
  have B3 := Lib.hid (B2.out.up hb)
  have K3 := Lib.hid (K2.out.below hb)
  have P3 := P2.up hb
  clear hb B2 K2 P2
  obtain ⟨pf0, pf1, pf2, pf3, pf4, pf5, pf6, pf7, pf8⟩ := id P3
  go_wp2_with fail
  have HB0 := B3
  clear HL K3 HX pf0 pf1 pf2 pf3 pf4 pf5 pf6 pf7 pf8
  go_loopg [7, 8] n (fun gm oc i wr => ∃ k : Nat, k ≤ n ∧ gm = n - k ∧ oc = .int .i64 (ocn f p k : Int) ∧ i = .int .i64 (k : Int) ∧ Hid (Bel w wr) ∧ Quad wr w.heap.size (.int .i64 p.m) (.int .i64 p.a) (.int .i64 p.s) (.int .i64 p.v))
  case atStart => exact ⟨0, by omega, by omega, rfl, rfl, HB0, P3⟩
  case round =>
    clear HB0 B3 P3
    obtain ⟨k, hk, rfl, rfl, rfl, HB, HQ⟩ := hrel
    obtain ⟨W0, hW0, B0, P0⟩ : ∃ W0, W0 = _ ∧ Hid (Bel w W0) ∧ Quad W0 w.heap.size (.int .i64 p.m) (.int .i64 p.a) (.int .i64 p.s) (.int .i64 p.v) := ⟨_, rfl, HB, HQ⟩
    subst hW0
    clear HB HQ
    have hoc := HOC.out k hk
    by_cases hlt : k < n
    · have hkd : decide ((k : Int) < (n : Int)) = true := decide_eq_true (by omega)
      obtain ⟨b, off, rfl, c0, c1, c2, c3, c4, c5, c6, c7, c8⟩ := (HS.out.up B0.out.out) k hlt
      obtain ⟨o, ho⟩ : ∃ o, (octK (f k).k && cov (f k) p) = o := ⟨_, rfl⟩
      have hnx : ocn f p (k + 1) = ocn f p k + if o = true then 1 else 0 := by rw [← ho]; rfl
      have HNX := Lib.hid hnx
      have hvv : (∃ v, cov (f k) p = v ∧ (f k).k = 4 ∧ o = v) ∨ (∃ v, cov (f k) p = v ∧ (f k).k ≠ 4 ∧ (f k).k = 5 ∧ o = v) ∨ ((f k).k ≠ 4 ∧ (f k).k ≠ 5 ∧ o = false) := by
        by_cases h4 : (f k).k = 4
        · exact .inl ⟨_, rfl, h4, by rw [← ho]; simp [octK, h4]⟩
        · by_cases h5 : (f k).k = 5
          · exact .inr (.inl ⟨_, rfl, h4, h5, by rw [← ho]; simp [octK, h5]⟩)
          · exact .inr (.inr ⟨h4, h5, by rw [← ho]; simp [octK, h4, h5]⟩)
      clear hnx ho
      go_wp2_with fail
      go_cut [56] (fun v wx => v = .bool o ∧ Hid (Bel w wx) ∧ Quad wx w.heap.size (.int .i64 p.m) (.int .i64 p.a) (.int .i64 p.s) (.int .i64 p.v))
      case first =>
       rcases hvv with ⟨v, hv, h4, rfl⟩ | ⟨v, hv, h4, h5, rfl⟩ | ⟨h4, h5, rfl⟩
       all_goals first
        | (have e4 : ((f k).k == 4) = true := by simpa using h4
           have HV := Lib.hid hv
           clear hv
           clear h4
           obtain ⟨pf0, pf1, pf2, pf3, pf4, pf5, pf6, pf7, pf8⟩ := id P0
           clear pf0 pf1 pf2 pf3 pf4 pf5 pf6 pf7 pf8
           refine Qt.regionAll (by kernel_rfl) (by kernel_rfl) ?_
           intro T f_ F hne
           have RB := Lib.hid (fun g => B0.out.up (F.below g))
           have RP := fun g => P0.up (F.below g)
           have RP0 := fun g => (RP g).c0
           have RP1 := fun g => (RP g).c1
           have RP2 := fun g => (RP g).c2
           have RP3 := fun g => (RP g).c3
           have R_c0 := fun g => cell_up (F.below g) c0
           have R_c1 := fun g => cell_up (F.below g) c1
           have R_c2 := fun g => cell_up (F.below g) c2
           have R_c3 := fun g => cell_up (F.below g) c3
           have R_c4 := fun g => cell_up (F.below g) c4
           have R_c5 := fun g => cell_up (F.below g) c5
           have R_c6 := fun g => cell_up (F.below g) c6
           have R_c7 := fun g => cell_up (F.below g) c7
           have R_c8 := fun g => cell_up (F.below g) c8
           repeat (go_big_quiet_step (first | (go_at_call 25; with_reducible exact F.call (rcov_at (f k) p o _ HV.out))))
           refine wpQuiet_nil ?_
           rintro _ ⟨gT, rfl⟩
           have B1 := Lib.hid (RB.out gT)
           have P1 := RP gT
           have n_c0 := R_c0 gT
           have n_c1 := R_c1 gT
           have n_c2 := R_c2 gT
           have n_c3 := R_c3 gT
           have n_c4 := R_c4 gT
           have n_c5 := R_c5 gT
           have n_c6 := R_c6 gT
           have n_c7 := R_c7 gT
           have n_c8 := R_c8 gT
           clear F RB hne RP RP0 RP1 RP2 RP3 B0 P0 R_c0 c0 R_c1 c1 R_c2 c2 R_c3 c3 R_c4 c4 R_c5 c5 R_c6 c6 R_c7 c7 R_c8 c8
           generalize f_ gT = w1 at *
           clear f_
           have c0 := n_c0
           clear n_c0
           have c1 := n_c1
           clear n_c1
           have c2 := n_c2
           clear n_c2
           have c3 := n_c3
           clear n_c3
           have c4 := n_c4
           clear n_c4
           have c5 := n_c5
           clear n_c5
           have c6 := n_c6
           clear n_c6
           have c7 := n_c7
           clear n_c7
           have c8 := n_c8
           clear n_c8
           obtain ⟨pf0, pf1, pf2, pf3, pf4, pf5, pf6, pf7, pf8⟩ := id P1
           go_wp2_with fail
           go_meet
           exact ⟨rfl, B1, P1⟩)
        | (have e5 : ((f k).k == 5) = true := by simpa using h5
           have e4 : ((f k).k == 4) = false := by simpa using h4
           have HV := Lib.hid hv
           clear hv
           clear h4 h5
           obtain ⟨pf0, pf1, pf2, pf3, pf4, pf5, pf6, pf7, pf8⟩ := id P0
           clear pf0 pf1 pf2 pf3 pf4 pf5 pf6 pf7 pf8
           refine Qt.regionAll (by kernel_rfl) (by kernel_rfl) ?_
           intro T f_ F hne
           have RB := Lib.hid (fun g => B0.out.up (F.below g))
           have RP := fun g => P0.up (F.below g)
           have RP0 := fun g => (RP g).c0
           have RP1 := fun g => (RP g).c1
           have RP2 := fun g => (RP g).c2
           have RP3 := fun g => (RP g).c3
           have R_c0 := fun g => cell_up (F.below g) c0
           have R_c1 := fun g => cell_up (F.below g) c1
           have R_c2 := fun g => cell_up (F.below g) c2
           have R_c3 := fun g => cell_up (F.below g) c3
           have R_c4 := fun g => cell_up (F.below g) c4
           have R_c5 := fun g => cell_up (F.below g) c5
           have R_c6 := fun g => cell_up (F.below g) c6
           have R_c7 := fun g => cell_up (F.below g) c7
           have R_c8 := fun g => cell_up (F.below g) c8
           repeat (go_big_quiet_step (first | (go_at_call 25; with_reducible exact F.call (rcov_at (f k) p o _ HV.out))))
           refine wpQuiet_nil ?_
           rintro _ ⟨gT, rfl⟩
           have B1 := Lib.hid (RB.out gT)
           have P1 := RP gT
           have n_c0 := R_c0 gT
           have n_c1 := R_c1 gT
           have n_c2 := R_c2 gT
           have n_c3 := R_c3 gT
           have n_c4 := R_c4 gT
           have n_c5 := R_c5 gT
           have n_c6 := R_c6 gT
           have n_c7 := R_c7 gT
           have n_c8 := R_c8 gT
           clear F RB hne RP RP0 RP1 RP2 RP3 B0 P0 R_c0 c0 R_c1 c1 R_c2 c2 R_c3 c3 R_c4 c4 R_c5 c5 R_c6 c6 R_c7 c7 R_c8 c8
           generalize f_ gT = w1 at *
           clear f_
           have c0 := n_c0
           clear n_c0
           have c1 := n_c1
           clear n_c1
           have c2 := n_c2
           clear n_c2
           have c3 := n_c3
           clear n_c3
           have c4 := n_c4
           clear n_c4
           have c5 := n_c5
           clear n_c5
           have c6 := n_c6
           clear n_c6
           have c7 := n_c7
           clear n_c7
           have c8 := n_c8
           clear n_c8
           obtain ⟨pf0, pf1, pf2, pf3, pf4, pf5, pf6, pf7, pf8⟩ := id P1
           go_wp2_with fail
           go_meet
           exact ⟨rfl, B1, P1⟩)
        | (have e4 : ((f k).k == 4) = false := by simpa using h4
           have e5 : ((f k).k == 5) = false := by simpa using h5
           clear h4 h5
           obtain ⟨pf0, pf1, pf2, pf3, pf4, pf5, pf6, pf7, pf8⟩ := id P0
           clear pf0 pf1 pf2 pf3 pf4 pf5 pf6 pf7 pf8
           refine Qt.regionAll (by kernel_rfl) (by kernel_rfl) ?_
           intro T f_ F hne
           have RB := Lib.hid (fun g => B0.out.up (F.below g))
           have RP := fun g => P0.up (F.below g)
           have RP0 := fun g => (RP g).c0
           have RP1 := fun g => (RP g).c1
           have RP2 := fun g => (RP g).c2
           have RP3 := fun g => (RP g).c3
           have R_c0 := fun g => cell_up (F.below g) c0
           have R_c1 := fun g => cell_up (F.below g) c1
           have R_c2 := fun g => cell_up (F.below g) c2
           have R_c3 := fun g => cell_up (F.below g) c3
           have R_c4 := fun g => cell_up (F.below g) c4
           have R_c5 := fun g => cell_up (F.below g) c5
           have R_c6 := fun g => cell_up (F.below g) c6
           have R_c7 := fun g => cell_up (F.below g) c7
           have R_c8 := fun g => cell_up (F.below g) c8
           repeat (go_big_quiet_step (fail))
           refine wpQuiet_nil ?_
           rintro _ ⟨gT, rfl⟩
           have B1 := Lib.hid (RB.out gT)
           have P1 := RP gT
           have n_c0 := R_c0 gT
           have n_c1 := R_c1 gT
           have n_c2 := R_c2 gT
           have n_c3 := R_c3 gT
           have n_c4 := R_c4 gT
           have n_c5 := R_c5 gT
           have n_c6 := R_c6 gT
           have n_c7 := R_c7 gT
           have n_c8 := R_c8 gT
           clear F RB hne RP RP0 RP1 RP2 RP3 B0 P0 R_c0 c0 R_c1 c1 R_c2 c2 R_c3 c3 R_c4 c4 R_c5 c5 R_c6 c6 R_c7 c7 R_c8 c8
           generalize f_ gT = w1 at *
           clear f_
           have c0 := n_c0
           clear n_c0
           have c1 := n_c1
           clear n_c1
           have c2 := n_c2
           clear n_c2
           have c3 := n_c3
           clear n_c3
           have c4 := n_c4
           clear n_c4
           have c5 := n_c5
           clear n_c5
           have c6 := n_c6
           clear n_c6
           have c7 := n_c7
           clear n_c7
           have c8 := n_c8
           clear n_c8
           obtain ⟨pf0, pf1, pf2, pf3, pf4, pf5, pf6, pf7, pf8⟩ := id P1
           go_wp2_with fail
           go_meet
           exact ⟨rfl, B1, P1⟩)
      case rest =>
       obtain ⟨rfl, B1, P1⟩ := hcut
       clear B0 P0 hvv c0 c1 c2 c3 c4 c5 c6 c7 c8
       cases o
       all_goals
        go_wp2_with fail
        go_loopg [9] k (fun gq q wr => ∃ j : Nat, j ≤ k ∧ gq = k - j ∧ q = .int .i64 (j : Int) ∧ Hid (Bel w wr) ∧ Quad wr w.heap.size (.int .i64 p.m) (.int .i64 p.a) (.int .i64 p.s) (.int .i64 p.v))
        case atStart => exact ⟨0, by omega, by omega, rfl, B1, P1⟩
        case round =>
          clear B1 P1
          obtain ⟨q, hq, rfl, rfl, HB, HQ⟩ := hrel
          obtain ⟨W1, hW1, B0, P0⟩ : ∃ W1, W1 = _ ∧ Hid (Bel w W1) ∧ Quad W1 w.heap.size (.int .i64 p.m) (.int .i64 p.a) (.int .i64 p.s) (.int .i64 p.v) := ⟨_, rfl, HB, HQ⟩
          subst hW1
          clear HB HQ
          by_cases hql : q < k
          · have hqd : decide ((q : Int) < (k : Int)) = true := decide_eq_true (by omega)
            have HC := Lib.hid (HCF.out k hlt q hql)
            obtain ⟨b1, off1, e1, c0, c1, c2, c3, c4, c5, c6, c7, c8⟩ := (HS.out.up B0.out.out) k hlt
            cases e1
            obtain ⟨b1, off1, e1, d0, d1, d2, d3, d4, d5, d6, d7, d8⟩ := (HS.out.up B0.out.out) q (by omega)
            cases e1
            go_wp2_with fail
            refine Qx.freshW 8 2 [.slice (some ⟨b, off, none⟩) n cap, .int .i64 (k : Int), .pointer (some ⟨b, off + k * 9, none⟩), .agg #[.int .i64 (f k).k, .int .i64 (f k).f.m, .int .i64 (f k).f.a, .int .i64 (f k).f.s, .int .i64 (f k).f.v, .int .i64 (f k).t.m, .int .i64 (f k).t.a, .int .i64 (f k).t.s, .int .i64 (f k).t.v], .slice (some ⟨b, off, none⟩) n cap, .int .i64 (q : Int), .pointer (some ⟨b, off + q * 9, none⟩), .agg #[.int .i64 (f q).k, .int .i64 (f q).f.m, .int .i64 (f q).f.a, .int .i64 (f q).f.s, .int .i64 (f q).f.v, .int .i64 (f q).t.m, .int .i64 (f q).t.a, .int .i64 (f q).t.s, .int .i64 (f q).t.v]] [(10, [.int .i64 (f k).k, .int .i64 (f k).f.m, .int .i64 (f k).f.a, .int .i64 (f k).f.s, .int .i64 (f k).f.v, .int .i64 (f k).t.m, .int .i64 (f k).t.a, .int .i64 (f k).t.s, .int .i64 (f k).t.v]), (11, [.int .i64 (f q).k, .int .i64 (f q).f.m, .int .i64 (f q).f.a, .int .i64 (f q).f.s, .int .i64 (f q).f.v, .int .i64 (f q).t.m, .int .i64 (f q).t.a, .int .i64 (f q).t.s, .int .i64 (f q).t.v])] (by kernel_rfl) (by kernel_rfl) rfl (by rfl) ?hwalk ?hal ?hst ?fin
            case hwalk =>
              intro T f_ F hne
              have Rc0 := fun t => cell_up (F.below t) c0
              have Rc1 := fun t => cell_up (F.below t) c1
              have Rc2 := fun t => cell_up (F.below t) c2
              have Rc3 := fun t => cell_up (F.below t) c3
              have Rc4 := fun t => cell_up (F.below t) c4
              have Rc5 := fun t => cell_up (F.below t) c5
              have Rc6 := fun t => cell_up (F.below t) c6
              have Rc7 := fun t => cell_up (F.below t) c7
              have Rc8 := fun t => cell_up (F.below t) c8
              have Rd0 := fun t => cell_up (F.below t) d0
              have Rd1 := fun t => cell_up (F.below t) d1
              have Rd2 := fun t => cell_up (F.below t) d2
              have Rd3 := fun t => cell_up (F.below t) d3
              have Rd4 := fun t => cell_up (F.below t) d4
              have Rd5 := fun t => cell_up (F.below t) d5
              have Rd6 := fun t => cell_up (F.below t) d6
              have Rd7 := fun t => cell_up (F.below t) d7
              have Rd8 := fun t => cell_up (F.below t) d8
              clear c0 c1 c2 c3 c4 c5 c6 c7 c8 d0 d1 d2 d3 d4 d5 d6 d7 d8
              simp only [List.take_succ_cons, List.take_zero]
              repeat (go_big_quiet_step (fail))
              refine wpQuiet_nil ?_
              simp only [Qf.putAll, List.take_succ_cons, List.take_zero, Act.put, List.setIfInBounds_toArray, List.set_cons_succ, List.set_cons_zero]
            case hal =>
              intro j x hx o' ho
              rcases j with _ | _ | j
              · obtain rfl := Option.some.inj hx
                obtain rfl := Option.some.inj ho
                exact ⟨rfl, fun a u => ⟨[.int .i64 0, .int .i64 0, .int .i64 0, .int .i64 0, .int .i64 0, .int .i64 0, .int .i64 0, .int .i64 0, .int .i64 0], 25, rfl, exec_alloc rfl allocRS a u⟩⟩
              · obtain rfl := Option.some.inj hx
                obtain rfl := Option.some.inj ho
                exact ⟨rfl, fun a u => ⟨[.int .i64 0, .int .i64 0, .int .i64 0, .int .i64 0, .int .i64 0, .int .i64 0, .int .i64 0, .int .i64 0, .int .i64 0], 25, rfl, exec_alloc rfl allocRS a u⟩⟩
              · cases hx
            case hst =>
              intro j x hx o' ho a u z hc hl ht
              rcases j with _ | _ | j
              · obtain rfl := Option.some.inj hx
                obtain rfl := Option.some.inj ho
                exact exec_store rfl hc (hl 3 _ _ 67 (by decide) rfl rfl rfl (of_decide_eq_true (by kernel_rfl)) (show (67 : Nat) ≠ 10 from by decide)) ht infoRS1 (by simp [Value.oneCell'])
              · obtain rfl := Option.some.inj hx
                obtain rfl := Option.some.inj ho
                exact exec_store rfl hc (hl 7 _ _ 71 (by decide) rfl rfl rfl (of_decide_eq_true (by kernel_rfl)) (show (71 : Nat) ≠ 11 from by decide)) ht infoRS1 (by simp [Value.oneCell'])
              · cases hx
            case fin =>
              intro B w2 hb hB hne
              obtain ⟨u1, u2, u3, u4⟩ := hB 0 _ rfl
              obtain ⟨s1, s2, s3, s4⟩ := hB 1 _ rfl
              have X2 := Non.of_range u2 u3 u4
              have Y2 := Non.of_range s2 s3 s4
              have B2 := Lib.hid (B0.out.up hb)
              have P2 := P0.up hb
              simp only [Qf.putFr, Qf.putAll, List.take_succ_cons, List.take_zero, Act.put, List.setIfInBounds_toArray, List.set_cons_succ, List.set_cons_zero]
              clear hB hb u1 u2 u3 u4 s1 s2 s3 s4 hne B0 P0 c0 c1 c2 c3 c4 c5 c6 c7 c8 d0 d1 d2 d3 d4 d5 d6 d7 d8
              generalize B 0 = bA at *
              generalize B 1 = bB at *
              clear B
              by_cases ka : (f k).k = 1
              case neg =>
                have n1 : ((f k).k != 1) = true := by simpa using ka
                clear ka
                obtain ⟨pf0, pf1, pf2, pf3, pf4, pf5, pf6, pf7, pf8⟩ := id P2
                obtain ⟨xf0, xf1, xf2, xf3, xf4, xf5, xf6, xf7, xf8, xf9, xf10, xf11, xf12, xf13, xf14, xf15, xf16, xf17, xf18⟩ := id X2
                obtain ⟨yf0, yf1, yf2, yf3, yf4, yf5, yf6, yf7, yf8, yf9, yf10, yf11, yf12, yf13, yf14, yf15, yf16, yf17, yf18⟩ := id Y2
                go_wp2_with fail
                go_roundg (k - (q + 1))
                case measure => omega
                case rel => exact ⟨q + 1, by omega, rfl, by go_num, B2, P2⟩
              case pos =>
                have KA := Lib.hid ka
                have n1 : ((f k).k != 1) = false := by simpa using ka
                clear ka
                by_cases kb : (f q).k = 1
                case neg =>
                  have n2 : ((f q).k != 1) = true := by simpa using kb
                  clear kb
                  obtain ⟨pf0, pf1, pf2, pf3, pf4, pf5, pf6, pf7, pf8⟩ := id P2
                  obtain ⟨xf0, xf1, xf2, xf3, xf4, xf5, xf6, xf7, xf8, xf9, xf10, xf11, xf12, xf13, xf14, xf15, xf16, xf17, xf18⟩ := id X2
                  obtain ⟨yf0, yf1, yf2, yf3, yf4, yf5, yf6, yf7, yf8, yf9, yf10, yf11, yf12, yf13, yf14, yf15, yf16, yf17, yf18⟩ := id Y2
                  go_wp2_with fail
                  go_roundg (k - (q + 1))
                  case measure => omega
                  case rel => exact ⟨q + 1, by omega, rfl, by go_num, B2, P2⟩
                case pos =>
                  have KB := Lib.hid kb
                  have n2 : ((f q).k != 1) = false := by simpa using kb
                  clear kb
                  cases ha : cov (f k) p
                  case false =>
                    replace ha := Lib.hid ha
                    obtain ⟨pf0, pf1, pf2, pf3, pf4, pf5, pf6, pf7, pf8⟩ := id P2
                    obtain ⟨xf0, xf1, xf2, xf3, xf4, xf5, xf6, xf7, xf8, xf9, xf10, xf11, xf12, xf13, xf14, xf15, xf16, xf17, xf18⟩ := id X2
                    obtain ⟨yf0, yf1, yf2, yf3, yf4, yf5, yf6, yf7, yf8, yf9, yf10, yf11, yf12, yf13, yf14, yf15, yf16, yf17, yf18⟩ := id Y2
                    go_wp2_with fail
                    clear pf0 pf1 pf2 pf3 pf4 pf5 pf6 pf7 pf8 xf0 xf1 xf2 xf3 xf4 xf5 xf6 xf7 xf8 xf9 xf10 xf11 xf12 xf13 xf14 xf15 xf16 xf17 xf18 yf0 yf1 yf2 yf3 yf4 yf5 yf6 yf7 yf8 yf9 yf10 yf11 yf12 yf13 yf14 yf15 yf16 yf17 yf18
                    refine (rcov_at (f k) p false _ ha.out).mono ?_
                    rintro e w3 ⟨rfl, hb⟩
                    have B3 := Lib.hid (B2.out.up hb)
                    have P3 := P2.up hb
                    have X3 := X2.up hb
                    have Y3 := Y2.up hb
                    clear hb B2  P2 X2 Y2
                    obtain ⟨pf0, pf1, pf2, pf3, pf4, pf5, pf6, pf7, pf8⟩ := id P3
                    obtain ⟨xf0, xf1, xf2, xf3, xf4, xf5, xf6, xf7, xf8, xf9, xf10, xf11, xf12, xf13, xf14, xf15, xf16, xf17, xf18⟩ := id X3
                    obtain ⟨yf0, yf1, yf2, yf3, yf4, yf5, yf6, yf7, yf8, yf9, yf10, yf11, yf12, yf13, yf14, yf15, yf16, yf17, yf18⟩ := id Y3
                    go_wp2_with fail
                    go_roundg (k - (q + 1))
                    case measure => omega
                    case rel => exact ⟨q + 1, by omega, rfl, by go_num, B3, P3⟩
                  case true =>
                    replace ha := Lib.hid ha
                    cases hbb : cov (f q) p
                    case false =>
                      replace hbb := Lib.hid hbb
                      obtain ⟨pf0, pf1, pf2, pf3, pf4, pf5, pf6, pf7, pf8⟩ := id P2
                      obtain ⟨xf0, xf1, xf2, xf3, xf4, xf5, xf6, xf7, xf8, xf9, xf10, xf11, xf12, xf13, xf14, xf15, xf16, xf17, xf18⟩ := id X2
                      obtain ⟨yf0, yf1, yf2, yf3, yf4, yf5, yf6, yf7, yf8, yf9, yf10, yf11, yf12, yf13, yf14, yf15, yf16, yf17, yf18⟩ := id Y2
                      go_wp2_with fail
                      clear pf0 pf1 pf2 pf3 pf4 pf5 pf6 pf7 pf8 xf0 xf1 xf2 xf3 xf4 xf5 xf6 xf7 xf8 xf9 xf10 xf11 xf12 xf13 xf14 xf15 xf16 xf17 xf18 yf0 yf1 yf2 yf3 yf4 yf5 yf6 yf7 yf8 yf9 yf10 yf11 yf12 yf13 yf14 yf15 yf16 yf17 yf18
                      refine (rcov_at (f k) p true _ ha.out).mono ?_
                      rintro e w3 ⟨rfl, hb⟩
                      have B3 := Lib.hid (B2.out.up hb)
                      have P3 := P2.up hb
                      have X3 := X2.up hb
                      have Y3 := Y2.up hb
                      clear hb B2  P2 X2 Y2
                      obtain ⟨pf0, pf1, pf2, pf3, pf4, pf5, pf6, pf7, pf8⟩ := id P3
                      obtain ⟨xf0, xf1, xf2, xf3, xf4, xf5, xf6, xf7, xf8, xf9, xf10, xf11, xf12, xf13, xf14, xf15, xf16, xf17, xf18⟩ := id X3
                      obtain ⟨yf0, yf1, yf2, yf3, yf4, yf5, yf6, yf7, yf8, yf9, yf10, yf11, yf12, yf13, yf14, yf15, yf16, yf17, yf18⟩ := id Y3
                      go_wp2_with fail
                      clear pf0 pf1 pf2 pf3 pf4 pf5 pf6 pf7 pf8 xf0 xf1 xf2 xf3 xf4 xf5 xf6 xf7 xf8 xf9 xf10 xf11 xf12 xf13 xf14 xf15 xf16 xf17 xf18 yf0 yf1 yf2 yf3 yf4 yf5 yf6 yf7 yf8 yf9 yf10 yf11 yf12 yf13 yf14 yf15 yf16 yf17 yf18
                      refine (rcov_at (f q) p false _ hbb.out).mono ?_
                      rintro e w4 ⟨rfl, hb⟩
                      have B4 := Lib.hid (B3.out.up hb)
                      have P4 := P3.up hb
                      have X4 := X3.up hb
                      have Y4 := Y3.up hb
                      clear hb B3  P3 X3 Y3
                      obtain ⟨pf0, pf1, pf2, pf3, pf4, pf5, pf6, pf7, pf8⟩ := id P4
                      obtain ⟨xf0, xf1, xf2, xf3, xf4, xf5, xf6, xf7, xf8, xf9, xf10, xf11, xf12, xf13, xf14, xf15, xf16, xf17, xf18⟩ := id X4
                      obtain ⟨yf0, yf1, yf2, yf3, yf4, yf5, yf6, yf7, yf8, yf9, yf10, yf11, yf12, yf13, yf14, yf15, yf16, yf17, yf18⟩ := id Y4
                      go_wp2_with fail
                      go_roundg (k - (q + 1))
                      case measure => omega
                      case rel => exact ⟨q + 1, by omega, rfl, by go_num, B4, P4⟩
                    case true =>
                      replace hbb := Lib.hid hbb
                      obtain ⟨x1, y1⟩ : ∃ x, cmpP (f k).f p = x := ⟨_, rfl⟩
                      replace y1 := Lib.hid y1
                      obtain ⟨x2, y2⟩ : ∃ x, cmpP p (f k).t = x := ⟨_, rfl⟩
                      replace y2 := Lib.hid y2
                      obtain ⟨x3, y3⟩ : ∃ x, cmpP (f q).f p = x := ⟨_, rfl⟩
                      replace y3 := Lib.hid y3
                      obtain ⟨x4, y4⟩ : ∃ x, cmpP p (f q).t = x := ⟨_, rfl⟩
                      replace y4 := Lib.hid y4
                      by_cases g1 : x1 < 0
                      case neg =>
                        have z1 : decide (x1 < 0) = false := decide_eq_false g1
                        obtain ⟨pf0, pf1, pf2, pf3, pf4, pf5, pf6, pf7, pf8⟩ := id P2
                        obtain ⟨xf0, xf1, xf2, xf3, xf4, xf5, xf6, xf7, xf8, xf9, xf10, xf11, xf12, xf13, xf14, xf15, xf16, xf17, xf18⟩ := id X2
                        obtain ⟨yf0, yf1, yf2, yf3, yf4, yf5, yf6, yf7, yf8, yf9, yf10, yf11, yf12, yf13, yf14, yf15, yf16, yf17, yf18⟩ := id Y2
                        go_wp2_with fail
                        clear pf0 pf1 pf2 pf3 pf4 pf5 pf6 pf7 pf8 xf0 xf1 xf2 xf3 xf4 xf5 xf6 xf7 xf8 xf9 xf10 xf11 xf12 xf13 xf14 xf15 xf16 xf17 xf18 yf0 yf1 yf2 yf3 yf4 yf5 yf6 yf7 yf8 yf9 yf10 yf11 yf12 yf13 yf14 yf15 yf16 yf17 yf18
                        refine (rcov_at (f k) p true _ ha.out).mono ?_
                        rintro e w3 ⟨rfl, hb⟩
                        have B3 := Lib.hid (B2.out.up hb)
                        have P3 := P2.up hb
                        have X3 := X2.up hb
                        have Y3 := Y2.up hb
                        clear hb B2  P2 X2 Y2
                        obtain ⟨pf0, pf1, pf2, pf3, pf4, pf5, pf6, pf7, pf8⟩ := id P3
                        obtain ⟨xf0, xf1, xf2, xf3, xf4, xf5, xf6, xf7, xf8, xf9, xf10, xf11, xf12, xf13, xf14, xf15, xf16, xf17, xf18⟩ := id X3
                        obtain ⟨yf0, yf1, yf2, yf3, yf4, yf5, yf6, yf7, yf8, yf9, yf10, yf11, yf12, yf13, yf14, yf15, yf16, yf17, yf18⟩ := id Y3
                        go_wp2_with fail
                        clear pf0 pf1 pf2 pf3 pf4 pf5 pf6 pf7 pf8 xf0 xf1 xf2 xf3 xf4 xf5 xf6 xf7 xf8 xf9 xf10 xf11 xf12 xf13 xf14 xf15 xf16 xf17 xf18 yf0 yf1 yf2 yf3 yf4 yf5 yf6 yf7 yf8 yf9 yf10 yf11 yf12 yf13 yf14 yf15 yf16 yf17 yf18
                        refine (rcov_at (f q) p true _ hbb.out).mono ?_
                        rintro e w4 ⟨rfl, hb⟩
                        have B4 := Lib.hid (B3.out.up hb)
                        have P4 := P3.up hb
                        have X4 := X3.up hb
                        have Y4 := Y3.up hb
                        clear hb B3  P3 X3 Y3
                        obtain ⟨pf0, pf1, pf2, pf3, pf4, pf5, pf6, pf7, pf8⟩ := id P4
                        obtain ⟨xf0, xf1, xf2, xf3, xf4, xf5, xf6, xf7, xf8, xf9, xf10, xf11, xf12, xf13, xf14, xf15, xf16, xf17, xf18⟩ := id X4
                        obtain ⟨yf0, yf1, yf2, yf3, yf4, yf5, yf6, yf7, yf8, yf9, yf10, yf11, yf12, yf13, yf14, yf15, yf16, yf17, yf18⟩ := id Y4
                        go_wp2_with fail
                        clear pf0 pf1 pf2 pf3 pf4 pf5 pf6 pf7 pf8 xf0 xf1 xf2 xf3 xf4 xf5 xf6 xf7 xf8 xf9 xf10 xf11 xf12 xf13 xf14 xf15 xf16 xf17 xf18 yf0 yf1 yf2 yf3 yf4 yf5 yf6 yf7 yf8 yf9 yf10 yf11 yf12 yf13 yf14 yf15 yf16 yf17 yf18
                        refine (rcompare_at (f k).f p x1 _ y1.out).mono ?_
                        rintro e w5 ⟨rfl, hb⟩
                        have B5 := Lib.hid (B4.out.up hb)
                        have P5 := P4.up hb
                        have X5 := X4.up hb
                        have Y5 := Y4.up hb
                        clear hb B4  P4 X4 Y4
                        obtain ⟨pf0, pf1, pf2, pf3, pf4, pf5, pf6, pf7, pf8⟩ := id P5
                        obtain ⟨xf0, xf1, xf2, xf3, xf4, xf5, xf6, xf7, xf8, xf9, xf10, xf11, xf12, xf13, xf14, xf15, xf16, xf17, xf18⟩ := id X5
                        obtain ⟨yf0, yf1, yf2, yf3, yf4, yf5, yf6, yf7, yf8, yf9, yf10, yf11, yf12, yf13, yf14, yf15, yf16, yf17, yf18⟩ := id Y5
                        go_wp2_with fail
                        go_roundg (k - (q + 1))
                        case measure => omega
                        case rel => exact ⟨q + 1, by omega, rfl, by go_num, B5, P5⟩
                      case pos =>
                        have z1 : decide (x1 < 0) = true := decide_eq_true g1
                        by_cases g2 : x2 < 0
                        case neg =>
                          have z2 : decide (x2 < 0) = false := decide_eq_false g2
                          obtain ⟨pf0, pf1, pf2, pf3, pf4, pf5, pf6, pf7, pf8⟩ := id P2
                          obtain ⟨xf0, xf1, xf2, xf3, xf4, xf5, xf6, xf7, xf8, xf9, xf10, xf11, xf12, xf13, xf14, xf15, xf16, xf17, xf18⟩ := id X2
                          obtain ⟨yf0, yf1, yf2, yf3, yf4, yf5, yf6, yf7, yf8, yf9, yf10, yf11, yf12, yf13, yf14, yf15, yf16, yf17, yf18⟩ := id Y2
                          go_wp2_with fail
                          clear pf0 pf1 pf2 pf3 pf4 pf5 pf6 pf7 pf8 xf0 xf1 xf2 xf3 xf4 xf5 xf6 xf7 xf8 xf9 xf10 xf11 xf12 xf13 xf14 xf15 xf16 xf17 xf18 yf0 yf1 yf2 yf3 yf4 yf5 yf6 yf7 yf8 yf9 yf10 yf11 yf12 yf13 yf14 yf15 yf16 yf17 yf18
                          refine (rcov_at (f k) p true _ ha.out).mono ?_
                          rintro e w3 ⟨rfl, hb⟩
                          have B3 := Lib.hid (B2.out.up hb)
                          have P3 := P2.up hb
                          have X3 := X2.up hb
                          have Y3 := Y2.up hb
                          clear hb B2  P2 X2 Y2
                          obtain ⟨pf0, pf1, pf2, pf3, pf4, pf5, pf6, pf7, pf8⟩ := id P3
                          obtain ⟨xf0, xf1, xf2, xf3, xf4, xf5, xf6, xf7, xf8, xf9, xf10, xf11, xf12, xf13, xf14, xf15, xf16, xf17, xf18⟩ := id X3
                          obtain ⟨yf0, yf1, yf2, yf3, yf4, yf5, yf6, yf7, yf8, yf9, yf10, yf11, yf12, yf13, yf14, yf15, yf16, yf17, yf18⟩ := id Y3
                          go_wp2_with fail
                          clear pf0 pf1 pf2 pf3 pf4 pf5 pf6 pf7 pf8 xf0 xf1 xf2 xf3 xf4 xf5 xf6 xf7 xf8 xf9 xf10 xf11 xf12 xf13 xf14 xf15 xf16 xf17 xf18 yf0 yf1 yf2 yf3 yf4 yf5 yf6 yf7 yf8 yf9 yf10 yf11 yf12 yf13 yf14 yf15 yf16 yf17 yf18
                          refine (rcov_at (f q) p true _ hbb.out).mono ?_
                          rintro e w4 ⟨rfl, hb⟩
                          have B4 := Lib.hid (B3.out.up hb)
                          have P4 := P3.up hb
                          have X4 := X3.up hb
                          have Y4 := Y3.up hb
                          clear hb B3  P3 X3 Y3
                          obtain ⟨pf0, pf1, pf2, pf3, pf4, pf5, pf6, pf7, pf8⟩ := id P4
                          obtain ⟨xf0, xf1, xf2, xf3, xf4, xf5, xf6, xf7, xf8, xf9, xf10, xf11, xf12, xf13, xf14, xf15, xf16, xf17, xf18⟩ := id X4
                          obtain ⟨yf0, yf1, yf2, yf3, yf4, yf5, yf6, yf7, yf8, yf9, yf10, yf11, yf12, yf13, yf14, yf15, yf16, yf17, yf18⟩ := id Y4
                          go_wp2_with fail
                          clear pf0 pf1 pf2 pf3 pf4 pf5 pf6 pf7 pf8 xf0 xf1 xf2 xf3 xf4 xf5 xf6 xf7 xf8 xf9 xf10 xf11 xf12 xf13 xf14 xf15 xf16 xf17 xf18 yf0 yf1 yf2 yf3 yf4 yf5 yf6 yf7 yf8 yf9 yf10 yf11 yf12 yf13 yf14 yf15 yf16 yf17 yf18
                          refine (rcompare_at (f k).f p x1 _ y1.out).mono ?_
                          rintro e w5 ⟨rfl, hb⟩
                          have B5 := Lib.hid (B4.out.up hb)
                          have P5 := P4.up hb
                          have X5 := X4.up hb
                          have Y5 := Y4.up hb
                          clear hb B4  P4 X4 Y4
                          obtain ⟨pf0, pf1, pf2, pf3, pf4, pf5, pf6, pf7, pf8⟩ := id P5
                          obtain ⟨xf0, xf1, xf2, xf3, xf4, xf5, xf6, xf7, xf8, xf9, xf10, xf11, xf12, xf13, xf14, xf15, xf16, xf17, xf18⟩ := id X5
                          obtain ⟨yf0, yf1, yf2, yf3, yf4, yf5, yf6, yf7, yf8, yf9, yf10, yf11, yf12, yf13, yf14, yf15, yf16, yf17, yf18⟩ := id Y5
                          go_wp2_with fail
                          clear pf0 pf1 pf2 pf3 pf4 pf5 pf6 pf7 pf8 xf0 xf1 xf2 xf3 xf4 xf5 xf6 xf7 xf8 xf9 xf10 xf11 xf12 xf13 xf14 xf15 xf16 xf17 xf18 yf0 yf1 yf2 yf3 yf4 yf5 yf6 yf7 yf8 yf9 yf10 yf11 yf12 yf13 yf14 yf15 yf16 yf17 yf18
                          refine (rcompare_at p (f k).t x2 _ y2.out).mono ?_
                          rintro e w6 ⟨rfl, hb⟩
                          have B6 := Lib.hid (B5.out.up hb)
                          have P6 := P5.up hb
                          have X6 := X5.up hb
                          have Y6 := Y5.up hb
                          clear hb B5  P5 X5 Y5
                          obtain ⟨pf0, pf1, pf2, pf3, pf4, pf5, pf6, pf7, pf8⟩ := id P6
                          obtain ⟨xf0, xf1, xf2, xf3, xf4, xf5, xf6, xf7, xf8, xf9, xf10, xf11, xf12, xf13, xf14, xf15, xf16, xf17, xf18⟩ := id X6
                          obtain ⟨yf0, yf1, yf2, yf3, yf4, yf5, yf6, yf7, yf8, yf9, yf10, yf11, yf12, yf13, yf14, yf15, yf16, yf17, yf18⟩ := id Y6
                          go_wp2_with fail
                          go_roundg (k - (q + 1))
                          case measure => omega
                          case rel => exact ⟨q + 1, by omega, rfl, by go_num, B6, P6⟩
                        case pos =>
                          have z2 : decide (x2 < 0) = true := decide_eq_true g2
                          by_cases g3 : x3 < 0
                          case neg =>
                            have z3 : decide (x3 < 0) = false := decide_eq_false g3
                            obtain ⟨pf0, pf1, pf2, pf3, pf4, pf5, pf6, pf7, pf8⟩ := id P2
                            obtain ⟨xf0, xf1, xf2, xf3, xf4, xf5, xf6, xf7, xf8, xf9, xf10, xf11, xf12, xf13, xf14, xf15, xf16, xf17, xf18⟩ := id X2
                            obtain ⟨yf0, yf1, yf2, yf3, yf4, yf5, yf6, yf7, yf8, yf9, yf10, yf11, yf12, yf13, yf14, yf15, yf16, yf17, yf18⟩ := id Y2
                            go_wp2_with fail
                            clear pf0 pf1 pf2 pf3 pf4 pf5 pf6 pf7 pf8 xf0 xf1 xf2 xf3 xf4 xf5 xf6 xf7 xf8 xf9 xf10 xf11 xf12 xf13 xf14 xf15 xf16 xf17 xf18 yf0 yf1 yf2 yf3 yf4 yf5 yf6 yf7 yf8 yf9 yf10 yf11 yf12 yf13 yf14 yf15 yf16 yf17 yf18
                            refine (rcov_at (f k) p true _ ha.out).mono ?_
                            rintro e w3 ⟨rfl, hb⟩
                            have B3 := Lib.hid (B2.out.up hb)
                            have P3 := P2.up hb
                            have X3 := X2.up hb
                            have Y3 := Y2.up hb
                            clear hb B2  P2 X2 Y2
                            obtain ⟨pf0, pf1, pf2, pf3, pf4, pf5, pf6, pf7, pf8⟩ := id P3
                            obtain ⟨xf0, xf1, xf2, xf3, xf4, xf5, xf6, xf7, xf8, xf9, xf10, xf11, xf12, xf13, xf14, xf15, xf16, xf17, xf18⟩ := id X3
                            obtain ⟨yf0, yf1, yf2, yf3, yf4, yf5, yf6, yf7, yf8, yf9, yf10, yf11, yf12, yf13, yf14, yf15, yf16, yf17, yf18⟩ := id Y3
                            go_wp2_with fail
                            clear pf0 pf1 pf2 pf3 pf4 pf5 pf6 pf7 pf8 xf0 xf1 xf2 xf3 xf4 xf5 xf6 xf7 xf8 xf9 xf10 xf11 xf12 xf13 xf14 xf15 xf16 xf17 xf18 yf0 yf1 yf2 yf3 yf4 yf5 yf6 yf7 yf8 yf9 yf10 yf11 yf12 yf13 yf14 yf15 yf16 yf17 yf18
                            refine (rcov_at (f q) p true _ hbb.out).mono ?_
                            rintro e w4 ⟨rfl, hb⟩
                            have B4 := Lib.hid (B3.out.up hb)
                            have P4 := P3.up hb
                            have X4 := X3.up hb
                            have Y4 := Y3.up hb
                            clear hb B3  P3 X3 Y3
                            obtain ⟨pf0, pf1, pf2, pf3, pf4, pf5, pf6, pf7, pf8⟩ := id P4
                            obtain ⟨xf0, xf1, xf2, xf3, xf4, xf5, xf6, xf7, xf8, xf9, xf10, xf11, xf12, xf13, xf14, xf15, xf16, xf17, xf18⟩ := id X4
                            obtain ⟨yf0, yf1, yf2, yf3, yf4, yf5, yf6, yf7, yf8, yf9, yf10, yf11, yf12, yf13, yf14, yf15, yf16, yf17, yf18⟩ := id Y4
                            go_wp2_with fail
                            clear pf0 pf1 pf2 pf3 pf4 pf5 pf6 pf7 pf8 xf0 xf1 xf2 xf3 xf4 xf5 xf6 xf7 xf8 xf9 xf10 xf11 xf12 xf13 xf14 xf15 xf16 xf17 xf18 yf0 yf1 yf2 yf3 yf4 yf5 yf6 yf7 yf8 yf9 yf10 yf11 yf12 yf13 yf14 yf15 yf16 yf17 yf18
                            refine (rcompare_at (f k).f p x1 _ y1.out).mono ?_
                            rintro e w5 ⟨rfl, hb⟩
                            have B5 := Lib.hid (B4.out.up hb)
                            have P5 := P4.up hb
                            have X5 := X4.up hb
                            have Y5 := Y4.up hb
                            clear hb B4  P4 X4 Y4
                            obtain ⟨pf0, pf1, pf2, pf3, pf4, pf5, pf6, pf7, pf8⟩ := id P5
                            obtain ⟨xf0, xf1, xf2, xf3, xf4, xf5, xf6, xf7, xf8, xf9, xf10, xf11, xf12, xf13, xf14, xf15, xf16, xf17, xf18⟩ := id X5
                            obtain ⟨yf0, yf1, yf2, yf3, yf4, yf5, yf6, yf7, yf8, yf9, yf10, yf11, yf12, yf13, yf14, yf15, yf16, yf17, yf18⟩ := id Y5
                            go_wp2_with fail
                            clear pf0 pf1 pf2 pf3 pf4 pf5 pf6 pf7 pf8 xf0 xf1 xf2 xf3 xf4 xf5 xf6 xf7 xf8 xf9 xf10 xf11 xf12 xf13 xf14 xf15 xf16 xf17 xf18 yf0 yf1 yf2 yf3 yf4 yf5 yf6 yf7 yf8 yf9 yf10 yf11 yf12 yf13 yf14 yf15 yf16 yf17 yf18
                            refine (rcompare_at p (f k).t x2 _ y2.out).mono ?_
                            rintro e w6 ⟨rfl, hb⟩
                            have B6 := Lib.hid (B5.out.up hb)
                            have P6 := P5.up hb
                            have X6 := X5.up hb
                            have Y6 := Y5.up hb
                            clear hb B5  P5 X5 Y5
                            obtain ⟨pf0, pf1, pf2, pf3, pf4, pf5, pf6, pf7, pf8⟩ := id P6
                            obtain ⟨xf0, xf1, xf2, xf3, xf4, xf5, xf6, xf7, xf8, xf9, xf10, xf11, xf12, xf13, xf14, xf15, xf16, xf17, xf18⟩ := id X6
                            obtain ⟨yf0, yf1, yf2, yf3, yf4, yf5, yf6, yf7, yf8, yf9, yf10, yf11, yf12, yf13, yf14, yf15, yf16, yf17, yf18⟩ := id Y6
                            go_wp2_with fail
                            clear pf0 pf1 pf2 pf3 pf4 pf5 pf6 pf7 pf8 xf0 xf1 xf2 xf3 xf4 xf5 xf6 xf7 xf8 xf9 xf10 xf11 xf12 xf13 xf14 xf15 xf16 xf17 xf18 yf0 yf1 yf2 yf3 yf4 yf5 yf6 yf7 yf8 yf9 yf10 yf11 yf12 yf13 yf14 yf15 yf16 yf17 yf18
                            refine (rcompare_at (f q).f p x3 _ y3.out).mono ?_
                            rintro e w7 ⟨rfl, hb⟩
                            have B7 := Lib.hid (B6.out.up hb)
                            have P7 := P6.up hb
                            have X7 := X6.up hb
                            have Y7 := Y6.up hb
                            clear hb B6  P6 X6 Y6
                            obtain ⟨pf0, pf1, pf2, pf3, pf4, pf5, pf6, pf7, pf8⟩ := id P7
                            obtain ⟨xf0, xf1, xf2, xf3, xf4, xf5, xf6, xf7, xf8, xf9, xf10, xf11, xf12, xf13, xf14, xf15, xf16, xf17, xf18⟩ := id X7
                            obtain ⟨yf0, yf1, yf2, yf3, yf4, yf5, yf6, yf7, yf8, yf9, yf10, yf11, yf12, yf13, yf14, yf15, yf16, yf17, yf18⟩ := id Y7
                            go_wp2_with fail
                            go_roundg (k - (q + 1))
                            case measure => omega
                            case rel => exact ⟨q + 1, by omega, rfl, by go_num, B7, P7⟩
                          case pos =>
                            have z3 : decide (x3 < 0) = true := decide_eq_true g3
                            by_cases g4 : x4 < 0
                            case neg =>
                              have z4 : decide (x4 < 0) = false := decide_eq_false g4
                              obtain ⟨pf0, pf1, pf2, pf3, pf4, pf5, pf6, pf7, pf8⟩ := id P2
                              obtain ⟨xf0, xf1, xf2, xf3, xf4, xf5, xf6, xf7, xf8, xf9, xf10, xf11, xf12, xf13, xf14, xf15, xf16, xf17, xf18⟩ := id X2
                              obtain ⟨yf0, yf1, yf2, yf3, yf4, yf5, yf6, yf7, yf8, yf9, yf10, yf11, yf12, yf13, yf14, yf15, yf16, yf17, yf18⟩ := id Y2
                              go_wp2_with fail
                              clear pf0 pf1 pf2 pf3 pf4 pf5 pf6 pf7 pf8 xf0 xf1 xf2 xf3 xf4 xf5 xf6 xf7 xf8 xf9 xf10 xf11 xf12 xf13 xf14 xf15 xf16 xf17 xf18 yf0 yf1 yf2 yf3 yf4 yf5 yf6 yf7 yf8 yf9 yf10 yf11 yf12 yf13 yf14 yf15 yf16 yf17 yf18
                              refine (rcov_at (f k) p true _ ha.out).mono ?_
                              rintro e w3 ⟨rfl, hb⟩
                              have B3 := Lib.hid (B2.out.up hb)
                              have P3 := P2.up hb
                              have X3 := X2.up hb
                              have Y3 := Y2.up hb
                              clear hb B2  P2 X2 Y2
                              obtain ⟨pf0, pf1, pf2, pf3, pf4, pf5, pf6, pf7, pf8⟩ := id P3
                              obtain ⟨xf0, xf1, xf2, xf3, xf4, xf5, xf6, xf7, xf8, xf9, xf10, xf11, xf12, xf13, xf14, xf15, xf16, xf17, xf18⟩ := id X3
                              obtain ⟨yf0, yf1, yf2, yf3, yf4, yf5, yf6, yf7, yf8, yf9, yf10, yf11, yf12, yf13, yf14, yf15, yf16, yf17, yf18⟩ := id Y3
                              go_wp2_with fail
                              clear pf0 pf1 pf2 pf3 pf4 pf5 pf6 pf7 pf8 xf0 xf1 xf2 xf3 xf4 xf5 xf6 xf7 xf8 xf9 xf10 xf11 xf12 xf13 xf14 xf15 xf16 xf17 xf18 yf0 yf1 yf2 yf3 yf4 yf5 yf6 yf7 yf8 yf9 yf10 yf11 yf12 yf13 yf14 yf15 yf16 yf17 yf18
                              refine (rcov_at (f q) p true _ hbb.out).mono ?_
                              rintro e w4 ⟨rfl, hb⟩
                              have B4 := Lib.hid (B3.out.up hb)
                              have P4 := P3.up hb
                              have X4 := X3.up hb
                              have Y4 := Y3.up hb
                              clear hb B3  P3 X3 Y3
                              obtain ⟨pf0, pf1, pf2, pf3, pf4, pf5, pf6, pf7, pf8⟩ := id P4
                              obtain ⟨xf0, xf1, xf2, xf3, xf4, xf5, xf6, xf7, xf8, xf9, xf10, xf11, xf12, xf13, xf14, xf15, xf16, xf17, xf18⟩ := id X4
                              obtain ⟨yf0, yf1, yf2, yf3, yf4, yf5, yf6, yf7, yf8, yf9, yf10, yf11, yf12, yf13, yf14, yf15, yf16, yf17, yf18⟩ := id Y4
                              go_wp2_with fail
                              clear pf0 pf1 pf2 pf3 pf4 pf5 pf6 pf7 pf8 xf0 xf1 xf2 xf3 xf4 xf5 xf6 xf7 xf8 xf9 xf10 xf11 xf12 xf13 xf14 xf15 xf16 xf17 xf18 yf0 yf1 yf2 yf3 yf4 yf5 yf6 yf7 yf8 yf9 yf10 yf11 yf12 yf13 yf14 yf15 yf16 yf17 yf18
                              refine (rcompare_at (f k).f p x1 _ y1.out).mono ?_
                              rintro e w5 ⟨rfl, hb⟩
                              have B5 := Lib.hid (B4.out.up hb)
                              have P5 := P4.up hb
                              have X5 := X4.up hb
                              have Y5 := Y4.up hb
                              clear hb B4  P4 X4 Y4
                              obtain ⟨pf0, pf1, pf2, pf3, pf4, pf5, pf6, pf7, pf8⟩ := id P5
                              obtain ⟨xf0, xf1, xf2, xf3, xf4, xf5, xf6, xf7, xf8, xf9, xf10, xf11, xf12, xf13, xf14, xf15, xf16, xf17, xf18⟩ := id X5
                              obtain ⟨yf0, yf1, yf2, yf3, yf4, yf5, yf6, yf7, yf8, yf9, yf10, yf11, yf12, yf13, yf14, yf15, yf16, yf17, yf18⟩ := id Y5
                              go_wp2_with fail
                              clear pf0 pf1 pf2 pf3 pf4 pf5 pf6 pf7 pf8 xf0 xf1 xf2 xf3 xf4 xf5 xf6 xf7 xf8 xf9 xf10 xf11 xf12 xf13 xf14 xf15 xf16 xf17 xf18 yf0 yf1 yf2 yf3 yf4 yf5 yf6 yf7 yf8 yf9 yf10 yf11 yf12 yf13 yf14 yf15 yf16 yf17 yf18
                              refine (rcompare_at p (f k).t x2 _ y2.out).mono ?_
                              rintro e w6 ⟨rfl, hb⟩
                              have B6 := Lib.hid (B5.out.up hb)
                              have P6 := P5.up hb
                              have X6 := X5.up hb
                              have Y6 := Y5.up hb
                              clear hb B5  P5 X5 Y5
                              obtain ⟨pf0, pf1, pf2, pf3, pf4, pf5, pf6, pf7, pf8⟩ := id P6
                              obtain ⟨xf0, xf1, xf2, xf3, xf4, xf5, xf6, xf7, xf8, xf9, xf10, xf11, xf12, xf13, xf14, xf15, xf16, xf17, xf18⟩ := id X6
                              obtain ⟨yf0, yf1, yf2, yf3, yf4, yf5, yf6, yf7, yf8, yf9, yf10, yf11, yf12, yf13, yf14, yf15, yf16, yf17, yf18⟩ := id Y6
                              go_wp2_with fail
                              clear pf0 pf1 pf2 pf3 pf4 pf5 pf6 pf7 pf8 xf0 xf1 xf2 xf3 xf4 xf5 xf6 xf7 xf8 xf9 xf10 xf11 xf12 xf13 xf14 xf15 xf16 xf17 xf18 yf0 yf1 yf2 yf3 yf4 yf5 yf6 yf7 yf8 yf9 yf10 yf11 yf12 yf13 yf14 yf15 yf16 yf17 yf18
                              refine (rcompare_at (f q).f p x3 _ y3.out).mono ?_
                              rintro e w7 ⟨rfl, hb⟩
                              have B7 := Lib.hid (B6.out.up hb)
                              have P7 := P6.up hb
                              have X7 := X6.up hb
                              have Y7 := Y6.up hb
                              clear hb B6  P6 X6 Y6
                              obtain ⟨pf0, pf1, pf2, pf3, pf4, pf5, pf6, pf7, pf8⟩ := id P7
                              obtain ⟨xf0, xf1, xf2, xf3, xf4, xf5, xf6, xf7, xf8, xf9, xf10, xf11, xf12, xf13, xf14, xf15, xf16, xf17, xf18⟩ := id X7
                              obtain ⟨yf0, yf1, yf2, yf3, yf4, yf5, yf6, yf7, yf8, yf9, yf10, yf11, yf12, yf13, yf14, yf15, yf16, yf17, yf18⟩ := id Y7
                              go_wp2_with fail
                              clear pf0 pf1 pf2 pf3 pf4 pf5 pf6 pf7 pf8 xf0 xf1 xf2 xf3 xf4 xf5 xf6 xf7 xf8 xf9 xf10 xf11 xf12 xf13 xf14 xf15 xf16 xf17 xf18 yf0 yf1 yf2 yf3 yf4 yf5 yf6 yf7 yf8 yf9 yf10 yf11 yf12 yf13 yf14 yf15 yf16 yf17 yf18
                              refine (rcompare_at p (f q).t x4 _ y4.out).mono ?_
                              rintro e w8 ⟨rfl, hb⟩
                              have B8 := Lib.hid (B7.out.up hb)
                              have P8 := P7.up hb
                              have X8 := X7.up hb
                              have Y8 := Y7.up hb
                              clear hb B7  P7 X7 Y7
                              obtain ⟨pf0, pf1, pf2, pf3, pf4, pf5, pf6, pf7, pf8⟩ := id P8
                              obtain ⟨xf0, xf1, xf2, xf3, xf4, xf5, xf6, xf7, xf8, xf9, xf10, xf11, xf12, xf13, xf14, xf15, xf16, xf17, xf18⟩ := id X8
                              obtain ⟨yf0, yf1, yf2, yf3, yf4, yf5, yf6, yf7, yf8, yf9, yf10, yf11, yf12, yf13, yf14, yf15, yf16, yf17, yf18⟩ := id Y8
                              go_wp2_with fail
                              go_roundg (k - (q + 1))
                              case measure => omega
                              case rel => exact ⟨q + 1, by omega, rfl, by go_num, B8, P8⟩
                            case pos =>
                              have z4 : decide (x4 < 0) = true := decide_eq_true g4
                              cases hw : wth (f k) (f q)
                              case true =>
                                replace hw := Lib.hid hw
                                obtain ⟨pf0, pf1, pf2, pf3, pf4, pf5, pf6, pf7, pf8⟩ := id P2
                                obtain ⟨xf0, xf1, xf2, xf3, xf4, xf5, xf6, xf7, xf8, xf9, xf10, xf11, xf12, xf13, xf14, xf15, xf16, xf17, xf18⟩ := id X2
                                obtain ⟨yf0, yf1, yf2, yf3, yf4, yf5, yf6, yf7, yf8, yf9, yf10, yf11, yf12, yf13, yf14, yf15, yf16, yf17, yf18⟩ := id Y2
                                go_wp2_with fail
                                clear pf0 pf1 pf2 pf3 pf4 pf5 pf6 pf7 pf8 xf0 xf1 xf2 xf3 xf4 xf5 xf6 xf7 xf8 xf9 xf10 xf11 xf12 xf13 xf14 xf15 xf16 xf17 xf18 yf0 yf1 yf2 yf3 yf4 yf5 yf6 yf7 yf8 yf9 yf10 yf11 yf12 yf13 yf14 yf15 yf16 yf17 yf18
                                refine (rcov_at (f k) p true _ ha.out).mono ?_
                                rintro e w3 ⟨rfl, hb⟩
                                have B3 := Lib.hid (B2.out.up hb)
                                have P3 := P2.up hb
                                have X3 := X2.up hb
                                have Y3 := Y2.up hb
                                clear hb B2  P2 X2 Y2
                                obtain ⟨pf0, pf1, pf2, pf3, pf4, pf5, pf6, pf7, pf8⟩ := id P3
                                obtain ⟨xf0, xf1, xf2, xf3, xf4, xf5, xf6, xf7, xf8, xf9, xf10, xf11, xf12, xf13, xf14, xf15, xf16, xf17, xf18⟩ := id X3
                                obtain ⟨yf0, yf1, yf2, yf3, yf4, yf5, yf6, yf7, yf8, yf9, yf10, yf11, yf12, yf13, yf14, yf15, yf16, yf17, yf18⟩ := id Y3
                                go_wp2_with fail
                                clear pf0 pf1 pf2 pf3 pf4 pf5 pf6 pf7 pf8 xf0 xf1 xf2 xf3 xf4 xf5 xf6 xf7 xf8 xf9 xf10 xf11 xf12 xf13 xf14 xf15 xf16 xf17 xf18 yf0 yf1 yf2 yf3 yf4 yf5 yf6 yf7 yf8 yf9 yf10 yf11 yf12 yf13 yf14 yf15 yf16 yf17 yf18
                                refine (rcov_at (f q) p true _ hbb.out).mono ?_
                                rintro e w4 ⟨rfl, hb⟩
                                have B4 := Lib.hid (B3.out.up hb)
                                have P4 := P3.up hb
                                have X4 := X3.up hb
                                have Y4 := Y3.up hb
                                clear hb B3  P3 X3 Y3
                                obtain ⟨pf0, pf1, pf2, pf3, pf4, pf5, pf6, pf7, pf8⟩ := id P4
                                obtain ⟨xf0, xf1, xf2, xf3, xf4, xf5, xf6, xf7, xf8, xf9, xf10, xf11, xf12, xf13, xf14, xf15, xf16, xf17, xf18⟩ := id X4
                                obtain ⟨yf0, yf1, yf2, yf3, yf4, yf5, yf6, yf7, yf8, yf9, yf10, yf11, yf12, yf13, yf14, yf15, yf16, yf17, yf18⟩ := id Y4
                                go_wp2_with fail
                                clear pf0 pf1 pf2 pf3 pf4 pf5 pf6 pf7 pf8 xf0 xf1 xf2 xf3 xf4 xf5 xf6 xf7 xf8 xf9 xf10 xf11 xf12 xf13 xf14 xf15 xf16 xf17 xf18 yf0 yf1 yf2 yf3 yf4 yf5 yf6 yf7 yf8 yf9 yf10 yf11 yf12 yf13 yf14 yf15 yf16 yf17 yf18
                                refine (rcompare_at (f k).f p x1 _ y1.out).mono ?_
                                rintro e w5 ⟨rfl, hb⟩
                                have B5 := Lib.hid (B4.out.up hb)
                                have P5 := P4.up hb
                                have X5 := X4.up hb
                                have Y5 := Y4.up hb
                                clear hb B4  P4 X4 Y4
                                obtain ⟨pf0, pf1, pf2, pf3, pf4, pf5, pf6, pf7, pf8⟩ := id P5
                                obtain ⟨xf0, xf1, xf2, xf3, xf4, xf5, xf6, xf7, xf8, xf9, xf10, xf11, xf12, xf13, xf14, xf15, xf16, xf17, xf18⟩ := id X5
                                obtain ⟨yf0, yf1, yf2, yf3, yf4, yf5, yf6, yf7, yf8, yf9, yf10, yf11, yf12, yf13, yf14, yf15, yf16, yf17, yf18⟩ := id Y5
                                go_wp2_with fail
                                clear pf0 pf1 pf2 pf3 pf4 pf5 pf6 pf7 pf8 xf0 xf1 xf2 xf3 xf4 xf5 xf6 xf7 xf8 xf9 xf10 xf11 xf12 xf13 xf14 xf15 xf16 xf17 xf18 yf0 yf1 yf2 yf3 yf4 yf5 yf6 yf7 yf8 yf9 yf10 yf11 yf12 yf13 yf14 yf15 yf16 yf17 yf18
                                refine (rcompare_at p (f k).t x2 _ y2.out).mono ?_
                                rintro e w6 ⟨rfl, hb⟩
                                have B6 := Lib.hid (B5.out.up hb)
                                have P6 := P5.up hb
                                have X6 := X5.up hb
                                have Y6 := Y5.up hb
                                clear hb B5  P5 X5 Y5
                                obtain ⟨pf0, pf1, pf2, pf3, pf4, pf5, pf6, pf7, pf8⟩ := id P6
                                obtain ⟨xf0, xf1, xf2, xf3, xf4, xf5, xf6, xf7, xf8, xf9, xf10, xf11, xf12, xf13, xf14, xf15, xf16, xf17, xf18⟩ := id X6
                                obtain ⟨yf0, yf1, yf2, yf3, yf4, yf5, yf6, yf7, yf8, yf9, yf10, yf11, yf12, yf13, yf14, yf15, yf16, yf17, yf18⟩ := id Y6
                                go_wp2_with fail
                                clear pf0 pf1 pf2 pf3 pf4 pf5 pf6 pf7 pf8 xf0 xf1 xf2 xf3 xf4 xf5 xf6 xf7 xf8 xf9 xf10 xf11 xf12 xf13 xf14 xf15 xf16 xf17 xf18 yf0 yf1 yf2 yf3 yf4 yf5 yf6 yf7 yf8 yf9 yf10 yf11 yf12 yf13 yf14 yf15 yf16 yf17 yf18
                                refine (rcompare_at (f q).f p x3 _ y3.out).mono ?_
                                rintro e w7 ⟨rfl, hb⟩
                                have B7 := Lib.hid (B6.out.up hb)
                                have P7 := P6.up hb
                                have X7 := X6.up hb
                                have Y7 := Y6.up hb
                                clear hb B6  P6 X6 Y6
                                obtain ⟨pf0, pf1, pf2, pf3, pf4, pf5, pf6, pf7, pf8⟩ := id P7
                                obtain ⟨xf0, xf1, xf2, xf3, xf4, xf5, xf6, xf7, xf8, xf9, xf10, xf11, xf12, xf13, xf14, xf15, xf16, xf17, xf18⟩ := id X7
                                obtain ⟨yf0, yf1, yf2, yf3, yf4, yf5, yf6, yf7, yf8, yf9, yf10, yf11, yf12, yf13, yf14, yf15, yf16, yf17, yf18⟩ := id Y7
                                go_wp2_with fail
                                clear pf0 pf1 pf2 pf3 pf4 pf5 pf6 pf7 pf8 xf0 xf1 xf2 xf3 xf4 xf5 xf6 xf7 xf8 xf9 xf10 xf11 xf12 xf13 xf14 xf15 xf16 xf17 xf18 yf0 yf1 yf2 yf3 yf4 yf5 yf6 yf7 yf8 yf9 yf10 yf11 yf12 yf13 yf14 yf15 yf16 yf17 yf18
                                refine (rcompare_at p (f q).t x4 _ y4.out).mono ?_
                                rintro e w8 ⟨rfl, hb⟩
                                have B8 := Lib.hid (B7.out.up hb)
                                have P8 := P7.up hb
                                have X8 := X7.up hb
                                have Y8 := Y7.up hb
                                clear hb B7  P7 X7 Y7
                                obtain ⟨pf0, pf1, pf2, pf3, pf4, pf5, pf6, pf7, pf8⟩ := id P8
                                obtain ⟨xf0, xf1, xf2, xf3, xf4, xf5, xf6, xf7, xf8, xf9, xf10, xf11, xf12, xf13, xf14, xf15, xf16, xf17, xf18⟩ := id X8
                                obtain ⟨yf0, yf1, yf2, yf3, yf4, yf5, yf6, yf7, yf8, yf9, yf10, yf11, yf12, yf13, yf14, yf15, yf16, yf17, yf18⟩ := id Y8
                                go_wp2_with fail
                                clear pf0 pf1 pf2 pf3 pf4 pf5 pf6 pf7 pf8 xf0 xf1 xf2 xf3 xf4 xf5 xf6 xf7 xf8 xf9 xf10 xf11 xf12 xf13 xf14 xf15 xf16 xf17 xf18 yf0 yf1 yf2 yf3 yf4 yf5 yf6 yf7 yf8 yf9 yf10 yf11 yf12 yf13 yf14 yf15 yf16 yf17 yf18
                                refine (rwithin_at (f k) (f q) true _ hw.out).mono ?_
                                rintro e w9 ⟨rfl, hb⟩
                                have B9 := Lib.hid (B8.out.up hb)
                                have P9 := P8.up hb
                                have X9 := X8.up hb
                                have Y9 := Y8.up hb
                                clear hb B8  P8 X8 Y8
                                obtain ⟨pf0, pf1, pf2, pf3, pf4, pf5, pf6, pf7, pf8⟩ := id P9
                                obtain ⟨xf0, xf1, xf2, xf3, xf4, xf5, xf6, xf7, xf8, xf9, xf10, xf11, xf12, xf13, xf14, xf15, xf16, xf17, xf18⟩ := id X9
                                obtain ⟨yf0, yf1, yf2, yf3, yf4, yf5, yf6, yf7, yf8, yf9, yf10, yf11, yf12, yf13, yf14, yf15, yf16, yf17, yf18⟩ := id Y9
                                go_wp2_with fail
                                go_roundg (k - (q + 1))
                                case measure => omega
                                case rel => exact ⟨q + 1, by omega, rfl, by go_num, B9, P9⟩
                              case false =>
                                have hw2 := Lib.hid (nest_ok KA.out KB.out ha.out hbb.out HC.out (by rw [y1.out]; exact g1) (by rw [y2.out]; exact g2) (by rw [y3.out]; exact g3) (by rw [y4.out]; exact g4) hw)
                                replace hw := Lib.hid hw
                                obtain ⟨pf0, pf1, pf2, pf3, pf4, pf5, pf6, pf7, pf8⟩ := id P2
                                obtain ⟨xf0, xf1, xf2, xf3, xf4, xf5, xf6, xf7, xf8, xf9, xf10, xf11, xf12, xf13, xf14, xf15, xf16, xf17, xf18⟩ := id X2
                                obtain ⟨yf0, yf1, yf2, yf3, yf4, yf5, yf6, yf7, yf8, yf9, yf10, yf11, yf12, yf13, yf14, yf15, yf16, yf17, yf18⟩ := id Y2
                                go_wp2_with fail
                                clear pf0 pf1 pf2 pf3 pf4 pf5 pf6 pf7 pf8 xf0 xf1 xf2 xf3 xf4 xf5 xf6 xf7 xf8 xf9 xf10 xf11 xf12 xf13 xf14 xf15 xf16 xf17 xf18 yf0 yf1 yf2 yf3 yf4 yf5 yf6 yf7 yf8 yf9 yf10 yf11 yf12 yf13 yf14 yf15 yf16 yf17 yf18
                                refine (rcov_at (f k) p true _ ha.out).mono ?_
                                rintro e w3 ⟨rfl, hb⟩
                                have B3 := Lib.hid (B2.out.up hb)
                                have P3 := P2.up hb
                                have X3 := X2.up hb
                                have Y3 := Y2.up hb
                                clear hb B2  P2 X2 Y2
                                obtain ⟨pf0, pf1, pf2, pf3, pf4, pf5, pf6, pf7, pf8⟩ := id P3
                                obtain ⟨xf0, xf1, xf2, xf3, xf4, xf5, xf6, xf7, xf8, xf9, xf10, xf11, xf12, xf13, xf14, xf15, xf16, xf17, xf18⟩ := id X3
                                obtain ⟨yf0, yf1, yf2, yf3, yf4, yf5, yf6, yf7, yf8, yf9, yf10, yf11, yf12, yf13, yf14, yf15, yf16, yf17, yf18⟩ := id Y3
                                go_wp2_with fail
                                clear pf0 pf1 pf2 pf3 pf4 pf5 pf6 pf7 pf8 xf0 xf1 xf2 xf3 xf4 xf5 xf6 xf7 xf8 xf9 xf10 xf11 xf12 xf13 xf14 xf15 xf16 xf17 xf18 yf0 yf1 yf2 yf3 yf4 yf5 yf6 yf7 yf8 yf9 yf10 yf11 yf12 yf13 yf14 yf15 yf16 yf17 yf18
                                refine (rcov_at (f q) p true _ hbb.out).mono ?_
                                rintro e w4 ⟨rfl, hb⟩
                                have B4 := Lib.hid (B3.out.up hb)
                                have P4 := P3.up hb
                                have X4 := X3.up hb
                                have Y4 := Y3.up hb
                                clear hb B3  P3 X3 Y3
                                obtain ⟨pf0, pf1, pf2, pf3, pf4, pf5, pf6, pf7, pf8⟩ := id P4
                                obtain ⟨xf0, xf1, xf2, xf3, xf4, xf5, xf6, xf7, xf8, xf9, xf10, xf11, xf12, xf13, xf14, xf15, xf16, xf17, xf18⟩ := id X4
                                obtain ⟨yf0, yf1, yf2, yf3, yf4, yf5, yf6, yf7, yf8, yf9, yf10, yf11, yf12, yf13, yf14, yf15, yf16, yf17, yf18⟩ := id Y4
                                go_wp2_with fail
                                clear pf0 pf1 pf2 pf3 pf4 pf5 pf6 pf7 pf8 xf0 xf1 xf2 xf3 xf4 xf5 xf6 xf7 xf8 xf9 xf10 xf11 xf12 xf13 xf14 xf15 xf16 xf17 xf18 yf0 yf1 yf2 yf3 yf4 yf5 yf6 yf7 yf8 yf9 yf10 yf11 yf12 yf13 yf14 yf15 yf16 yf17 yf18
                                refine (rcompare_at (f k).f p x1 _ y1.out).mono ?_
                                rintro e w5 ⟨rfl, hb⟩
                                have B5 := Lib.hid (B4.out.up hb)
                                have P5 := P4.up hb
                                have X5 := X4.up hb
                                have Y5 := Y4.up hb
                                clear hb B4  P4 X4 Y4
                                obtain ⟨pf0, pf1, pf2, pf3, pf4, pf5, pf6, pf7, pf8⟩ := id P5
                                obtain ⟨xf0, xf1, xf2, xf3, xf4, xf5, xf6, xf7, xf8, xf9, xf10, xf11, xf12, xf13, xf14, xf15, xf16, xf17, xf18⟩ := id X5
                                obtain ⟨yf0, yf1, yf2, yf3, yf4, yf5, yf6, yf7, yf8, yf9, yf10, yf11, yf12, yf13, yf14, yf15, yf16, yf17, yf18⟩ := id Y5
                                go_wp2_with fail
                                clear pf0 pf1 pf2 pf3 pf4 pf5 pf6 pf7 pf8 xf0 xf1 xf2 xf3 xf4 xf5 xf6 xf7 xf8 xf9 xf10 xf11 xf12 xf13 xf14 xf15 xf16 xf17 xf18 yf0 yf1 yf2 yf3 yf4 yf5 yf6 yf7 yf8 yf9 yf10 yf11 yf12 yf13 yf14 yf15 yf16 yf17 yf18
                                refine (rcompare_at p (f k).t x2 _ y2.out).mono ?_
                                rintro e w6 ⟨rfl, hb⟩
                                have B6 := Lib.hid (B5.out.up hb)
                                have P6 := P5.up hb
                                have X6 := X5.up hb
                                have Y6 := Y5.up hb
                                clear hb B5  P5 X5 Y5
                                obtain ⟨pf0, pf1, pf2, pf3, pf4, pf5, pf6, pf7, pf8⟩ := id P6
                                obtain ⟨xf0, xf1, xf2, xf3, xf4, xf5, xf6, xf7, xf8, xf9, xf10, xf11, xf12, xf13, xf14, xf15, xf16, xf17, xf18⟩ := id X6
                                obtain ⟨yf0, yf1, yf2, yf3, yf4, yf5, yf6, yf7, yf8, yf9, yf10, yf11, yf12, yf13, yf14, yf15, yf16, yf17, yf18⟩ := id Y6
                                go_wp2_with fail
                                clear pf0 pf1 pf2 pf3 pf4 pf5 pf6 pf7 pf8 xf0 xf1 xf2 xf3 xf4 xf5 xf6 xf7 xf8 xf9 xf10 xf11 xf12 xf13 xf14 xf15 xf16 xf17 xf18 yf0 yf1 yf2 yf3 yf4 yf5 yf6 yf7 yf8 yf9 yf10 yf11 yf12 yf13 yf14 yf15 yf16 yf17 yf18
                                refine (rcompare_at (f q).f p x3 _ y3.out).mono ?_
                                rintro e w7 ⟨rfl, hb⟩
                                have B7 := Lib.hid (B6.out.up hb)
                                have P7 := P6.up hb
                                have X7 := X6.up hb
                                have Y7 := Y6.up hb
                                clear hb B6  P6 X6 Y6
                                obtain ⟨pf0, pf1, pf2, pf3, pf4, pf5, pf6, pf7, pf8⟩ := id P7
                                obtain ⟨xf0, xf1, xf2, xf3, xf4, xf5, xf6, xf7, xf8, xf9, xf10, xf11, xf12, xf13, xf14, xf15, xf16, xf17, xf18⟩ := id X7
                                obtain ⟨yf0, yf1, yf2, yf3, yf4, yf5, yf6, yf7, yf8, yf9, yf10, yf11, yf12, yf13, yf14, yf15, yf16, yf17, yf18⟩ := id Y7
                                go_wp2_with fail
                                clear pf0 pf1 pf2 pf3 pf4 pf5 pf6 pf7 pf8 xf0 xf1 xf2 xf3 xf4 xf5 xf6 xf7 xf8 xf9 xf10 xf11 xf12 xf13 xf14 xf15 xf16 xf17 xf18 yf0 yf1 yf2 yf3 yf4 yf5 yf6 yf7 yf8 yf9 yf10 yf11 yf12 yf13 yf14 yf15 yf16 yf17 yf18
                                refine (rcompare_at p (f q).t x4 _ y4.out).mono ?_
                                rintro e w8 ⟨rfl, hb⟩
                                have B8 := Lib.hid (B7.out.up hb)
                                have P8 := P7.up hb
                                have X8 := X7.up hb
                                have Y8 := Y7.up hb
                                clear hb B7  P7 X7 Y7
                                obtain ⟨pf0, pf1, pf2, pf3, pf4, pf5, pf6, pf7, pf8⟩ := id P8
                                obtain ⟨xf0, xf1, xf2, xf3, xf4, xf5, xf6, xf7, xf8, xf9, xf10, xf11, xf12, xf13, xf14, xf15, xf16, xf17, xf18⟩ := id X8
                                obtain ⟨yf0, yf1, yf2, yf3, yf4, yf5, yf6, yf7, yf8, yf9, yf10, yf11, yf12, yf13, yf14, yf15, yf16, yf17, yf18⟩ := id Y8
                                go_wp2_with fail
                                clear pf0 pf1 pf2 pf3 pf4 pf5 pf6 pf7 pf8 xf0 xf1 xf2 xf3 xf4 xf5 xf6 xf7 xf8 xf9 xf10 xf11 xf12 xf13 xf14 xf15 xf16 xf17 xf18 yf0 yf1 yf2 yf3 yf4 yf5 yf6 yf7 yf8 yf9 yf10 yf11 yf12 yf13 yf14 yf15 yf16 yf17 yf18
                                refine (rwithin_at (f k) (f q) false _ hw.out).mono ?_
                                rintro e w9 ⟨rfl, hb⟩
                                have B9 := Lib.hid (B8.out.up hb)
                                have P9 := P8.up hb
                                have X9 := X8.up hb
                                have Y9 := Y8.up hb
                                clear hb B8  P8 X8 Y8
                                obtain ⟨pf0, pf1, pf2, pf3, pf4, pf5, pf6, pf7, pf8⟩ := id P9
                                obtain ⟨xf0, xf1, xf2, xf3, xf4, xf5, xf6, xf7, xf8, xf9, xf10, xf11, xf12, xf13, xf14, xf15, xf16, xf17, xf18⟩ := id X9
                                obtain ⟨yf0, yf1, yf2, yf3, yf4, yf5, yf6, yf7, yf8, yf9, yf10, yf11, yf12, yf13, yf14, yf15, yf16, yf17, yf18⟩ := id Y9
                                go_wp2_with fail
                                clear pf0 pf1 pf2 pf3 pf4 pf5 pf6 pf7 pf8 xf0 xf1 xf2 xf3 xf4 xf5 xf6 xf7 xf8 xf9 xf10 xf11 xf12 xf13 xf14 xf15 xf16 xf17 xf18 yf0 yf1 yf2 yf3 yf4 yf5 yf6 yf7 yf8 yf9 yf10 yf11 yf12 yf13 yf14 yf15 yf16 yf17 yf18
                                refine (rwithin_at (f q) (f k) true _ hw2.out).mono ?_
                                rintro e w10 ⟨rfl, hb⟩
                                have B10 := Lib.hid (B9.out.up hb)
                                have P10 := P9.up hb
                                have X10 := X9.up hb
                                have Y10 := Y9.up hb
                                clear hb B9  P9 X9 Y9
                                obtain ⟨pf0, pf1, pf2, pf3, pf4, pf5, pf6, pf7, pf8⟩ := id P10
                                obtain ⟨xf0, xf1, xf2, xf3, xf4, xf5, xf6, xf7, xf8, xf9, xf10, xf11, xf12, xf13, xf14, xf15, xf16, xf17, xf18⟩ := id X10
                                obtain ⟨yf0, yf1, yf2, yf3, yf4, yf5, yf6, yf7, yf8, yf9, yf10, yf11, yf12, yf13, yf14, yf15, yf16, yf17, yf18⟩ := id Y10
                                go_wp2_with fail
                                go_roundg (k - (q + 1))
                                case measure => omega
                                case rel => exact ⟨q + 1, by omega, rfl, by go_num, B10, P10⟩
          · obtain rfl : k = q := by omega
            go_wp2_with fail
            go_roundg (n - (k + 1))
            case measure => omega
            case rel => exact ⟨k + 1, by omega, rfl, by rw [HNX.out]; first | (rw [if_pos rfl]; go_num) | (rw [if_neg (by simp)]; go_num) | rfl, by go_num, B0, P0⟩
    · obtain rfl : n = k := by omega
      have hd : decide ((ocn f p n : Int) ≤ 1) = true := decide_eq_true (by omega)
      have hd1 : decide (ocn f p n ≤ 1) = true := decide_eq_true (by omega)
      go_wp2_with fail
      go_ret
      exact ⟨by first | rfl | simp, B0.out.out⟩
theorem law_SpannerNests (f : Nat → Sp) (n cap : Nat) (ad : Option Addr) (p : Pl) (w : World) (h : SpAt w ad n f) (hk : KT w) :
    Calls Tryd.prog 7 #[.slice ad n cap, .agg #[.int .i64 p.m, .int .i64 p.a, .int .i64 p.s, .int .i64 p.v]] w fun e w' => e = .returned (.bool true) ∧ Below w.heap.size w w' := by
  by_cases hn : n ≤ 12
  · obtain ⟨r1, r2, hr⟩ : ∃ r1 r2, fst f n 0 = (r1, r2) := ⟨_, _, rfl⟩
    by_cases h2 : r2 = 0
    · subst h2; exact nests_ok f n cap ad p r1 w hk hn h hr
    · exact nests_err f n cap ad p r1 r2 w hk hn h hr h2
  · exact nests_many f n cap ad p w hk (by omega)
end Go.Proofs.YtabafabebodojaaDoor
