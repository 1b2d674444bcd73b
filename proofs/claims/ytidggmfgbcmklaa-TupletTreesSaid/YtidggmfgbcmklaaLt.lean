/- Tuplets: law Trees. -/
import Derived.Test.YtidggmfgbcmklaaTz
namespace Go.Proofs.Ytidggmfgbcmklaa
open Go.RowKit
set_option linter.unusedVariables false
set_option linter.unusedSimpArgs false

/-- the last of the first k tuplets that contains the i-th, or -1 -/
def wantF (f : Nat → Tp) (i : Nat) : Nat → Int
  | 0 => -1
  | k + 1 => if wi (f i) (f k) then (k : Int) else wantF f i k
theorem wantF_last (f : Nat → Tp) (i : Nat) : ∀ k, wantF f i k = match ((List.range k).filter fun j => decide (wi (f i) (f j))).getLast? with | none => -1 | some j => (j : Int) := by
  intro k
  induction k with
  | zero => rfl
  | succ k ih =>
    rw [wantF, List.range_succ, List.filter_append]
    by_cases h : wi (f i) (f k)
    · rw [if_pos h, show List.filter (fun j => decide (wi (f i) (f j))) [k] = [k] by simp [h], List.getLast?_append]
      rfl
    · rw [if_neg h, show List.filter (fun j => decide (wi (f i) (f j))) [k] = [] by simp [h], List.append_nil]
      exact ih
theorem want_outer {f : Nat → Tp} {ev : Int} {n i : Nat} (h : good f ev n) (hi : i < n) : wantF f i i = outer f i := by
  have hp := (h.parts hi)
  rw [wantF_last]
  unfold outer
  have : ((List.range i).filter fun j => decide (wi (f i) (f j))) = opn f i := by
    unfold opn
    refine List.filter_congr (fun j hj => ?_)
    have hj := List.mem_range.1 hj
    have hm := h.mono (j := j) (i := i) (by omega) hi
    refine decide_eq_decide.2 ⟨fun hw => ?_, fun ho => ⟨hm, hp.2.2.2 j (mem_opn.2 ⟨hj, ho⟩)⟩⟩
    have hr := hp.1
    unfold Tp.inR at hr
    unfold wi at hw
    unfold Tp.e
    omega
  rw [this]
  cases (opn f i).getLast? <;> rfl
set_option maxRecDepth 100000 in
set_option maxHeartbeats 2000000 in
theorem trees_n_a (f : Nat → Tp) (n cap : Nat) (ad : Option Addr) (ev : Int) (w : World) (hc : n ≤ cap) (h : TsAt w ad n f) (hle : n ≤ 20) (E : Int) (hE : chk f n ev = E) (h0 : E ≠ 0) :
    Calls Try.prog 9 #[.slice ad n cap, .int .i64 ev] w fun e w' => e = .returned (.bool true) ∧ Below w.heap.size w w' := by
  have hA : (n : Int) ≤ 20 := by omega
  have hT := h
  have hbd := chk_bd f n ev
  have HC := Lib.hid (fun u (h : TsAt u ad n f) => tree_any f n cap ad ev u h)
  have HR := Lib.hid (fun ad2 cap2 u (h : TsAt u ad2 n f) => rcheck_ok f n cap2 ad2 ev u h)
  rw [hE] at HC HR hbd
  have he1 : (E != 0) = true := by simpa using h0
  have he2 : (E == 0) = false := by simpa using h0
  have HN := Lib.hid h0
  clear hE h0
  have B0 := Lib.hid (Bel.refl w)
  have T0 := Lib.hid (Lib.hid hT).out
  clear h hT
  go_enter Try.func9, Try.ntmps9
  go_wp2_with fail
  refine (to_ok f n cap ad _ (by omega) T0.out).mono ?_
  rintro e w1 ⟨ad2, cap2, rfl, hb, hU⟩
  replace hU := Lib.hid hU
  have B1 := Lib.hid (B0.out.up hb)
  have T1 := Lib.hid (T0.out.up hb)
  clear hb B0 T0 
  go_wp2_with fail
  refine (HC.out _ T1.out).mono ?_
  rintro e w2 ⟨v, rfl, hb, hv⟩
  obtain rfl := hv.2 HN.out
  replace hU := Lib.hid (hU.out.up hb)
  clear hv
  have B2 := Lib.hid (B1.out.up hb)
  have T2 := Lib.hid (T1.out.up hb)
  clear hb B1 T1 
  go_wp2_with fail
  refine (HR.out ad2 cap2 _ hU.out).mono ?_
  rintro e w3 ⟨rfl, hb⟩
  have B3 := Lib.hid (B2.out.up hb)
  have T3 := Lib.hid (T2.out.up hb)
  clear hb B2 T2 
  go_wp2_with fail
  refine (known_ok _).mono ?_
  rintro e w4 ⟨rfl, hb⟩
  have B4 := Lib.hid (B3.out.up hb)
  have T4 := Lib.hid (T3.out.up hb)
  clear hb B3 T3 
  go_wp2_with fail
  refine (known_ok _).mono ?_
  rintro e w5 ⟨rfl, hb⟩
  have B5 := Lib.hid (B4.out.up hb)
  have T5 := Lib.hid (T4.out.up hb)
  clear hb B4 T4 
  go_wp2_with fail
  go_ret
  exact ⟨rfl, B5.out.out⟩
set_option maxRecDepth 100000 in
set_option maxHeartbeats 2000000 in
theorem trees_y_a (f : Nat → Tp) (n cap : Nat) (ad : Option Addr) (ev : Int) (w : World) (hc : n ≤ cap) (h : TsAt w ad n f) (hle : n ≤ 20) (hE : chk f n ev = 0) :
    Calls Try.prog 9 #[.slice ad n cap, .int .i64 ev] w fun e w' => e = .returned (.bool true) ∧ Below w.heap.size w w' := by
  have hA : (n : Int) ≤ 20 := by omega
  have hT := h
  have HC := Lib.hid (fun u (h : TsAt u ad n f) => tree_any f n cap ad ev u h)
  have HR := Lib.hid (fun ad2 cap2 u (h : TsAt u ad2 n f) => rcheck_ok f n cap2 ad2 ev u h)
  have HG := Lib.hid (Gd.chk hE)
  have HW := Lib.hid (fun i (hi : i < n) => want_outer (chk_zero hE).2.2.2 hi)
  rw [hE] at HC HR
  clear hE
  have B0 := Lib.hid (Bel.refl w)
  have T0 := Lib.hid (Lib.hid hT).out
  clear h hT
  go_enter Try.func9, Try.ntmps9
  go_wp2_with fail
  refine (to_ok f n cap ad _ (by omega) T0.out).mono ?_
  rintro e w1 ⟨ad2, cap2, rfl, hb, hU⟩
  replace hU := Lib.hid hU
  have B1 := Lib.hid (B0.out.up hb)
  have T1 := Lib.hid (T0.out.up hb)
  clear hb B0 T0 
  go_wp2_with fail
  refine (HC.out _ T1.out).mono ?_
  rintro e w2 ⟨v, rfl, hb, hv⟩
  obtain ⟨g, rfl, hF⟩ := hv.1 rfl
  have G2 := Lib.hid hF
  have U2 := Lib.hid (hU.out.up hb)
  clear hv hF hU
  have B2 := Lib.hid (B1.out.up hb)
  have T2 := Lib.hid (T1.out.up hb)
  clear hb B1 T1 
  go_wp2_with fail
  refine (HR.out ad2 cap2 _ U2.out).mono ?_
  rintro e w3 ⟨rfl, hb⟩
  have G3 := Lib.hid (G2.out.up hb)
  have U3 := Lib.hid (U2.out.up hb)
  clear G2 U2
  have B3 := Lib.hid (B2.out.up hb)
  have T3 := Lib.hid (T2.out.up hb)
  clear hb B2 T2 
  go_wp2_with fail
  refine (known_ok _).mono ?_
  rintro e w4 ⟨rfl, hb⟩
  have G4 := Lib.hid (G3.out.up hb)
  have U4 := Lib.hid (U3.out.up hb)
  clear G3 U3
  have B4 := Lib.hid (B3.out.up hb)
  have T4 := Lib.hid (T3.out.up hb)
  clear hb B3 T3 
  go_wp2_with fail
  clear T4
  go_loopg [9] n (fun gm i wr => ∃ k : Nat, k ≤ n ∧ gm = n - k ∧ i = .int .i64 (k : Int) ∧ Hid (Bel w wr) ∧ Hid (TsAt wr ad2 n f) ∧ Hid (Fil wr g n (outer f)))
  case atStart => exact ⟨0, by omega, by omega, rfl, B4, U4, G4⟩
  case round =>
    clear B4 U4 G4 hA
    obtain ⟨k, hk, rfl, rfl, B0, U0, G0⟩ := hrel
    by_cases hlt : k < n
    · have hkd : decide ((k : Int) < (n : Int)) = true := decide_eq_true (by omega)
      have hsk := Lib.hid (HG.out.sm k hlt)
      go_wp2_with fail
      go_loopg [11, 10] k (fun gq i c wr => ∃ q : Nat, q ≤ k ∧ gq = k - q ∧ i = .int .i64 (q : Int) ∧ c = .int .i64 (wantF f k q) ∧ Hid (Bel w wr) ∧ Hid (TsAt wr ad2 n f) ∧ Hid (Fil wr g n (outer f)))
      case atStart => exact ⟨0, by omega, by omega, rfl, rfl, B0, U0, G0⟩
      case round =>
        clear B0 U0 G0
        obtain ⟨q, hq, rfl, rfl, rfl, HB, HU, HF⟩ := hrel
        obtain ⟨W0, hW0, B0, U0, G0⟩ : ∃ W0, W0 = _ ∧ Hid (Bel w W0) ∧ Hid (TsAt W0 ad2 n f) ∧ Hid (Fil W0 g n (outer f)) := ⟨_, rfl, HB, HU, HF⟩
        subst hW0
        clear HB HU HF
        by_cases hql : q < k
        · obtain ⟨b, off, rfl, u0, u1, u2, u3⟩ := U0.out k (by omega)
          obtain ⟨b', off', e, q0, q1, q2, q3⟩ := U0.out q (by omega)
          cases e
          have hsq := Lib.hid (HG.out.sm q (by omega))
          by_cases hw : wi (f k) (f q)
          · have hwd : decide (wi (f k) (f q)) = true := decide_eq_true hw
            have HX := Lib.hid (show wantF f k (q + 1) = (q : Int) from if_pos hw)
            go_wp2_with fail
            refine Qt.regionAll (by kernel_rfl) (by kernel_rfl) ?_
            intro T f_ F hne
            have RB := Lib.hid (fun g => B0.out.up (F.below g))
            have RU := Lib.hid (fun g => U0.out.up (F.below g))
            have RG := Lib.hid (fun g => G0.out.up (F.below g))
            have R_u0 := fun g => cell_up (F.below g) u0
            have R_u1 := fun g => cell_up (F.below g) u1
            have R_u2 := fun g => cell_up (F.below g) u2
            have R_u3 := fun g => cell_up (F.below g) u3
            have R_q0 := fun g => cell_up (F.below g) q0
            have R_q1 := fun g => cell_up (F.below g) q1
            have R_q2 := fun g => cell_up (F.below g) q2
            have R_q3 := fun g => cell_up (F.below g) q3
            repeat (go_big_quiet_step (first | (go_at_call 31; with_reducible exact F.call (within_ok (f k) (f q) _ hsk.out hsq.out))))
            refine wpQuiet_nil ?_
            rintro _ ⟨gT, rfl⟩
            have B1 := Lib.hid (RB.out gT)
            have U1 := Lib.hid (RU.out gT)
            have G1 := Lib.hid (RG.out gT)
            have n_u0 := R_u0 gT
            have n_u1 := R_u1 gT
            have n_u2 := R_u2 gT
            have n_u3 := R_u3 gT
            have n_q0 := R_q0 gT
            have n_q1 := R_q1 gT
            have n_q2 := R_q2 gT
            have n_q3 := R_q3 gT
            clear F RB hne RU RG B0 U0 G0 R_u0 u0 R_u1 u1 R_u2 u2 R_u3 u3 R_q0 q0 R_q1 q1 R_q2 q2 R_q3 q3
            generalize f_ gT = w1 at *
            clear f_
            have u0 := n_u0
            clear n_u0
            have u1 := n_u1
            clear n_u1
            have u2 := n_u2
            clear n_u2
            have u3 := n_u3
            clear n_u3
            have q0 := n_q0
            clear n_q0
            have q1 := n_q1
            clear n_q1
            have q2 := n_q2
            clear n_q2
            have q3 := n_q3
            clear n_q3
            go_wp2_with fail
            go_roundg (k - (q + 1))
            case measure => omega
            case rel => exact ⟨q + 1, by omega, rfl, by go_num, by rw [HX.out], B1, U1, G1⟩
          · have hwd : decide (wi (f k) (f q)) = false := decide_eq_false hw
            have HX := Lib.hid (show wantF f k (q + 1) = wantF f k q from if_neg hw)
            generalize wantF f k q = wq at *
            go_wp2_with fail
            refine Qt.regionAll (by kernel_rfl) (by kernel_rfl) ?_
            intro T f_ F hne
            have RB := Lib.hid (fun g => B0.out.up (F.below g))
            have RU := Lib.hid (fun g => U0.out.up (F.below g))
            have RG := Lib.hid (fun g => G0.out.up (F.below g))
            have R_u0 := fun g => cell_up (F.below g) u0
            have R_u1 := fun g => cell_up (F.below g) u1
            have R_u2 := fun g => cell_up (F.below g) u2
            have R_u3 := fun g => cell_up (F.below g) u3
            have R_q0 := fun g => cell_up (F.below g) q0
            have R_q1 := fun g => cell_up (F.below g) q1
            have R_q2 := fun g => cell_up (F.below g) q2
            have R_q3 := fun g => cell_up (F.below g) q3
            repeat (go_big_quiet_step (first | (go_at_call 31; with_reducible exact F.call (within_ok (f k) (f q) _ hsk.out hsq.out))))
            refine wpQuiet_nil ?_
            rintro _ ⟨gT, rfl⟩
            have B1 := Lib.hid (RB.out gT)
            have U1 := Lib.hid (RU.out gT)
            have G1 := Lib.hid (RG.out gT)
            have n_u0 := R_u0 gT
            have n_u1 := R_u1 gT
            have n_u2 := R_u2 gT
            have n_u3 := R_u3 gT
            have n_q0 := R_q0 gT
            have n_q1 := R_q1 gT
            have n_q2 := R_q2 gT
            have n_q3 := R_q3 gT
            clear F RB hne RU RG B0 U0 G0 R_u0 u0 R_u1 u1 R_u2 u2 R_u3 u3 R_q0 q0 R_q1 q1 R_q2 q2 R_q3 q3
            generalize f_ gT = w1 at *
            clear f_
            have u0 := n_u0
            clear n_u0
            have u1 := n_u1
            clear n_u1
            have u2 := n_u2
            clear n_u2
            have u3 := n_u3
            clear n_u3
            have q0 := n_q0
            clear n_q0
            have q1 := n_q1
            clear n_q1
            have q2 := n_q2
            clear n_q2
            have q3 := n_q3
            clear n_q3
            go_wp2_with fail
            go_roundg (k - (q + 1))
            case measure => omega
            case rel => exact ⟨q + 1, by omega, rfl, by go_num, by rw [HX.out], B1, U1, G1⟩
        · obtain rfl : q = k := by omega
          have hkk : decide ((q : Int) < (q : Int)) = false := decide_eq_false (by omega)
          have hwo := HW.out q hlt
          rw [hwo]
          obtain ⟨g0, _⟩ := G0.out q hlt
          generalize outer f q = oq at *
          have hkm : decide ((n : Int) ≤ (q : Int)) = false := decide_eq_false (by omega)
          have hkm2 : decide (n ≤ q) = false := decide_eq_false (by omega)
          clear hwo
          go_wp2_with fail
          go_roundg (n - (q + 1))
          case measure => omega
          case rel => exact ⟨q + 1, by omega, rfl, by go_num, B0, U0, G0⟩
    · have hkd : decide ((k : Int) < (n : Int)) = false := decide_eq_false (by omega)
      go_wp2_with fail
      go_ret
      exact ⟨rfl, B0.out.out⟩
set_option maxRecDepth 100000 in
set_option maxHeartbeats 2000000 in
theorem trees_n_b (f : Nat → Tp) (n cap : Nat) (ad : Option Addr) (ev : Int) (w : World) (hc : n ≤ cap) (h : TsAt w ad n f) (hle : 20 < n) (E : Int) (hE : chk f 20 ev = E) (h0 : E ≠ 0) :
    Calls Try.prog 9 #[.slice ad n cap, .int .i64 ev] w fun e w' => e = .returned (.bool true) ∧ Below w.heap.size w w' := by
  have hA : ¬ (n : Int) ≤ 20 := by omega
  have hc2 : 20 ≤ cap := by omega
  have hT := h.le (show 20 ≤ n by omega)
  have hbd := chk_bd f 20 ev
  have HC := Lib.hid (fun u (h : TsAt u ad 20 f) => tree_any f 20 cap ad ev u h)
  have HR := Lib.hid (fun ad2 cap2 u (h : TsAt u ad2 20 f) => rcheck_ok f 20 cap2 ad2 ev u h)
  rw [hE] at HC HR hbd
  have he1 : (E != 0) = true := by simpa using h0
  have he2 : (E == 0) = false := by simpa using h0
  have HN := Lib.hid h0
  clear hE h0
  have B0 := Lib.hid (Bel.refl w)
  have T0 := Lib.hid (Lib.hid hT).out
  clear h hT
  go_enter Try.func9, Try.ntmps9
  go_wp2_with fail
  refine (to_ok f 20 cap ad _ (by omega) T0.out).mono ?_
  rintro e w1 ⟨ad2, cap2, rfl, hb, hU⟩
  replace hU := Lib.hid hU
  have B1 := Lib.hid (B0.out.up hb)
  have T1 := Lib.hid (T0.out.up hb)
  clear hb B0 T0 
  go_wp2_with fail
  refine (HC.out _ T1.out).mono ?_
  rintro e w2 ⟨v, rfl, hb, hv⟩
  obtain rfl := hv.2 HN.out
  replace hU := Lib.hid (hU.out.up hb)
  clear hv
  have B2 := Lib.hid (B1.out.up hb)
  have T2 := Lib.hid (T1.out.up hb)
  clear hb B1 T1 
  go_wp2_with fail
  refine (HR.out ad2 cap2 _ hU.out).mono ?_
  rintro e w3 ⟨rfl, hb⟩
  have B3 := Lib.hid (B2.out.up hb)
  have T3 := Lib.hid (T2.out.up hb)
  clear hb B2 T2 
  go_wp2_with fail
  refine (known_ok _).mono ?_
  rintro e w4 ⟨rfl, hb⟩
  have B4 := Lib.hid (B3.out.up hb)
  have T4 := Lib.hid (T3.out.up hb)
  clear hb B3 T3 
  go_wp2_with fail
  refine (known_ok _).mono ?_
  rintro e w5 ⟨rfl, hb⟩
  have B5 := Lib.hid (B4.out.up hb)
  have T5 := Lib.hid (T4.out.up hb)
  clear hb B4 T4 
  go_wp2_with fail
  go_ret
  exact ⟨rfl, B5.out.out⟩
set_option maxRecDepth 100000 in
set_option maxHeartbeats 2000000 in
theorem trees_y_b (f : Nat → Tp) (n cap : Nat) (ad : Option Addr) (ev : Int) (w : World) (hc : n ≤ cap) (h : TsAt w ad n f) (hle : 20 < n) (hE : chk f 20 ev = 0) :
    Calls Try.prog 9 #[.slice ad n cap, .int .i64 ev] w fun e w' => e = .returned (.bool true) ∧ Below w.heap.size w w' := by
  have hA : ¬ (n : Int) ≤ 20 := by omega
  have hc2 : 20 ≤ cap := by omega
  have hT := h.le (show 20 ≤ n by omega)
  have HC := Lib.hid (fun u (h : TsAt u ad 20 f) => tree_any f 20 cap ad ev u h)
  have HR := Lib.hid (fun ad2 cap2 u (h : TsAt u ad2 20 f) => rcheck_ok f 20 cap2 ad2 ev u h)
  have HG := Lib.hid (Gd.chk hE)
  have HW := Lib.hid (fun i (hi : i < 20) => want_outer (chk_zero hE).2.2.2 hi)
  rw [hE] at HC HR
  clear hE
  have B0 := Lib.hid (Bel.refl w)
  have T0 := Lib.hid (Lib.hid hT).out
  clear h hT
  go_enter Try.func9, Try.ntmps9
  go_wp2_with fail
  refine (to_ok f 20 cap ad _ (by omega) T0.out).mono ?_
  rintro e w1 ⟨ad2, cap2, rfl, hb, hU⟩
  replace hU := Lib.hid hU
  have B1 := Lib.hid (B0.out.up hb)
  have T1 := Lib.hid (T0.out.up hb)
  clear hb B0 T0 
  go_wp2_with fail
  refine (HC.out _ T1.out).mono ?_
  rintro e w2 ⟨v, rfl, hb, hv⟩
  obtain ⟨g, rfl, hF⟩ := hv.1 rfl
  have G2 := Lib.hid hF
  have U2 := Lib.hid (hU.out.up hb)
  clear hv hF hU
  have B2 := Lib.hid (B1.out.up hb)
  have T2 := Lib.hid (T1.out.up hb)
  clear hb B1 T1 
  go_wp2_with fail
  refine (HR.out ad2 cap2 _ U2.out).mono ?_
  rintro e w3 ⟨rfl, hb⟩
  have G3 := Lib.hid (G2.out.up hb)
  have U3 := Lib.hid (U2.out.up hb)
  clear G2 U2
  have B3 := Lib.hid (B2.out.up hb)
  have T3 := Lib.hid (T2.out.up hb)
  clear hb B2 T2 
  go_wp2_with fail
  refine (known_ok _).mono ?_
  rintro e w4 ⟨rfl, hb⟩
  have G4 := Lib.hid (G3.out.up hb)
  have U4 := Lib.hid (U3.out.up hb)
  clear G3 U3
  have B4 := Lib.hid (B3.out.up hb)
  have T4 := Lib.hid (T3.out.up hb)
  clear hb B3 T3 
  go_wp2_with fail
  clear T4
  go_loopg [9] 20 (fun gm i wr => ∃ k : Nat, k ≤ 20 ∧ gm = 20 - k ∧ i = .int .i64 (k : Int) ∧ Hid (Bel w wr) ∧ Hid (TsAt wr ad2 20 f) ∧ Hid (Fil wr g 20 (outer f)))
  case atStart => exact ⟨0, by omega, by omega, rfl, B4, U4, G4⟩
  case round =>
    clear B4 U4 G4 hA
    obtain ⟨k, hk, rfl, rfl, B0, U0, G0⟩ := hrel
    by_cases hlt : k < 20
    · have hkd : decide ((k : Int) < 20) = true := decide_eq_true (by omega)
      have hsk := Lib.hid (HG.out.sm k hlt)
      go_wp2_with fail
      go_loopg [11, 10] k (fun gq i c wr => ∃ q : Nat, q ≤ k ∧ gq = k - q ∧ i = .int .i64 (q : Int) ∧ c = .int .i64 (wantF f k q) ∧ Hid (Bel w wr) ∧ Hid (TsAt wr ad2 20 f) ∧ Hid (Fil wr g 20 (outer f)))
      case atStart => exact ⟨0, by omega, by omega, rfl, rfl, B0, U0, G0⟩
      case round =>
        clear B0 U0 G0
        obtain ⟨q, hq, rfl, rfl, rfl, HB, HU, HF⟩ := hrel
        obtain ⟨W0, hW0, B0, U0, G0⟩ : ∃ W0, W0 = _ ∧ Hid (Bel w W0) ∧ Hid (TsAt W0 ad2 20 f) ∧ Hid (Fil W0 g 20 (outer f)) := ⟨_, rfl, HB, HU, HF⟩
        subst hW0
        clear HB HU HF
        by_cases hql : q < k
        · obtain ⟨b, off, rfl, u0, u1, u2, u3⟩ := U0.out k (by omega)
          obtain ⟨b', off', e, q0, q1, q2, q3⟩ := U0.out q (by omega)
          cases e
          have hsq := Lib.hid (HG.out.sm q (by omega))
          by_cases hw : wi (f k) (f q)
          · have hwd : decide (wi (f k) (f q)) = true := decide_eq_true hw
            have HX := Lib.hid (show wantF f k (q + 1) = (q : Int) from if_pos hw)
            go_wp2_with fail
            refine Qt.regionAll (by kernel_rfl) (by kernel_rfl) ?_
            intro T f_ F hne
            have RB := Lib.hid (fun g => B0.out.up (F.below g))
            have RU := Lib.hid (fun g => U0.out.up (F.below g))
            have RG := Lib.hid (fun g => G0.out.up (F.below g))
            have R_u0 := fun g => cell_up (F.below g) u0
            have R_u1 := fun g => cell_up (F.below g) u1
            have R_u2 := fun g => cell_up (F.below g) u2
            have R_u3 := fun g => cell_up (F.below g) u3
            have R_q0 := fun g => cell_up (F.below g) q0
            have R_q1 := fun g => cell_up (F.below g) q1
            have R_q2 := fun g => cell_up (F.below g) q2
            have R_q3 := fun g => cell_up (F.below g) q3
            repeat (go_big_quiet_step (first | (go_at_call 31; with_reducible exact F.call (within_ok (f k) (f q) _ hsk.out hsq.out))))
            refine wpQuiet_nil ?_
            rintro _ ⟨gT, rfl⟩
            have B1 := Lib.hid (RB.out gT)
            have U1 := Lib.hid (RU.out gT)
            have G1 := Lib.hid (RG.out gT)
            have n_u0 := R_u0 gT
            have n_u1 := R_u1 gT
            have n_u2 := R_u2 gT
            have n_u3 := R_u3 gT
            have n_q0 := R_q0 gT
            have n_q1 := R_q1 gT
            have n_q2 := R_q2 gT
            have n_q3 := R_q3 gT
            clear F RB hne RU RG B0 U0 G0 R_u0 u0 R_u1 u1 R_u2 u2 R_u3 u3 R_q0 q0 R_q1 q1 R_q2 q2 R_q3 q3
            generalize f_ gT = w1 at *
            clear f_
            have u0 := n_u0
            clear n_u0
            have u1 := n_u1
            clear n_u1
            have u2 := n_u2
            clear n_u2
            have u3 := n_u3
            clear n_u3
            have q0 := n_q0
            clear n_q0
            have q1 := n_q1
            clear n_q1
            have q2 := n_q2
            clear n_q2
            have q3 := n_q3
            clear n_q3
            go_wp2_with fail
            go_roundg (k - (q + 1))
            case measure => omega
            case rel => exact ⟨q + 1, by omega, rfl, by go_num, by rw [HX.out], B1, U1, G1⟩
          · have hwd : decide (wi (f k) (f q)) = false := decide_eq_false hw
            have HX := Lib.hid (show wantF f k (q + 1) = wantF f k q from if_neg hw)
            generalize wantF f k q = wq at *
            go_wp2_with fail
            refine Qt.regionAll (by kernel_rfl) (by kernel_rfl) ?_
            intro T f_ F hne
            have RB := Lib.hid (fun g => B0.out.up (F.below g))
            have RU := Lib.hid (fun g => U0.out.up (F.below g))
            have RG := Lib.hid (fun g => G0.out.up (F.below g))
            have R_u0 := fun g => cell_up (F.below g) u0
            have R_u1 := fun g => cell_up (F.below g) u1
            have R_u2 := fun g => cell_up (F.below g) u2
            have R_u3 := fun g => cell_up (F.below g) u3
            have R_q0 := fun g => cell_up (F.below g) q0
            have R_q1 := fun g => cell_up (F.below g) q1
            have R_q2 := fun g => cell_up (F.below g) q2
            have R_q3 := fun g => cell_up (F.below g) q3
            repeat (go_big_quiet_step (first | (go_at_call 31; with_reducible exact F.call (within_ok (f k) (f q) _ hsk.out hsq.out))))
            refine wpQuiet_nil ?_
            rintro _ ⟨gT, rfl⟩
            have B1 := Lib.hid (RB.out gT)
            have U1 := Lib.hid (RU.out gT)
            have G1 := Lib.hid (RG.out gT)
            have n_u0 := R_u0 gT
            have n_u1 := R_u1 gT
            have n_u2 := R_u2 gT
            have n_u3 := R_u3 gT
            have n_q0 := R_q0 gT
            have n_q1 := R_q1 gT
            have n_q2 := R_q2 gT
            have n_q3 := R_q3 gT
            clear F RB hne RU RG B0 U0 G0 R_u0 u0 R_u1 u1 R_u2 u2 R_u3 u3 R_q0 q0 R_q1 q1 R_q2 q2 R_q3 q3
            generalize f_ gT = w1 at *
            clear f_
            have u0 := n_u0
            clear n_u0
            have u1 := n_u1
            clear n_u1
            have u2 := n_u2
            clear n_u2
            have u3 := n_u3
            clear n_u3
            have q0 := n_q0
            clear n_q0
            have q1 := n_q1
            clear n_q1
            have q2 := n_q2
            clear n_q2
            have q3 := n_q3
            clear n_q3
            go_wp2_with fail
            go_roundg (k - (q + 1))
            case measure => omega
            case rel => exact ⟨q + 1, by omega, rfl, by go_num, by rw [HX.out], B1, U1, G1⟩
        · obtain rfl : q = k := by omega
          have hkk : decide ((q : Int) < (q : Int)) = false := decide_eq_false (by omega)
          have hwo := HW.out q hlt
          rw [hwo]
          obtain ⟨g0, _⟩ := G0.out q hlt
          generalize outer f q = oq at *
          have hkm : decide (20 ≤ (q : Int)) = false := decide_eq_false (by omega)
          have hkm2 : decide (20 ≤ q) = false := decide_eq_false (by omega)
          clear hwo
          go_wp2_with fail
          go_roundg (20 - (q + 1))
          case measure => omega
          case rel => exact ⟨q + 1, by omega, rfl, by go_num, B0, U0, G0⟩
    · have hkd : decide ((k : Int) < 20) = false := decide_eq_false (by omega)
      go_wp2_with fail
      go_ret
      exact ⟨rfl, B0.out.out⟩
theorem law_TupletTrees (f : Nat → Tp) (n cap : Nat) (ad : Option Addr) (ev : Int) (w : World) (hc : n ≤ cap) (h : TsAt w ad n f) : Calls Try.prog 9 #[.slice ad n cap, .int .i64 ev] w fun e w' => e = .returned (.bool true) ∧ Below w.heap.size w w' := by
  by_cases hle : n ≤ 20
  · by_cases hE : chk f n ev = 0
    · exact trees_y_a f n cap ad ev w hc h hle hE
    · exact trees_n_a f n cap ad ev w hc h hle _ rfl hE
  · by_cases hE : chk f 20 ev = 0
    · exact trees_y_b f n cap ad ev w hc h (by omega) hE
    · exact trees_n_b f n cap ad ev w hc h (by omega) _ rfl hE
end Go.Proofs.Ytidggmfgbcmklaa
