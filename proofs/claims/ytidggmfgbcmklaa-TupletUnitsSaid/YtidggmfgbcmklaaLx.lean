/- Tuplets: law Scales. -/
import Derived.Test.YtidggmfgbcmklaaTll
namespace Go.Proofs.Ytidggmfgbcmklaa
open Go.RowKit
set_option linter.unusedVariables false
set_option linter.unusedSimpArgs false

/-- a row of integers of the call's own -/
def OwnI (w : World) (base : Nat) (v : Value) (n : Nat) (h : Nat → Int) : Prop := w.ownsRow base 3 1 v n (intsF h n)
theorem OwnI.up {w w' : World} {base n : Nat} {v : Value} {h : Nat → Int} (hx : OwnI w base v n h) (hb : Below w.heap.size w w') : OwnI w' base v n h := World.ownsRow.kept hx (grown_of_below hb) (by cases v.ownBlock <;> simp)
theorem lenE_mul {f : Nat → Tp} {n : Nat} {x t k : Int} (h : lenE f n x t = 0) (k1 : 1 ≤ k) (hb : t * k ≤ 7741440) : lenE f n x (t * k) = 0 := by
  obtain ⟨t0, t1⟩ := lenE_zero h
  have hp : 0 ≤ t * k := Int.mul_nonneg t0 (by omega)
  have hz : t % ((rat f x n).2 : Int) = 0 := by
    unfold lenE at h
    rw [if_neg (by omega)] at h
    split at h
    · assumption
    · cases h
  unfold lenE
  rw [if_neg (by omega), if_pos]
  obtain ⟨c, hc⟩ := Int.dvd_of_emod_eq_zero hz
  rw [hc, Int.mul_assoc]
  exact Int.mul_emod_right _ _
theorem lenV_mul {f : Nat → Tp} {n : Nat} {x t k : Int} (hg : Gd f n) (h : lenE f n x t = 0) (k1 : 1 ≤ k) (hb : t * k ≤ 7741440) : lenV f n x (t * k) = lenV f n x t * k := by
  obtain ⟨t0, t1⟩ := lenE_zero h
  have hz : t % ((rat f x n).2 : Int) = 0 := by
    unfold lenE at h
    rw [if_neg (by omega)] at h
    split at h
    · assumption
    · cases h
  have hd := (rat_bd hg x (Nat.le_refl n)).2.2.1
  unfold lenV
  rw [if_pos h, if_pos (lenE_mul h k1 hb)]
  obtain ⟨c, hc⟩ := Int.dvd_of_emod_eq_zero hz
  have hd0 : ((rat f x n).2 : Int) ≠ 0 := by omega
  generalize ((rat f x n).2 : Int) = d at *
  rw [hc, Int.mul_assoc, Int.mul_ediv_cancel_left _ hd0, Int.mul_ediv_cancel_left _ hd0, Int.mul_assoc, Int.mul_comm k, ← Int.mul_assoc]
theorem lsE_all {f : Nat → Tp} {n m : Nat} {g : Nat → Int} (h : lsE f n g m = 0) : chk f n m = 0 ∧ ∀ k, k < m → lenE f n k (g k) = 0 := by
  have hc := lsE_zero_chk h
  rw [lsE_zero hc] at h
  refine ⟨hc, fun k hk => ?_⟩
  rcases fnz_cases (fun k => lenE f n k (g k)) m with ⟨hz, _⟩ | ⟨j, hj, hz, hne, e⟩
  · exact hz k hk
  · exact absurd (e.symm.trans h) hne
theorem lsE_of {f : Nat → Tp} {n m : Nat} {g : Nat → Int} (hc : chk f n m = 0) (h : ∀ k, k < m → lenE f n k (g k) = 0) : lsE f n g m = 0 := by
  rw [lsE_zero hc]
  exact fnz_none m 0 (fun i hi => by simpa using h i hi)
set_option maxRecDepth 100000 in
set_option maxHeartbeats 2000000 in
theorem scales_n_aa (f : Nat → Tp) (n cap : Nat) (ad : Option Addr) (g : Nat → Int) (m cap2 : Nat) (aw : Option Addr) (z : Int) (w : World) (hc : n ≤ cap) (h : TsAt w ad n f) (hcw : m ≤ cap2) (hw : IsAt w aw m g) (z0 : 0 ≤ z) (z1 : z ≤ 255) (hle : n ≤ 20) (hlm : m ≤ 130) (E : Int) (hE : lsE f n g m = E) (h0 : E ≠ 0) :
    Calls Try.prog 8 #[.slice ad n cap, .slice aw m cap2, .int .u8 z] w fun e w' => e = .returned (.bool true) ∧ Below w.heap.size w w' := by
  have hA : (n : Int) ≤ 20 := by omega
  have hT := h
  have hA2 : (m : Int) ≤ 130 := by omega
  have hI := hw
  obtain ⟨c, hcz⟩ : ∃ c, z % 16 = c := ⟨_, rfl⟩
  have hct : z.tmod 16 = c := by rw [Int.tmod_eq_emod_of_nonneg z0]; exact hcz
  have c0 : 0 ≤ c := by omega
  have c1 : c ≤ 15 := by omega
  have HL := Lib.hid (fun u h1 h2 => lengths_u f n cap ad g m cap2 aw u h1 h2 (by omega))
  have hbd := lsE_bd f n m g
  rw [hE] at HL hbd
  have he1 : (E != 0) = true := by simpa using h0
  have he2 : (E == 0) = false := by simpa using h0
  have HN := Lib.hid h0
  clear hE h0
  have B0 := Lib.hid (Bel.refl w)
  have T0 := Lib.hid (Lib.hid hT).out
  have I0 := Lib.hid (Lib.hid hI).out
  clear h hT hw hI
  go_enter Try.func8, Try.ntmps8
  go_wp2_with fail
  refine Qt.regionAll (by kernel_rfl) (by kernel_rfl) ?_
  intro T f_ F hne
  have RB := Lib.hid (fun g => B0.out.up (F.below g))
  have RT := Lib.hid (fun g => T0.out.up (F.below g))
  have RI := Lib.hid (fun g => I0.out.up (F.below g))
  repeat (go_big_quiet_step (fail))
  refine wpQuiet_nil ?_
  rintro _ ⟨gT, rfl⟩
  have B1 := Lib.hid (RB.out gT)
  have T1 := Lib.hid (RT.out gT)
  have I1 := Lib.hid (RI.out gT)
  clear F RB hne RT RI B0 T0 I0
  generalize f_ gT = w1 at *
  clear f_
  go_wp2_with fail
  refine (HL.out _ T1.out I1.out).mono ?_
  rintro e w2 ⟨ao, co, rfl, hb, hOI, hco⟩
  clear hOI
  have B2 := Lib.hid (B1.out.up hb)
  have T2 := Lib.hid (T1.out.up hb)
  have I2 := Lib.hid (I1.out.up hb)
  clear hb B1 T1 I1 
  go_wp2_with fail
  clear T2 I2 hA hA2
  go_loopg [11, 10] 0 (fun gm i v wr => i = .int .i64 0 ∧ v = .slice none 0 0 ∧ Hid (Bel w wr))
  case atStart => exact ⟨rfl, rfl, B2⟩
  case round =>
    clear B2
    obtain ⟨rfl, rfl, B0⟩ := hrel
    by_cases hz : 0 < (m : Int)
    · have hzd : decide (0 < (m : Int)) = true := decide_eq_true hz
      go_wp2_with fail
      refine (known_ok _).mono ?_
      rintro e w5 ⟨rfl, hb⟩
      have B1 := Lib.hid (B0.out.up hb)
      clear hb
      go_wp2_with fail
      go_ret
      exact ⟨rfl, B1.out.out⟩
    · have hzd : decide (0 < (m : Int)) = false := decide_eq_false hz
      go_wp2_with fail
      refine (known_ok _).mono ?_
      rintro e w5 ⟨rfl, hb⟩
      have B1 := Lib.hid (B0.out.up hb)
      clear hb
      go_wp2_with fail
      go_ret
      exact ⟨rfl, B1.out.out⟩
set_option maxRecDepth 100000 in
set_option maxHeartbeats 8000000 in
theorem scales_y_aa (f : Nat → Tp) (n cap : Nat) (ad : Option Addr) (g : Nat → Int) (m cap2 : Nat) (aw : Option Addr) (z : Int) (w : World) (hc : n ≤ cap) (h : TsAt w ad n f) (hcw : m ≤ cap2) (hw : IsAt w aw m g) (z0 : 0 ≤ z) (z1 : z ≤ 255) (hle : n ≤ 20) (hlm : m ≤ 130) (hE : lsE f n g m = 0) :
    Calls Try.prog 8 #[.slice ad n cap, .slice aw m cap2, .int .u8 z] w fun e w' => e = .returned (.bool true) ∧ Below w.heap.size w w' := by
  have hA : (n : Int) ≤ 20 := by omega
  have hT := h
  have hA2 : (m : Int) ≤ 130 := by omega
  have hI := hw
  obtain ⟨c, hcz⟩ : ∃ c, z % 16 = c := ⟨_, rfl⟩
  have hct : z.tmod 16 = c := by rw [Int.tmod_eq_emod_of_nonneg z0]; exact hcz
  have c0 : 0 ≤ c := by omega
  have c1 : c ≤ 15 := by omega
  have HL := Lib.hid (fun u h1 h2 => lengths_ok f n cap ad g m cap2 aw u h1 h2 (by omega))
  have HL2 := Lib.hid (fun ad2 c2 u h1 h2 => lengths_ok f n cap ad (fun k => g k * (1 + c)) m c2 ad2 u h1 h2 (by omega))
  obtain ⟨hck, hall⟩ := lsE_all hE
  have HA := Lib.hid hall
  have HC := Lib.hid hck
  have HV := Lib.hid (fun k => lsV_bd hck g k)
  rw [hE] at HL
  have d0 : ((1 + c : Int) == 0) = false := by simp; omega
  have d1 : (7741440 : Int).tdiv (1 + c) = 7741440 / (1 + c) := Int.tdiv_eq_ediv_of_nonneg (by omega)
  have d2 : 0 ≤ (7741440 : Int) / (1 + c) := Int.ediv_nonneg (by omega) (by omega)
  have d3 : (7741440 : Int) / (1 + c) ≤ 7741440 := Int.ediv_le_self _ (by omega)
  obtain ⟨i0, hinf, hz0, hz1, hz2⟩ := info_parts infoI
  clear hE hck hall
  have B0 := Lib.hid (Bel.refl w)
  have T0 := Lib.hid (Lib.hid hT).out
  have I0 := Lib.hid (Lib.hid hI).out
  have HT := Lib.hid hT
  have HI := Lib.hid hI
  clear h hT hw hI
  go_enter Try.func8, Try.ntmps8
  go_wp2_with fail
  refine Qt.regionAll (by kernel_rfl) (by kernel_rfl) ?_
  intro T f_ F hne
  have RB := Lib.hid (fun g => B0.out.up (F.below g))
  have RT := Lib.hid (fun g => T0.out.up (F.below g))
  have RI := Lib.hid (fun g => I0.out.up (F.below g))
  repeat (go_big_quiet_step (fail))
  refine wpQuiet_nil ?_
  rintro _ ⟨gT, rfl⟩
  have B1 := Lib.hid (RB.out gT)
  have T1 := Lib.hid (RT.out gT)
  have I1 := Lib.hid (RI.out gT)
  clear F RB hne RT RI B0 T0 I0
  generalize f_ gT = w1 at *
  clear f_
  go_wp2_with fail
  refine (HL.out _ T1.out I1.out).mono ?_
  rintro e w2 ⟨v, rfl, hb, hv⟩
  obtain ⟨b, rfl, hbw, hF⟩ := hv.1 rfl
  have G2 := Lib.hid hF
  clear hv hF HL
  have B2 := Lib.hid (B1.out.up hb)
  have T2 := Lib.hid (T1.out.up hb)
  have I2 := Lib.hid (I1.out.up hb)
  clear hb B1 T1 I1 
  go_wp2_with fail
  have hwb := B2.out.size
  have O2 := Lib.hid (show OwnI w2 w2.heap.size (.slice none 0 0) 0 (fun k => g k * (1 + c)) from World.ownsRow_nil _ _ _ _)
  have hbl := Lib.hid (fun (h : 0 < m) => G2.out.lt h)
  have hS2 : w2.heap.size ≤ w2.heap.size := Nat.le_refl _
  generalize hwb2 : w2.heap.size = wb at O2 hbl hwb
  rw [hwb2] at hS2
  replace hS2 : wb ≤ w2.heap.size := by omega
  clear hwb2
  clear hA hA2 T2 I2
  go_loopg [11, 10] m (fun gm i v wr => ∃ k : Nat, k ≤ m ∧ gm = m - k ∧ i = .int .i64 (k : Int) ∧ Hid (∀ j, j < k → g j * (1 + c) ≤ 7741440) ∧ Hid (Bel w wr) ∧ wb ≤ wr.heap.size ∧ Hid (Fil wr b m (lsV f n g)) ∧ Hid (OwnI wr wb v k (fun k => g k * (1 + c))))
  case atStart => exact ⟨0, by omega, by omega, rfl, fun j hj => by omega, B2, hS2, G2, O2⟩
  case round =>
    clear B2 G2 O2 hS2
    obtain ⟨k, hk, rfl, rfl, hj, B0, hws, G0, O0⟩ := hrel
    obtain ⟨W0, hW0, B0, hws, G0, O0⟩ : ∃ W0, W0 = _ ∧ Hid (Bel w W0) ∧ wb ≤ W0.heap.size ∧ Hid (Fil W0 b m (lsV f n g)) ∧ Hid (OwnI W0 wb _ k (fun k => g k * (1 + c))) := ⟨_, rfl, B0, hws, G0, O0⟩
    subst hW0
    by_cases hlt : k < m
    · have hkd : decide ((k : Int) < (m : Int)) = true := decide_eq_true (by omega)
      obtain ⟨b2, o2, rfl, q0⟩ := HI.out.up B0.out.out k hlt
      have hle := HA.out k hlt
      obtain ⟨t0, t1⟩ := lenE_zero hle
      clear hle
      have hjk := Lib.hid (fun (h : g k * (1 + c) ≤ 7741440) j (hj2 : j < k + 1) => show g j * (1 + c) ≤ 7741440 from by
        by_cases e : j = k
        · subst e; exact h
        · exact hj.out j (by omega))
      have HX := Lib.hid (show intsF (fun k => g k * (1 + c)) (k + 1) = intsF (fun k => g k * (1 + c)) k ++ [.int .i64 (g k * (1 + c))] from rfl)
      have HY := Lib.hid (fun (h : g k ≤ 7741440 / (1 + c)) => (Int.mul_le_of_le_ediv (by omega) h : g k * (1 + c) ≤ 7741440))
      have hp0 := Int.mul_nonneg t0 (show 0 ≤ 1 + c by omega)
      obtain ⟨X, hX⟩ : ∃ X, g k = X := ⟨_, rfl⟩
      rw [hX] at q0 t0 t1 hp0 HY hjk HX
      clear hX
      by_cases hbig : 7741440 / (1 + c) < X
      · have hbd : decide (7741440 / (1 + c) < X) = true := decide_eq_true hbig
        go_wp2_with fail
        refine Qt.regionAll (by kernel_rfl) (by kernel_rfl) ?_
        intro T f_ F hne
        have RB := Lib.hid (fun g => B0.out.up (F.below g))
        have RG := Lib.hid (fun g => G0.out.up (F.below g))
        have RO := Lib.hid (fun g => O0.out.up (F.below g))
        have R_q0 := fun g => cell_up (F.below g) q0
        repeat (go_big_quiet_step (fail))
        refine wpQuiet_nil ?_
        rintro _ ⟨gT, rfl⟩
        have B1 := Lib.hid (RB.out gT)
        have G1 := Lib.hid (RG.out gT)
        have O1 := Lib.hid (RO.out gT)
        have n_q0 := R_q0 gT
        clear F RB hne RG RO B0 G0 O0 R_q0 q0
        generalize f_ gT = w1 at *
        clear f_
        have q0 := n_q0
        clear n_q0
        go_wp2_with fail
        refine (known_ok _).mono ?_
        rintro e w5 ⟨rfl, hb⟩
        have B5 := Lib.hid (B1.out.up hb)
        clear hb
        go_wp2_with fail
        go_ret
        exact ⟨rfl, B5.out.out⟩
      · have hbd : decide (7741440 / (1 + c) < X) = false := decide_eq_false hbig
        have hpX := HY.out (by omega)
        have hjk2 := Lib.hid (hjk.out hpX)
        clear HY hjk hbig
        go_wp2_with fail
        have hwsF := hws
        refine Qt.regionAll (by kernel_rfl) (by kernel_rfl) ?_
        intro T f_ F hne
        have RZ := Lib.hid (fun g => Nat.le_trans hwsF (F.below g).size)
        have RB := Lib.hid (fun g => B0.out.up (F.below g))
        have RG := Lib.hid (fun g => G0.out.up (F.below g))
        have RO := Lib.hid (fun g => O0.out.up (F.below g))
        have R_q0 := fun g => cell_up (F.below g) q0
        repeat (go_big_quiet_step (fail))
        refine wpQuiet_nil ?_
        rintro _ ⟨gT, rfl⟩
        have hws1 := RZ.out gT
        have B1 := Lib.hid (RB.out gT)
        have G1 := Lib.hid (RG.out gT)
        have O1 := Lib.hid (RO.out gT)
        have n_q0 := R_q0 gT
        clear F RZ RB hne RG RO B0 G0 O0 R_q0 q0
        generalize f_ gT = w1 at *
        clear f_
        have q0 := n_q0
        clear n_q0
        clear hws hwsF
        go_wp2_with (first | (at_builtin; refine wpList_append_own _ rfl _ _ 40 rfl wb 3 i0 (.int .i64 0) 1 8 Try.underlying40 hinf hz0 hz1 hz2 rfl (by decide) _ _ _ rfl (World.ownsRow.alloc O1.out _) ⟨w1.heap.size, 0, none⟩ 1 1 [.int .i64 (X * (1 + c))] rfl rfl (cell1_new _ _ _ _ rfl) (by simp [Value.oneCell']) (by unfold maxLen; omega) (by omega) (by simp; omega) ?_; intro v' w9 hown' hgrow _))
        have hrow := fun r hr => (World.ownsRow.lt O1.out r hr).1
        have hB := Lib.hid (Below.grown (B1.out.alloc _) hgrow (by have := B1.out.size; simp; omega) (fun r hr => Nat.le_trans hwb (hrow r hr)))
        have hG := Lib.hid ((G1.out.up ((Below.refl w1.heap.size w1).alloc (Nat.le_refl _) _)).grown hgrow (fun e => by have := hrow b e.symm; have := hbl.out (by omega); omega))
        have hS : wb ≤ w9.heap.size := by have := hgrow.size; simp at this; omega
        go_roundg (m - (k + 1))
        case measure => omega
        case rel => exact ⟨k + 1, by omega, rfl, by go_num, hjk2, hB, hS, hG, by rw [show OwnI w9 wb v' (k + 1) (fun k => g k * (1 + c)) = w9.ownsRow wb 3 1 v' (k + 1) (intsF (fun k => g k * (1 + c)) (k + 1)) from rfl, HX.out]; exact hown'⟩
    · have hkd : decide ((k : Int) < (m : Int)) = false := decide_eq_false (by omega)
      have hkK : k = m := by omega
      rw [hkK] at O0 hj
      obtain ⟨a9, c9, rfl, hN, _⟩ := IsAt.own O0.out
      have N0 := Lib.hid hN
      have hE2 : lsE f n (fun k => g k * (1 + c)) m = 0 := lsE_of HC.out (fun k hk => lenE_mul (HA.out k hk) (by omega) (hj.out k hk))
      have HV2 := Lib.hid (fun k hk => show lsV f n (fun k => g k * (1 + c)) k = lsV f n g k * (1 + c) from lenV_mul (Gd.chk HC.out) (HA.out k hk) (by omega) (hj.out k hk))
      rw [hE2] at HL2
      clear O0 hN hE2
      go_wp2_with fail
      refine (HL2.out a9 c9 _ (HT.out.up B0.out.out) N0.out).mono ?_
      rintro e w5 ⟨v5, rfl, hb, hv⟩
      obtain ⟨b5, rfl, _, hF⟩ := hv.1 rfl
      have B5 := Lib.hid (B0.out.up hb)
      have G5 := Lib.hid (G0.out.up hb)
      have N5 := Lib.hid hF
      clear hb hv hF B0 G0 N0 HL2
      go_wp2_with fail
      refine (known_ok _).mono ?_
      rintro e w6 ⟨rfl, hb⟩
      have B6 := Lib.hid (B5.out.up hb)
      have G6 := Lib.hid (G5.out.up hb)
      have N6 := Lib.hid (N5.out.up hb)
      clear hb B5 G5 N5
      go_wp2_with fail
      go_loopg [14] m (fun gm i wr => ∃ k : Nat, k ≤ m ∧ gm = m - k ∧ i = .int .i64 (k : Int) ∧ Hid (Bel w wr) ∧ Hid (Fil wr b m (lsV f n g)) ∧ Hid (Fil wr b5 m (lsV f n (fun k => g k * (1 + c)))))
      case atStart => exact ⟨0, by omega, by omega, rfl, B6, G6, N6⟩
      case round =>
        clear B6 G6 N6
        obtain ⟨p, hp, rfl, rfl, B0, G0, N0⟩ := hrel
        obtain ⟨W0, hW0, B0, G0, N0⟩ : ∃ W0, W0 = _ ∧ Hid (Bel w W0) ∧ Hid (Fil W0 b m (lsV f n g)) ∧ Hid (Fil W0 b5 m (lsV f n (fun k => g k * (1 + c)))) := ⟨_, rfl, B0, G0, N0⟩
        subst hW0
        by_cases hlt2 : p < m
        · have hpd : decide ((p : Int) < (m : Int)) = true := decide_eq_true (by omega)
          have p0 := (N0.out p hlt2).1
          have p1 := (G0.out p hlt2).1
          rw [HV2.out p hlt2] at p0
          obtain ⟨v0, v1⟩ := HV.out p
          generalize lsV f n g p = X at *
          have m1 : 0 ≤ X * (1 + c) := Int.mul_nonneg v0 (by omega)
          have m2 : X * (1 + c) ≤ 253671505920 * 16 := Int.mul_le_mul v1 (by omega) (by omega) (by omega)
          go_wp2_with fail
          refine Qt.regionAll (by kernel_rfl) (by kernel_rfl) ?_
          intro T f_ F hne
          have RB := Lib.hid (fun g => B0.out.up (F.below g))
          have RG := Lib.hid (fun g => G0.out.up (F.below g))
          have RN := Lib.hid (fun g => N0.out.up (F.below g))
          have R_p0 := fun g => cell_up (F.below g) p0
          have R_p1 := fun g => cell_up (F.below g) p1
          repeat (go_big_quiet_step (fail))
          refine wpQuiet_nil ?_
          rintro _ ⟨gT, rfl⟩
          have B1 := Lib.hid (RB.out gT)
          have G1 := Lib.hid (RG.out gT)
          have N1 := Lib.hid (RN.out gT)
          have n_p0 := R_p0 gT
          have n_p1 := R_p1 gT
          clear F RB hne RG RN B0 G0 N0 R_p0 p0 R_p1 p1
          generalize f_ gT = w1 at *
          clear f_
          have p0 := n_p0
          clear n_p0
          have p1 := n_p1
          clear n_p1
          go_wp2_with fail
          go_roundg (m - (p + 1))
          case measure => omega
          case rel => exact ⟨p + 1, by omega, rfl, by go_num, B1, G1, N1⟩
        · have hpd : decide ((p : Int) < (m : Int)) = false := decide_eq_false (by omega)
          go_wp2_with fail
          go_ret
          exact ⟨rfl, B0.out.out⟩
set_option maxRecDepth 100000 in
set_option maxHeartbeats 2000000 in
theorem scales_n_ab (f : Nat → Tp) (n cap : Nat) (ad : Option Addr) (g : Nat → Int) (m cap2 : Nat) (aw : Option Addr) (z : Int) (w : World) (hc : n ≤ cap) (h : TsAt w ad n f) (hcw : m ≤ cap2) (hw : IsAt w aw m g) (z0 : 0 ≤ z) (z1 : z ≤ 255) (hle : n ≤ 20) (hlm : 130 < m) (E : Int) (hE : lsE f n g 130 = E) (h0 : E ≠ 0) :
    Calls Try.prog 8 #[.slice ad n cap, .slice aw m cap2, .int .u8 z] w fun e w' => e = .returned (.bool true) ∧ Below w.heap.size w w' := by
  have hA : (n : Int) ≤ 20 := by omega
  have hT := h
  have hA2 : ¬ (m : Int) ≤ 130 := by omega
  have hc3 : 130 ≤ cap2 := by omega
  have hI := hw.le (show 130 ≤ m by omega)
  obtain ⟨c, hcz⟩ : ∃ c, z % 16 = c := ⟨_, rfl⟩
  have hct : z.tmod 16 = c := by rw [Int.tmod_eq_emod_of_nonneg z0]; exact hcz
  have c0 : 0 ≤ c := by omega
  have c1 : c ≤ 15 := by omega
  have HL := Lib.hid (fun u h1 h2 => lengths_u f n cap ad g 130 cap2 aw u h1 h2 (by omega))
  have hbd := lsE_bd f n 130 g
  rw [hE] at HL hbd
  have he1 : (E != 0) = true := by simpa using h0
  have he2 : (E == 0) = false := by simpa using h0
  have HN := Lib.hid h0
  clear hE h0
  have B0 := Lib.hid (Bel.refl w)
  have T0 := Lib.hid (Lib.hid hT).out
  have I0 := Lib.hid (Lib.hid hI).out
  clear h hT hw hI
  go_enter Try.func8, Try.ntmps8
  go_wp2_with fail
  refine Qt.regionAll (by kernel_rfl) (by kernel_rfl) ?_
  intro T f_ F hne
  have RB := Lib.hid (fun g => B0.out.up (F.below g))
  have RT := Lib.hid (fun g => T0.out.up (F.below g))
  have RI := Lib.hid (fun g => I0.out.up (F.below g))
  repeat (go_big_quiet_step (fail))
  refine wpQuiet_nil ?_
  rintro _ ⟨gT, rfl⟩
  have B1 := Lib.hid (RB.out gT)
  have T1 := Lib.hid (RT.out gT)
  have I1 := Lib.hid (RI.out gT)
  clear F RB hne RT RI B0 T0 I0
  generalize f_ gT = w1 at *
  clear f_
  go_wp2_with fail
  refine (HL.out _ T1.out I1.out).mono ?_
  rintro e w2 ⟨ao, co, rfl, hb, hOI, hco⟩
  clear hOI
  have B2 := Lib.hid (B1.out.up hb)
  have T2 := Lib.hid (T1.out.up hb)
  have I2 := Lib.hid (I1.out.up hb)
  clear hb B1 T1 I1 
  go_wp2_with fail
  clear T2 I2 hA hA2
  go_loopg [11, 10] 0 (fun gm i v wr => i = .int .i64 0 ∧ v = .slice none 0 0 ∧ Hid (Bel w wr))
  case atStart => exact ⟨rfl, rfl, B2⟩
  case round =>
    clear B2
    obtain ⟨rfl, rfl, B0⟩ := hrel
    by_cases hz : 0 < 130
    · have hzd : decide (0 < 130) = true := decide_eq_true hz
      go_wp2_with fail
      refine (known_ok _).mono ?_
      rintro e w5 ⟨rfl, hb⟩
      have B1 := Lib.hid (B0.out.up hb)
      clear hb
      go_wp2_with fail
      go_ret
      exact ⟨rfl, B1.out.out⟩
    · have hzd : decide (0 < 130) = false := decide_eq_false hz
      go_wp2_with fail
      refine (known_ok _).mono ?_
      rintro e w5 ⟨rfl, hb⟩
      have B1 := Lib.hid (B0.out.up hb)
      clear hb
      go_wp2_with fail
      go_ret
      exact ⟨rfl, B1.out.out⟩
set_option maxRecDepth 100000 in
set_option maxHeartbeats 8000000 in
theorem scales_y_ab (f : Nat → Tp) (n cap : Nat) (ad : Option Addr) (g : Nat → Int) (m cap2 : Nat) (aw : Option Addr) (z : Int) (w : World) (hc : n ≤ cap) (h : TsAt w ad n f) (hcw : m ≤ cap2) (hw : IsAt w aw m g) (z0 : 0 ≤ z) (z1 : z ≤ 255) (hle : n ≤ 20) (hlm : 130 < m) (hE : lsE f n g 130 = 0) :
    Calls Try.prog 8 #[.slice ad n cap, .slice aw m cap2, .int .u8 z] w fun e w' => e = .returned (.bool true) ∧ Below w.heap.size w w' := by
  have hA : (n : Int) ≤ 20 := by omega
  have hT := h
  have hA2 : ¬ (m : Int) ≤ 130 := by omega
  have hc3 : 130 ≤ cap2 := by omega
  have hI := hw.le (show 130 ≤ m by omega)
  obtain ⟨c, hcz⟩ : ∃ c, z % 16 = c := ⟨_, rfl⟩
  have hct : z.tmod 16 = c := by rw [Int.tmod_eq_emod_of_nonneg z0]; exact hcz
  have c0 : 0 ≤ c := by omega
  have c1 : c ≤ 15 := by omega
  have HL := Lib.hid (fun u h1 h2 => lengths_ok f n cap ad g 130 cap2 aw u h1 h2 (by omega))
  have HL2 := Lib.hid (fun ad2 c2 u h1 h2 => lengths_ok f n cap ad (fun k => g k * (1 + c)) 130 c2 ad2 u h1 h2 (by omega))
  obtain ⟨hck, hall⟩ := lsE_all hE
  have HA := Lib.hid hall
  have HC := Lib.hid hck
  have HV := Lib.hid (fun k => lsV_bd hck g k)
  rw [hE] at HL
  have d0 : ((1 + c : Int) == 0) = false := by simp; omega
  have d1 : (7741440 : Int).tdiv (1 + c) = 7741440 / (1 + c) := Int.tdiv_eq_ediv_of_nonneg (by omega)
  have d2 : 0 ≤ (7741440 : Int) / (1 + c) := Int.ediv_nonneg (by omega) (by omega)
  have d3 : (7741440 : Int) / (1 + c) ≤ 7741440 := Int.ediv_le_self _ (by omega)
  obtain ⟨i0, hinf, hz0, hz1, hz2⟩ := info_parts infoI
  clear hE hck hall
  have B0 := Lib.hid (Bel.refl w)
  have T0 := Lib.hid (Lib.hid hT).out
  have I0 := Lib.hid (Lib.hid hI).out
  have HT := Lib.hid hT
  have HI := Lib.hid hI
  clear h hT hw hI
  go_enter Try.func8, Try.ntmps8
  go_wp2_with fail
  refine Qt.regionAll (by kernel_rfl) (by kernel_rfl) ?_
  intro T f_ F hne
  have RB := Lib.hid (fun g => B0.out.up (F.below g))
  have RT := Lib.hid (fun g => T0.out.up (F.below g))
  have RI := Lib.hid (fun g => I0.out.up (F.below g))
  repeat (go_big_quiet_step (fail))
  refine wpQuiet_nil ?_
  rintro _ ⟨gT, rfl⟩
  have B1 := Lib.hid (RB.out gT)
  have T1 := Lib.hid (RT.out gT)
  have I1 := Lib.hid (RI.out gT)
  clear F RB hne RT RI B0 T0 I0
  generalize f_ gT = w1 at *
  clear f_
  go_wp2_with fail
  refine (HL.out _ T1.out I1.out).mono ?_
  rintro e w2 ⟨v, rfl, hb, hv⟩
  obtain ⟨b, rfl, hbw, hF⟩ := hv.1 rfl
  have G2 := Lib.hid hF
  clear hv hF HL
  have B2 := Lib.hid (B1.out.up hb)
  have T2 := Lib.hid (T1.out.up hb)
  have I2 := Lib.hid (I1.out.up hb)
  clear hb B1 T1 I1 
  go_wp2_with fail
  have hwb := B2.out.size
  have O2 := Lib.hid (show OwnI w2 w2.heap.size (.slice none 0 0) 0 (fun k => g k * (1 + c)) from World.ownsRow_nil _ _ _ _)
  have hbl := Lib.hid (fun (h : 0 < 130) => G2.out.lt h)
  have hS2 : w2.heap.size ≤ w2.heap.size := Nat.le_refl _
  generalize hwb2 : w2.heap.size = wb at O2 hbl hwb
  rw [hwb2] at hS2
  replace hS2 : wb ≤ w2.heap.size := by omega
  clear hwb2
  clear hA hA2 T2 I2
  go_loopg [11, 10] 130 (fun gm i v wr => ∃ k : Nat, k ≤ 130 ∧ gm = 130 - k ∧ i = .int .i64 (k : Int) ∧ Hid (∀ j, j < k → g j * (1 + c) ≤ 7741440) ∧ Hid (Bel w wr) ∧ wb ≤ wr.heap.size ∧ Hid (Fil wr b 130 (lsV f n g)) ∧ Hid (OwnI wr wb v k (fun k => g k * (1 + c))))
  case atStart => exact ⟨0, by omega, by omega, rfl, fun j hj => by omega, B2, hS2, G2, O2⟩
  case round =>
    clear B2 G2 O2 hS2
    obtain ⟨k, hk, rfl, rfl, hj, B0, hws, G0, O0⟩ := hrel
    obtain ⟨W0, hW0, B0, hws, G0, O0⟩ : ∃ W0, W0 = _ ∧ Hid (Bel w W0) ∧ wb ≤ W0.heap.size ∧ Hid (Fil W0 b 130 (lsV f n g)) ∧ Hid (OwnI W0 wb _ k (fun k => g k * (1 + c))) := ⟨_, rfl, B0, hws, G0, O0⟩
    subst hW0
    by_cases hlt : k < 130
    · have hkd : decide ((k : Int) < 130) = true := decide_eq_true (by omega)
      obtain ⟨b2, o2, rfl, q0⟩ := HI.out.up B0.out.out k hlt
      have hle := HA.out k hlt
      obtain ⟨t0, t1⟩ := lenE_zero hle
      clear hle
      have hjk := Lib.hid (fun (h : g k * (1 + c) ≤ 7741440) j (hj2 : j < k + 1) => show g j * (1 + c) ≤ 7741440 from by
        by_cases e : j = k
        · subst e; exact h
        · exact hj.out j (by omega))
      have HX := Lib.hid (show intsF (fun k => g k * (1 + c)) (k + 1) = intsF (fun k => g k * (1 + c)) k ++ [.int .i64 (g k * (1 + c))] from rfl)
      have HY := Lib.hid (fun (h : g k ≤ 7741440 / (1 + c)) => (Int.mul_le_of_le_ediv (by omega) h : g k * (1 + c) ≤ 7741440))
      have hp0 := Int.mul_nonneg t0 (show 0 ≤ 1 + c by omega)
      obtain ⟨X, hX⟩ : ∃ X, g k = X := ⟨_, rfl⟩
      rw [hX] at q0 t0 t1 hp0 HY hjk HX
      clear hX
      by_cases hbig : 7741440 / (1 + c) < X
      · have hbd : decide (7741440 / (1 + c) < X) = true := decide_eq_true hbig
        go_wp2_with fail
        refine Qt.regionAll (by kernel_rfl) (by kernel_rfl) ?_
        intro T f_ F hne
        have RB := Lib.hid (fun g => B0.out.up (F.below g))
        have RG := Lib.hid (fun g => G0.out.up (F.below g))
        have RO := Lib.hid (fun g => O0.out.up (F.below g))
        have R_q0 := fun g => cell_up (F.below g) q0
        repeat (go_big_quiet_step (fail))
        refine wpQuiet_nil ?_
        rintro _ ⟨gT, rfl⟩
        have B1 := Lib.hid (RB.out gT)
        have G1 := Lib.hid (RG.out gT)
        have O1 := Lib.hid (RO.out gT)
        have n_q0 := R_q0 gT
        clear F RB hne RG RO B0 G0 O0 R_q0 q0
        generalize f_ gT = w1 at *
        clear f_
        have q0 := n_q0
        clear n_q0
        go_wp2_with fail
        refine (known_ok _).mono ?_
        rintro e w5 ⟨rfl, hb⟩
        have B5 := Lib.hid (B1.out.up hb)
        clear hb
        go_wp2_with fail
        go_ret
        exact ⟨rfl, B5.out.out⟩
      · have hbd : decide (7741440 / (1 + c) < X) = false := decide_eq_false hbig
        have hpX := HY.out (by omega)
        have hjk2 := Lib.hid (hjk.out hpX)
        clear HY hjk hbig
        go_wp2_with fail
        have hwsF := hws
        refine Qt.regionAll (by kernel_rfl) (by kernel_rfl) ?_
        intro T f_ F hne
        have RZ := Lib.hid (fun g => Nat.le_trans hwsF (F.below g).size)
        have RB := Lib.hid (fun g => B0.out.up (F.below g))
        have RG := Lib.hid (fun g => G0.out.up (F.below g))
        have RO := Lib.hid (fun g => O0.out.up (F.below g))
        have R_q0 := fun g => cell_up (F.below g) q0
        repeat (go_big_quiet_step (fail))
        refine wpQuiet_nil ?_
        rintro _ ⟨gT, rfl⟩
        have hws1 := RZ.out gT
        have B1 := Lib.hid (RB.out gT)
        have G1 := Lib.hid (RG.out gT)
        have O1 := Lib.hid (RO.out gT)
        have n_q0 := R_q0 gT
        clear F RZ RB hne RG RO B0 G0 O0 R_q0 q0
        generalize f_ gT = w1 at *
        clear f_
        have q0 := n_q0
        clear n_q0
        clear hws hwsF
        go_wp2_with (first | (at_builtin; refine wpList_append_own _ rfl _ _ 40 rfl wb 3 i0 (.int .i64 0) 1 8 Try.underlying40 hinf hz0 hz1 hz2 rfl (by decide) _ _ _ rfl (World.ownsRow.alloc O1.out _) ⟨w1.heap.size, 0, none⟩ 1 1 [.int .i64 (X * (1 + c))] rfl rfl (cell1_new _ _ _ _ rfl) (by simp [Value.oneCell']) (by unfold maxLen; omega) (by omega) (by simp; omega) ?_; intro v' w9 hown' hgrow _))
        have hrow := fun r hr => (World.ownsRow.lt O1.out r hr).1
        have hB := Lib.hid (Below.grown (B1.out.alloc _) hgrow (by have := B1.out.size; simp; omega) (fun r hr => Nat.le_trans hwb (hrow r hr)))
        have hG := Lib.hid ((G1.out.up ((Below.refl w1.heap.size w1).alloc (Nat.le_refl _) _)).grown hgrow (fun e => by have := hrow b e.symm; have := hbl.out (by omega); omega))
        have hS : wb ≤ w9.heap.size := by have := hgrow.size; simp at this; omega
        go_roundg (130 - (k + 1))
        case measure => omega
        case rel => exact ⟨k + 1, by omega, rfl, by go_num, hjk2, hB, hS, hG, by rw [show OwnI w9 wb v' (k + 1) (fun k => g k * (1 + c)) = w9.ownsRow wb 3 1 v' (k + 1) (intsF (fun k => g k * (1 + c)) (k + 1)) from rfl, HX.out]; exact hown'⟩
    · have hkd : decide ((k : Int) < 130) = false := decide_eq_false (by omega)
      have hkK : k = 130 := by omega
      rw [hkK] at O0 hj
      obtain ⟨a9, c9, rfl, hN, _⟩ := IsAt.own O0.out
      have N0 := Lib.hid hN
      have hE2 : lsE f n (fun k => g k * (1 + c)) 130 = 0 := lsE_of HC.out (fun k hk => lenE_mul (HA.out k hk) (by omega) (hj.out k hk))
      have HV2 := Lib.hid (fun k hk => show lsV f n (fun k => g k * (1 + c)) k = lsV f n g k * (1 + c) from lenV_mul (Gd.chk HC.out) (HA.out k hk) (by omega) (hj.out k hk))
      rw [hE2] at HL2
      clear O0 hN hE2
      go_wp2_with fail
      refine (HL2.out a9 c9 _ (HT.out.up B0.out.out) N0.out).mono ?_
      rintro e w5 ⟨v5, rfl, hb, hv⟩
      obtain ⟨b5, rfl, _, hF⟩ := hv.1 rfl
      have B5 := Lib.hid (B0.out.up hb)
      have G5 := Lib.hid (G0.out.up hb)
      have N5 := Lib.hid hF
      clear hb hv hF B0 G0 N0 HL2
      go_wp2_with fail
      refine (known_ok _).mono ?_
      rintro e w6 ⟨rfl, hb⟩
      have B6 := Lib.hid (B5.out.up hb)
      have G6 := Lib.hid (G5.out.up hb)
      have N6 := Lib.hid (N5.out.up hb)
      clear hb B5 G5 N5
      go_wp2_with fail
      go_loopg [14] 130 (fun gm i wr => ∃ k : Nat, k ≤ 130 ∧ gm = 130 - k ∧ i = .int .i64 (k : Int) ∧ Hid (Bel w wr) ∧ Hid (Fil wr b 130 (lsV f n g)) ∧ Hid (Fil wr b5 130 (lsV f n (fun k => g k * (1 + c)))))
      case atStart => exact ⟨0, by omega, by omega, rfl, B6, G6, N6⟩
      case round =>
        clear B6 G6 N6
        obtain ⟨p, hp, rfl, rfl, B0, G0, N0⟩ := hrel
        obtain ⟨W0, hW0, B0, G0, N0⟩ : ∃ W0, W0 = _ ∧ Hid (Bel w W0) ∧ Hid (Fil W0 b 130 (lsV f n g)) ∧ Hid (Fil W0 b5 130 (lsV f n (fun k => g k * (1 + c)))) := ⟨_, rfl, B0, G0, N0⟩
        subst hW0
        by_cases hlt2 : p < 130
        · have hpd : decide ((p : Int) < 130) = true := decide_eq_true (by omega)
          have p0 := (N0.out p hlt2).1
          have p1 := (G0.out p hlt2).1
          rw [HV2.out p hlt2] at p0
          obtain ⟨v0, v1⟩ := HV.out p
          generalize lsV f n g p = X at *
          have m1 : 0 ≤ X * (1 + c) := Int.mul_nonneg v0 (by omega)
          have m2 : X * (1 + c) ≤ 253671505920 * 16 := Int.mul_le_mul v1 (by omega) (by omega) (by omega)
          go_wp2_with fail
          refine Qt.regionAll (by kernel_rfl) (by kernel_rfl) ?_
          intro T f_ F hne
          have RB := Lib.hid (fun g => B0.out.up (F.below g))
          have RG := Lib.hid (fun g => G0.out.up (F.below g))
          have RN := Lib.hid (fun g => N0.out.up (F.below g))
          have R_p0 := fun g => cell_up (F.below g) p0
          have R_p1 := fun g => cell_up (F.below g) p1
          repeat (go_big_quiet_step (fail))
          refine wpQuiet_nil ?_
          rintro _ ⟨gT, rfl⟩
          have B1 := Lib.hid (RB.out gT)
          have G1 := Lib.hid (RG.out gT)
          have N1 := Lib.hid (RN.out gT)
          have n_p0 := R_p0 gT
          have n_p1 := R_p1 gT
          clear F RB hne RG RN B0 G0 N0 R_p0 p0 R_p1 p1
          generalize f_ gT = w1 at *
          clear f_
          have p0 := n_p0
          clear n_p0
          have p1 := n_p1
          clear n_p1
          go_wp2_with fail
          go_roundg (130 - (p + 1))
          case measure => omega
          case rel => exact ⟨p + 1, by omega, rfl, by go_num, B1, G1, N1⟩
        · have hpd : decide ((p : Int) < 130) = false := decide_eq_false (by omega)
          go_wp2_with fail
          go_ret
          exact ⟨rfl, B0.out.out⟩
set_option maxRecDepth 100000 in
set_option maxHeartbeats 2000000 in
theorem scales_n_ba (f : Nat → Tp) (n cap : Nat) (ad : Option Addr) (g : Nat → Int) (m cap2 : Nat) (aw : Option Addr) (z : Int) (w : World) (hc : n ≤ cap) (h : TsAt w ad n f) (hcw : m ≤ cap2) (hw : IsAt w aw m g) (z0 : 0 ≤ z) (z1 : z ≤ 255) (hle : 20 < n) (hlm : m ≤ 130) (E : Int) (hE : lsE f 20 g m = E) (h0 : E ≠ 0) :
    Calls Try.prog 8 #[.slice ad n cap, .slice aw m cap2, .int .u8 z] w fun e w' => e = .returned (.bool true) ∧ Below w.heap.size w w' := by
  have hA : ¬ (n : Int) ≤ 20 := by omega
  have hc2 : 20 ≤ cap := by omega
  have hT := h.le (show 20 ≤ n by omega)
  have hA2 : (m : Int) ≤ 130 := by omega
  have hI := hw
  obtain ⟨c, hcz⟩ : ∃ c, z % 16 = c := ⟨_, rfl⟩
  have hct : z.tmod 16 = c := by rw [Int.tmod_eq_emod_of_nonneg z0]; exact hcz
  have c0 : 0 ≤ c := by omega
  have c1 : c ≤ 15 := by omega
  have HL := Lib.hid (fun u h1 h2 => lengths_u f 20 cap ad g m cap2 aw u h1 h2 (by omega))
  have hbd := lsE_bd f 20 m g
  rw [hE] at HL hbd
  have he1 : (E != 0) = true := by simpa using h0
  have he2 : (E == 0) = false := by simpa using h0
  have HN := Lib.hid h0
  clear hE h0
  have B0 := Lib.hid (Bel.refl w)
  have T0 := Lib.hid (Lib.hid hT).out
  have I0 := Lib.hid (Lib.hid hI).out
  clear h hT hw hI
  go_enter Try.func8, Try.ntmps8
  go_wp2_with fail
  refine Qt.regionAll (by kernel_rfl) (by kernel_rfl) ?_
  intro T f_ F hne
  have RB := Lib.hid (fun g => B0.out.up (F.below g))
  have RT := Lib.hid (fun g => T0.out.up (F.below g))
  have RI := Lib.hid (fun g => I0.out.up (F.below g))
  repeat (go_big_quiet_step (fail))
  refine wpQuiet_nil ?_
  rintro _ ⟨gT, rfl⟩
  have B1 := Lib.hid (RB.out gT)
  have T1 := Lib.hid (RT.out gT)
  have I1 := Lib.hid (RI.out gT)
  clear F RB hne RT RI B0 T0 I0
  generalize f_ gT = w1 at *
  clear f_
  go_wp2_with fail
  refine (HL.out _ T1.out I1.out).mono ?_
  rintro e w2 ⟨ao, co, rfl, hb, hOI, hco⟩
  clear hOI
  have B2 := Lib.hid (B1.out.up hb)
  have T2 := Lib.hid (T1.out.up hb)
  have I2 := Lib.hid (I1.out.up hb)
  clear hb B1 T1 I1 
  go_wp2_with fail
  clear T2 I2 hA hA2
  go_loopg [11, 10] 0 (fun gm i v wr => i = .int .i64 0 ∧ v = .slice none 0 0 ∧ Hid (Bel w wr))
  case atStart => exact ⟨rfl, rfl, B2⟩
  case round =>
    clear B2
    obtain ⟨rfl, rfl, B0⟩ := hrel
    by_cases hz : 0 < (m : Int)
    · have hzd : decide (0 < (m : Int)) = true := decide_eq_true hz
      go_wp2_with fail
      refine (known_ok _).mono ?_
      rintro e w5 ⟨rfl, hb⟩
      have B1 := Lib.hid (B0.out.up hb)
      clear hb
      go_wp2_with fail
      go_ret
      exact ⟨rfl, B1.out.out⟩
    · have hzd : decide (0 < (m : Int)) = false := decide_eq_false hz
      go_wp2_with fail
      refine (known_ok _).mono ?_
      rintro e w5 ⟨rfl, hb⟩
      have B1 := Lib.hid (B0.out.up hb)
      clear hb
      go_wp2_with fail
      go_ret
      exact ⟨rfl, B1.out.out⟩
set_option maxRecDepth 100000 in
set_option maxHeartbeats 8000000 in
theorem scales_y_ba (f : Nat → Tp) (n cap : Nat) (ad : Option Addr) (g : Nat → Int) (m cap2 : Nat) (aw : Option Addr) (z : Int) (w : World) (hc : n ≤ cap) (h : TsAt w ad n f) (hcw : m ≤ cap2) (hw : IsAt w aw m g) (z0 : 0 ≤ z) (z1 : z ≤ 255) (hle : 20 < n) (hlm : m ≤ 130) (hE : lsE f 20 g m = 0) :
    Calls Try.prog 8 #[.slice ad n cap, .slice aw m cap2, .int .u8 z] w fun e w' => e = .returned (.bool true) ∧ Below w.heap.size w w' := by
  have hA : ¬ (n : Int) ≤ 20 := by omega
  have hc2 : 20 ≤ cap := by omega
  have hT := h.le (show 20 ≤ n by omega)
  have hA2 : (m : Int) ≤ 130 := by omega
  have hI := hw
  obtain ⟨c, hcz⟩ : ∃ c, z % 16 = c := ⟨_, rfl⟩
  have hct : z.tmod 16 = c := by rw [Int.tmod_eq_emod_of_nonneg z0]; exact hcz
  have c0 : 0 ≤ c := by omega
  have c1 : c ≤ 15 := by omega
  have HL := Lib.hid (fun u h1 h2 => lengths_ok f 20 cap ad g m cap2 aw u h1 h2 (by omega))
  have HL2 := Lib.hid (fun ad2 c2 u h1 h2 => lengths_ok f 20 cap ad (fun k => g k * (1 + c)) m c2 ad2 u h1 h2 (by omega))
  obtain ⟨hck, hall⟩ := lsE_all hE
  have HA := Lib.hid hall
  have HC := Lib.hid hck
  have HV := Lib.hid (fun k => lsV_bd hck g k)
  rw [hE] at HL
  have d0 : ((1 + c : Int) == 0) = false := by simp; omega
  have d1 : (7741440 : Int).tdiv (1 + c) = 7741440 / (1 + c) := Int.tdiv_eq_ediv_of_nonneg (by omega)
  have d2 : 0 ≤ (7741440 : Int) / (1 + c) := Int.ediv_nonneg (by omega) (by omega)
  have d3 : (7741440 : Int) / (1 + c) ≤ 7741440 := Int.ediv_le_self _ (by omega)
  obtain ⟨i0, hinf, hz0, hz1, hz2⟩ := info_parts infoI
  clear hE hck hall
  have B0 := Lib.hid (Bel.refl w)
  have T0 := Lib.hid (Lib.hid hT).out
  have I0 := Lib.hid (Lib.hid hI).out
  have HT := Lib.hid hT
  have HI := Lib.hid hI
  clear h hT hw hI
  go_enter Try.func8, Try.ntmps8
  go_wp2_with fail
  refine Qt.regionAll (by kernel_rfl) (by kernel_rfl) ?_
  intro T f_ F hne
  have RB := Lib.hid (fun g => B0.out.up (F.below g))
  have RT := Lib.hid (fun g => T0.out.up (F.below g))
  have RI := Lib.hid (fun g => I0.out.up (F.below g))
  repeat (go_big_quiet_step (fail))
  refine wpQuiet_nil ?_
  rintro _ ⟨gT, rfl⟩
  have B1 := Lib.hid (RB.out gT)
  have T1 := Lib.hid (RT.out gT)
  have I1 := Lib.hid (RI.out gT)
  clear F RB hne RT RI B0 T0 I0
  generalize f_ gT = w1 at *
  clear f_
  go_wp2_with fail
  refine (HL.out _ T1.out I1.out).mono ?_
  rintro e w2 ⟨v, rfl, hb, hv⟩
  obtain ⟨b, rfl, hbw, hF⟩ := hv.1 rfl
  have G2 := Lib.hid hF
  clear hv hF HL
  have B2 := Lib.hid (B1.out.up hb)
  have T2 := Lib.hid (T1.out.up hb)
  have I2 := Lib.hid (I1.out.up hb)
  clear hb B1 T1 I1 
  go_wp2_with fail
  have hwb := B2.out.size
  have O2 := Lib.hid (show OwnI w2 w2.heap.size (.slice none 0 0) 0 (fun k => g k * (1 + c)) from World.ownsRow_nil _ _ _ _)
  have hbl := Lib.hid (fun (h : 0 < m) => G2.out.lt h)
  have hS2 : w2.heap.size ≤ w2.heap.size := Nat.le_refl _
  generalize hwb2 : w2.heap.size = wb at O2 hbl hwb
  rw [hwb2] at hS2
  replace hS2 : wb ≤ w2.heap.size := by omega
  clear hwb2
  clear hA hA2 T2 I2
  go_loopg [11, 10] m (fun gm i v wr => ∃ k : Nat, k ≤ m ∧ gm = m - k ∧ i = .int .i64 (k : Int) ∧ Hid (∀ j, j < k → g j * (1 + c) ≤ 7741440) ∧ Hid (Bel w wr) ∧ wb ≤ wr.heap.size ∧ Hid (Fil wr b m (lsV f 20 g)) ∧ Hid (OwnI wr wb v k (fun k => g k * (1 + c))))
  case atStart => exact ⟨0, by omega, by omega, rfl, fun j hj => by omega, B2, hS2, G2, O2⟩
  case round =>
    clear B2 G2 O2 hS2
    obtain ⟨k, hk, rfl, rfl, hj, B0, hws, G0, O0⟩ := hrel
    obtain ⟨W0, hW0, B0, hws, G0, O0⟩ : ∃ W0, W0 = _ ∧ Hid (Bel w W0) ∧ wb ≤ W0.heap.size ∧ Hid (Fil W0 b m (lsV f 20 g)) ∧ Hid (OwnI W0 wb _ k (fun k => g k * (1 + c))) := ⟨_, rfl, B0, hws, G0, O0⟩
    subst hW0
    by_cases hlt : k < m
    · have hkd : decide ((k : Int) < (m : Int)) = true := decide_eq_true (by omega)
      obtain ⟨b2, o2, rfl, q0⟩ := HI.out.up B0.out.out k hlt
      have hle := HA.out k hlt
      obtain ⟨t0, t1⟩ := lenE_zero hle
      clear hle
      have hjk := Lib.hid (fun (h : g k * (1 + c) ≤ 7741440) j (hj2 : j < k + 1) => show g j * (1 + c) ≤ 7741440 from by
        by_cases e : j = k
        · subst e; exact h
        · exact hj.out j (by omega))
      have HX := Lib.hid (show intsF (fun k => g k * (1 + c)) (k + 1) = intsF (fun k => g k * (1 + c)) k ++ [.int .i64 (g k * (1 + c))] from rfl)
      have HY := Lib.hid (fun (h : g k ≤ 7741440 / (1 + c)) => (Int.mul_le_of_le_ediv (by omega) h : g k * (1 + c) ≤ 7741440))
      have hp0 := Int.mul_nonneg t0 (show 0 ≤ 1 + c by omega)
      obtain ⟨X, hX⟩ : ∃ X, g k = X := ⟨_, rfl⟩
      rw [hX] at q0 t0 t1 hp0 HY hjk HX
      clear hX
      by_cases hbig : 7741440 / (1 + c) < X
      · have hbd : decide (7741440 / (1 + c) < X) = true := decide_eq_true hbig
        go_wp2_with fail
        refine Qt.regionAll (by kernel_rfl) (by kernel_rfl) ?_
        intro T f_ F hne
        have RB := Lib.hid (fun g => B0.out.up (F.below g))
        have RG := Lib.hid (fun g => G0.out.up (F.below g))
        have RO := Lib.hid (fun g => O0.out.up (F.below g))
        have R_q0 := fun g => cell_up (F.below g) q0
        repeat (go_big_quiet_step (fail))
        refine wpQuiet_nil ?_
        rintro _ ⟨gT, rfl⟩
        have B1 := Lib.hid (RB.out gT)
        have G1 := Lib.hid (RG.out gT)
        have O1 := Lib.hid (RO.out gT)
        have n_q0 := R_q0 gT
        clear F RB hne RG RO B0 G0 O0 R_q0 q0
        generalize f_ gT = w1 at *
        clear f_
        have q0 := n_q0
        clear n_q0
        go_wp2_with fail
        refine (known_ok _).mono ?_
        rintro e w5 ⟨rfl, hb⟩
        have B5 := Lib.hid (B1.out.up hb)
        clear hb
        go_wp2_with fail
        go_ret
        exact ⟨rfl, B5.out.out⟩
      · have hbd : decide (7741440 / (1 + c) < X) = false := decide_eq_false hbig
        have hpX := HY.out (by omega)
        have hjk2 := Lib.hid (hjk.out hpX)
        clear HY hjk hbig
        go_wp2_with fail
        have hwsF := hws
        refine Qt.regionAll (by kernel_rfl) (by kernel_rfl) ?_
        intro T f_ F hne
        have RZ := Lib.hid (fun g => Nat.le_trans hwsF (F.below g).size)
        have RB := Lib.hid (fun g => B0.out.up (F.below g))
        have RG := Lib.hid (fun g => G0.out.up (F.below g))
        have RO := Lib.hid (fun g => O0.out.up (F.below g))
        have R_q0 := fun g => cell_up (F.below g) q0
        repeat (go_big_quiet_step (fail))
        refine wpQuiet_nil ?_
        rintro _ ⟨gT, rfl⟩
        have hws1 := RZ.out gT
        have B1 := Lib.hid (RB.out gT)
        have G1 := Lib.hid (RG.out gT)
        have O1 := Lib.hid (RO.out gT)
        have n_q0 := R_q0 gT
        clear F RZ RB hne RG RO B0 G0 O0 R_q0 q0
        generalize f_ gT = w1 at *
        clear f_
        have q0 := n_q0
        clear n_q0
        clear hws hwsF
        go_wp2_with (first | (at_builtin; refine wpList_append_own _ rfl _ _ 40 rfl wb 3 i0 (.int .i64 0) 1 8 Try.underlying40 hinf hz0 hz1 hz2 rfl (by decide) _ _ _ rfl (World.ownsRow.alloc O1.out _) ⟨w1.heap.size, 0, none⟩ 1 1 [.int .i64 (X * (1 + c))] rfl rfl (cell1_new _ _ _ _ rfl) (by simp [Value.oneCell']) (by unfold maxLen; omega) (by omega) (by simp; omega) ?_; intro v' w9 hown' hgrow _))
        have hrow := fun r hr => (World.ownsRow.lt O1.out r hr).1
        have hB := Lib.hid (Below.grown (B1.out.alloc _) hgrow (by have := B1.out.size; simp; omega) (fun r hr => Nat.le_trans hwb (hrow r hr)))
        have hG := Lib.hid ((G1.out.up ((Below.refl w1.heap.size w1).alloc (Nat.le_refl _) _)).grown hgrow (fun e => by have := hrow b e.symm; have := hbl.out (by omega); omega))
        have hS : wb ≤ w9.heap.size := by have := hgrow.size; simp at this; omega
        go_roundg (m - (k + 1))
        case measure => omega
        case rel => exact ⟨k + 1, by omega, rfl, by go_num, hjk2, hB, hS, hG, by rw [show OwnI w9 wb v' (k + 1) (fun k => g k * (1 + c)) = w9.ownsRow wb 3 1 v' (k + 1) (intsF (fun k => g k * (1 + c)) (k + 1)) from rfl, HX.out]; exact hown'⟩
    · have hkd : decide ((k : Int) < (m : Int)) = false := decide_eq_false (by omega)
      have hkK : k = m := by omega
      rw [hkK] at O0 hj
      obtain ⟨a9, c9, rfl, hN, _⟩ := IsAt.own O0.out
      have N0 := Lib.hid hN
      have hE2 : lsE f 20 (fun k => g k * (1 + c)) m = 0 := lsE_of HC.out (fun k hk => lenE_mul (HA.out k hk) (by omega) (hj.out k hk))
      have HV2 := Lib.hid (fun k hk => show lsV f 20 (fun k => g k * (1 + c)) k = lsV f 20 g k * (1 + c) from lenV_mul (Gd.chk HC.out) (HA.out k hk) (by omega) (hj.out k hk))
      rw [hE2] at HL2
      clear O0 hN hE2
      go_wp2_with fail
      refine (HL2.out a9 c9 _ (HT.out.up B0.out.out) N0.out).mono ?_
      rintro e w5 ⟨v5, rfl, hb, hv⟩
      obtain ⟨b5, rfl, _, hF⟩ := hv.1 rfl
      have B5 := Lib.hid (B0.out.up hb)
      have G5 := Lib.hid (G0.out.up hb)
      have N5 := Lib.hid hF
      clear hb hv hF B0 G0 N0 HL2
      go_wp2_with fail
      refine (known_ok _).mono ?_
      rintro e w6 ⟨rfl, hb⟩
      have B6 := Lib.hid (B5.out.up hb)
      have G6 := Lib.hid (G5.out.up hb)
      have N6 := Lib.hid (N5.out.up hb)
      clear hb B5 G5 N5
      go_wp2_with fail
      go_loopg [14] m (fun gm i wr => ∃ k : Nat, k ≤ m ∧ gm = m - k ∧ i = .int .i64 (k : Int) ∧ Hid (Bel w wr) ∧ Hid (Fil wr b m (lsV f 20 g)) ∧ Hid (Fil wr b5 m (lsV f 20 (fun k => g k * (1 + c)))))
      case atStart => exact ⟨0, by omega, by omega, rfl, B6, G6, N6⟩
      case round =>
        clear B6 G6 N6
        obtain ⟨p, hp, rfl, rfl, B0, G0, N0⟩ := hrel
        obtain ⟨W0, hW0, B0, G0, N0⟩ : ∃ W0, W0 = _ ∧ Hid (Bel w W0) ∧ Hid (Fil W0 b m (lsV f 20 g)) ∧ Hid (Fil W0 b5 m (lsV f 20 (fun k => g k * (1 + c)))) := ⟨_, rfl, B0, G0, N0⟩
        subst hW0
        by_cases hlt2 : p < m
        · have hpd : decide ((p : Int) < (m : Int)) = true := decide_eq_true (by omega)
          have p0 := (N0.out p hlt2).1
          have p1 := (G0.out p hlt2).1
          rw [HV2.out p hlt2] at p0
          obtain ⟨v0, v1⟩ := HV.out p
          generalize lsV f 20 g p = X at *
          have m1 : 0 ≤ X * (1 + c) := Int.mul_nonneg v0 (by omega)
          have m2 : X * (1 + c) ≤ 253671505920 * 16 := Int.mul_le_mul v1 (by omega) (by omega) (by omega)
          go_wp2_with fail
          refine Qt.regionAll (by kernel_rfl) (by kernel_rfl) ?_
          intro T f_ F hne
          have RB := Lib.hid (fun g => B0.out.up (F.below g))
          have RG := Lib.hid (fun g => G0.out.up (F.below g))
          have RN := Lib.hid (fun g => N0.out.up (F.below g))
          have R_p0 := fun g => cell_up (F.below g) p0
          have R_p1 := fun g => cell_up (F.below g) p1
          repeat (go_big_quiet_step (fail))
          refine wpQuiet_nil ?_
          rintro _ ⟨gT, rfl⟩
          have B1 := Lib.hid (RB.out gT)
          have G1 := Lib.hid (RG.out gT)
          have N1 := Lib.hid (RN.out gT)
          have n_p0 := R_p0 gT
          have n_p1 := R_p1 gT
          clear F RB hne RG RN B0 G0 N0 R_p0 p0 R_p1 p1
          generalize f_ gT = w1 at *
          clear f_
          have p0 := n_p0
          clear n_p0
          have p1 := n_p1
          clear n_p1
          go_wp2_with fail
          go_roundg (m - (p + 1))
          case measure => omega
          case rel => exact ⟨p + 1, by omega, rfl, by go_num, B1, G1, N1⟩
        · have hpd : decide ((p : Int) < (m : Int)) = false := decide_eq_false (by omega)
          go_wp2_with fail
          go_ret
          exact ⟨rfl, B0.out.out⟩
set_option maxRecDepth 100000 in
set_option maxHeartbeats 2000000 in
theorem scales_n_bb (f : Nat → Tp) (n cap : Nat) (ad : Option Addr) (g : Nat → Int) (m cap2 : Nat) (aw : Option Addr) (z : Int) (w : World) (hc : n ≤ cap) (h : TsAt w ad n f) (hcw : m ≤ cap2) (hw : IsAt w aw m g) (z0 : 0 ≤ z) (z1 : z ≤ 255) (hle : 20 < n) (hlm : 130 < m) (E : Int) (hE : lsE f 20 g 130 = E) (h0 : E ≠ 0) :
    Calls Try.prog 8 #[.slice ad n cap, .slice aw m cap2, .int .u8 z] w fun e w' => e = .returned (.bool true) ∧ Below w.heap.size w w' := by
  have hA : ¬ (n : Int) ≤ 20 := by omega
  have hc2 : 20 ≤ cap := by omega
  have hT := h.le (show 20 ≤ n by omega)
  have hA2 : ¬ (m : Int) ≤ 130 := by omega
  have hc3 : 130 ≤ cap2 := by omega
  have hI := hw.le (show 130 ≤ m by omega)
  obtain ⟨c, hcz⟩ : ∃ c, z % 16 = c := ⟨_, rfl⟩
  have hct : z.tmod 16 = c := by rw [Int.tmod_eq_emod_of_nonneg z0]; exact hcz
  have c0 : 0 ≤ c := by omega
  have c1 : c ≤ 15 := by omega
  have HL := Lib.hid (fun u h1 h2 => lengths_u f 20 cap ad g 130 cap2 aw u h1 h2 (by omega))
  have hbd := lsE_bd f 20 130 g
  rw [hE] at HL hbd
  have he1 : (E != 0) = true := by simpa using h0
  have he2 : (E == 0) = false := by simpa using h0
  have HN := Lib.hid h0
  clear hE h0
  have B0 := Lib.hid (Bel.refl w)
  have T0 := Lib.hid (Lib.hid hT).out
  have I0 := Lib.hid (Lib.hid hI).out
  clear h hT hw hI
  go_enter Try.func8, Try.ntmps8
  go_wp2_with fail
  refine Qt.regionAll (by kernel_rfl) (by kernel_rfl) ?_
  intro T f_ F hne
  have RB := Lib.hid (fun g => B0.out.up (F.below g))
  have RT := Lib.hid (fun g => T0.out.up (F.below g))
  have RI := Lib.hid (fun g => I0.out.up (F.below g))
  repeat (go_big_quiet_step (fail))
  refine wpQuiet_nil ?_
  rintro _ ⟨gT, rfl⟩
  have B1 := Lib.hid (RB.out gT)
  have T1 := Lib.hid (RT.out gT)
  have I1 := Lib.hid (RI.out gT)
  clear F RB hne RT RI B0 T0 I0
  generalize f_ gT = w1 at *
  clear f_
  go_wp2_with fail
  refine (HL.out _ T1.out I1.out).mono ?_
  rintro e w2 ⟨ao, co, rfl, hb, hOI, hco⟩
  clear hOI
  have B2 := Lib.hid (B1.out.up hb)
  have T2 := Lib.hid (T1.out.up hb)
  have I2 := Lib.hid (I1.out.up hb)
  clear hb B1 T1 I1 
  go_wp2_with fail
  clear T2 I2 hA hA2
  go_loopg [11, 10] 0 (fun gm i v wr => i = .int .i64 0 ∧ v = .slice none 0 0 ∧ Hid (Bel w wr))
  case atStart => exact ⟨rfl, rfl, B2⟩
  case round =>
    clear B2
    obtain ⟨rfl, rfl, B0⟩ := hrel
    by_cases hz : 0 < 130
    · have hzd : decide (0 < 130) = true := decide_eq_true hz
      go_wp2_with fail
      refine (known_ok _).mono ?_
      rintro e w5 ⟨rfl, hb⟩
      have B1 := Lib.hid (B0.out.up hb)
      clear hb
      go_wp2_with fail
      go_ret
      exact ⟨rfl, B1.out.out⟩
    · have hzd : decide (0 < 130) = false := decide_eq_false hz
      go_wp2_with fail
      refine (known_ok _).mono ?_
      rintro e w5 ⟨rfl, hb⟩
      have B1 := Lib.hid (B0.out.up hb)
      clear hb
      go_wp2_with fail
      go_ret
      exact ⟨rfl, B1.out.out⟩
set_option maxRecDepth 100000 in
set_option maxHeartbeats 8000000 in
theorem scales_y_bb (f : Nat → Tp) (n cap : Nat) (ad : Option Addr) (g : Nat → Int) (m cap2 : Nat) (aw : Option Addr) (z : Int) (w : World) (hc : n ≤ cap) (h : TsAt w ad n f) (hcw : m ≤ cap2) (hw : IsAt w aw m g) (z0 : 0 ≤ z) (z1 : z ≤ 255) (hle : 20 < n) (hlm : 130 < m) (hE : lsE f 20 g 130 = 0) :
    Calls Try.prog 8 #[.slice ad n cap, .slice aw m cap2, .int .u8 z] w fun e w' => e = .returned (.bool true) ∧ Below w.heap.size w w' := by
  have hA : ¬ (n : Int) ≤ 20 := by omega
  have hc2 : 20 ≤ cap := by omega
  have hT := h.le (show 20 ≤ n by omega)
  have hA2 : ¬ (m : Int) ≤ 130 := by omega
  have hc3 : 130 ≤ cap2 := by omega
  have hI := hw.le (show 130 ≤ m by omega)
  obtain ⟨c, hcz⟩ : ∃ c, z % 16 = c := ⟨_, rfl⟩
  have hct : z.tmod 16 = c := by rw [Int.tmod_eq_emod_of_nonneg z0]; exact hcz
  have c0 : 0 ≤ c := by omega
  have c1 : c ≤ 15 := by omega
  have HL := Lib.hid (fun u h1 h2 => lengths_ok f 20 cap ad g 130 cap2 aw u h1 h2 (by omega))
  have HL2 := Lib.hid (fun ad2 c2 u h1 h2 => lengths_ok f 20 cap ad (fun k => g k * (1 + c)) 130 c2 ad2 u h1 h2 (by omega))
  obtain ⟨hck, hall⟩ := lsE_all hE
  have HA := Lib.hid hall
  have HC := Lib.hid hck
  have HV := Lib.hid (fun k => lsV_bd hck g k)
  rw [hE] at HL
  have d0 : ((1 + c : Int) == 0) = false := by simp; omega
  have d1 : (7741440 : Int).tdiv (1 + c) = 7741440 / (1 + c) := Int.tdiv_eq_ediv_of_nonneg (by omega)
  have d2 : 0 ≤ (7741440 : Int) / (1 + c) := Int.ediv_nonneg (by omega) (by omega)
  have d3 : (7741440 : Int) / (1 + c) ≤ 7741440 := Int.ediv_le_self _ (by omega)
  obtain ⟨i0, hinf, hz0, hz1, hz2⟩ := info_parts infoI
  clear hE hck hall
  have B0 := Lib.hid (Bel.refl w)
  have T0 := Lib.hid (Lib.hid hT).out
  have I0 := Lib.hid (Lib.hid hI).out
  have HT := Lib.hid hT
  have HI := Lib.hid hI
  clear h hT hw hI
  go_enter Try.func8, Try.ntmps8
  go_wp2_with fail
  refine Qt.regionAll (by kernel_rfl) (by kernel_rfl) ?_
  intro T f_ F hne
  have RB := Lib.hid (fun g => B0.out.up (F.below g))
  have RT := Lib.hid (fun g => T0.out.up (F.below g))
  have RI := Lib.hid (fun g => I0.out.up (F.below g))
  repeat (go_big_quiet_step (fail))
  refine wpQuiet_nil ?_
  rintro _ ⟨gT, rfl⟩
  have B1 := Lib.hid (RB.out gT)
  have T1 := Lib.hid (RT.out gT)
  have I1 := Lib.hid (RI.out gT)
  clear F RB hne RT RI B0 T0 I0
  generalize f_ gT = w1 at *
  clear f_
  go_wp2_with fail
  refine (HL.out _ T1.out I1.out).mono ?_
  rintro e w2 ⟨v, rfl, hb, hv⟩
  obtain ⟨b, rfl, hbw, hF⟩ := hv.1 rfl
  have G2 := Lib.hid hF
  clear hv hF HL
  have B2 := Lib.hid (B1.out.up hb)
  have T2 := Lib.hid (T1.out.up hb)
  have I2 := Lib.hid (I1.out.up hb)
  clear hb B1 T1 I1 
  go_wp2_with fail
  have hwb := B2.out.size
  have O2 := Lib.hid (show OwnI w2 w2.heap.size (.slice none 0 0) 0 (fun k => g k * (1 + c)) from World.ownsRow_nil _ _ _ _)
  have hbl := Lib.hid (fun (h : 0 < 130) => G2.out.lt h)
  have hS2 : w2.heap.size ≤ w2.heap.size := Nat.le_refl _
  generalize hwb2 : w2.heap.size = wb at O2 hbl hwb
  rw [hwb2] at hS2
  replace hS2 : wb ≤ w2.heap.size := by omega
  clear hwb2
  clear hA hA2 T2 I2
  go_loopg [11, 10] 130 (fun gm i v wr => ∃ k : Nat, k ≤ 130 ∧ gm = 130 - k ∧ i = .int .i64 (k : Int) ∧ Hid (∀ j, j < k → g j * (1 + c) ≤ 7741440) ∧ Hid (Bel w wr) ∧ wb ≤ wr.heap.size ∧ Hid (Fil wr b 130 (lsV f 20 g)) ∧ Hid (OwnI wr wb v k (fun k => g k * (1 + c))))
  case atStart => exact ⟨0, by omega, by omega, rfl, fun j hj => by omega, B2, hS2, G2, O2⟩
  case round =>
    clear B2 G2 O2 hS2
    obtain ⟨k, hk, rfl, rfl, hj, B0, hws, G0, O0⟩ := hrel
    obtain ⟨W0, hW0, B0, hws, G0, O0⟩ : ∃ W0, W0 = _ ∧ Hid (Bel w W0) ∧ wb ≤ W0.heap.size ∧ Hid (Fil W0 b 130 (lsV f 20 g)) ∧ Hid (OwnI W0 wb _ k (fun k => g k * (1 + c))) := ⟨_, rfl, B0, hws, G0, O0⟩
    subst hW0
    by_cases hlt : k < 130
    · have hkd : decide ((k : Int) < 130) = true := decide_eq_true (by omega)
      obtain ⟨b2, o2, rfl, q0⟩ := HI.out.up B0.out.out k hlt
      have hle := HA.out k hlt
      obtain ⟨t0, t1⟩ := lenE_zero hle
      clear hle
      have hjk := Lib.hid (fun (h : g k * (1 + c) ≤ 7741440) j (hj2 : j < k + 1) => show g j * (1 + c) ≤ 7741440 from by
        by_cases e : j = k
        · subst e; exact h
        · exact hj.out j (by omega))
      have HX := Lib.hid (show intsF (fun k => g k * (1 + c)) (k + 1) = intsF (fun k => g k * (1 + c)) k ++ [.int .i64 (g k * (1 + c))] from rfl)
      have HY := Lib.hid (fun (h : g k ≤ 7741440 / (1 + c)) => (Int.mul_le_of_le_ediv (by omega) h : g k * (1 + c) ≤ 7741440))
      have hp0 := Int.mul_nonneg t0 (show 0 ≤ 1 + c by omega)
      obtain ⟨X, hX⟩ : ∃ X, g k = X := ⟨_, rfl⟩
      rw [hX] at q0 t0 t1 hp0 HY hjk HX
      clear hX
      by_cases hbig : 7741440 / (1 + c) < X
      · have hbd : decide (7741440 / (1 + c) < X) = true := decide_eq_true hbig
        go_wp2_with fail
        refine Qt.regionAll (by kernel_rfl) (by kernel_rfl) ?_
        intro T f_ F hne
        have RB := Lib.hid (fun g => B0.out.up (F.below g))
        have RG := Lib.hid (fun g => G0.out.up (F.below g))
        have RO := Lib.hid (fun g => O0.out.up (F.below g))
        have R_q0 := fun g => cell_up (F.below g) q0
        repeat (go_big_quiet_step (fail))
        refine wpQuiet_nil ?_
        rintro _ ⟨gT, rfl⟩
        have B1 := Lib.hid (RB.out gT)
        have G1 := Lib.hid (RG.out gT)
        have O1 := Lib.hid (RO.out gT)
        have n_q0 := R_q0 gT
        clear F RB hne RG RO B0 G0 O0 R_q0 q0
        generalize f_ gT = w1 at *
        clear f_
        have q0 := n_q0
        clear n_q0
        go_wp2_with fail
        refine (known_ok _).mono ?_
        rintro e w5 ⟨rfl, hb⟩
        have B5 := Lib.hid (B1.out.up hb)
        clear hb
        go_wp2_with fail
        go_ret
        exact ⟨rfl, B5.out.out⟩
      · have hbd : decide (7741440 / (1 + c) < X) = false := decide_eq_false hbig
        have hpX := HY.out (by omega)
        have hjk2 := Lib.hid (hjk.out hpX)
        clear HY hjk hbig
        go_wp2_with fail
        have hwsF := hws
        refine Qt.regionAll (by kernel_rfl) (by kernel_rfl) ?_
        intro T f_ F hne
        have RZ := Lib.hid (fun g => Nat.le_trans hwsF (F.below g).size)
        have RB := Lib.hid (fun g => B0.out.up (F.below g))
        have RG := Lib.hid (fun g => G0.out.up (F.below g))
        have RO := Lib.hid (fun g => O0.out.up (F.below g))
        have R_q0 := fun g => cell_up (F.below g) q0
        repeat (go_big_quiet_step (fail))
        refine wpQuiet_nil ?_
        rintro _ ⟨gT, rfl⟩
        have hws1 := RZ.out gT
        have B1 := Lib.hid (RB.out gT)
        have G1 := Lib.hid (RG.out gT)
        have O1 := Lib.hid (RO.out gT)
        have n_q0 := R_q0 gT
        clear F RZ RB hne RG RO B0 G0 O0 R_q0 q0
        generalize f_ gT = w1 at *
        clear f_
        have q0 := n_q0
        clear n_q0
        clear hws hwsF
        go_wp2_with (first | (at_builtin; refine wpList_append_own _ rfl _ _ 40 rfl wb 3 i0 (.int .i64 0) 1 8 Try.underlying40 hinf hz0 hz1 hz2 rfl (by decide) _ _ _ rfl (World.ownsRow.alloc O1.out _) ⟨w1.heap.size, 0, none⟩ 1 1 [.int .i64 (X * (1 + c))] rfl rfl (cell1_new _ _ _ _ rfl) (by simp [Value.oneCell']) (by unfold maxLen; omega) (by omega) (by simp; omega) ?_; intro v' w9 hown' hgrow _))
        have hrow := fun r hr => (World.ownsRow.lt O1.out r hr).1
        have hB := Lib.hid (Below.grown (B1.out.alloc _) hgrow (by have := B1.out.size; simp; omega) (fun r hr => Nat.le_trans hwb (hrow r hr)))
        have hG := Lib.hid ((G1.out.up ((Below.refl w1.heap.size w1).alloc (Nat.le_refl _) _)).grown hgrow (fun e => by have := hrow b e.symm; have := hbl.out (by omega); omega))
        have hS : wb ≤ w9.heap.size := by have := hgrow.size; simp at this; omega
        go_roundg (130 - (k + 1))
        case measure => omega
        case rel => exact ⟨k + 1, by omega, rfl, by go_num, hjk2, hB, hS, hG, by rw [show OwnI w9 wb v' (k + 1) (fun k => g k * (1 + c)) = w9.ownsRow wb 3 1 v' (k + 1) (intsF (fun k => g k * (1 + c)) (k + 1)) from rfl, HX.out]; exact hown'⟩
    · have hkd : decide ((k : Int) < 130) = false := decide_eq_false (by omega)
      have hkK : k = 130 := by omega
      rw [hkK] at O0 hj
      obtain ⟨a9, c9, rfl, hN, _⟩ := IsAt.own O0.out
      have N0 := Lib.hid hN
      have hE2 : lsE f 20 (fun k => g k * (1 + c)) 130 = 0 := lsE_of HC.out (fun k hk => lenE_mul (HA.out k hk) (by omega) (hj.out k hk))
      have HV2 := Lib.hid (fun k hk => show lsV f 20 (fun k => g k * (1 + c)) k = lsV f 20 g k * (1 + c) from lenV_mul (Gd.chk HC.out) (HA.out k hk) (by omega) (hj.out k hk))
      rw [hE2] at HL2
      clear O0 hN hE2
      go_wp2_with fail
      refine (HL2.out a9 c9 _ (HT.out.up B0.out.out) N0.out).mono ?_
      rintro e w5 ⟨v5, rfl, hb, hv⟩
      obtain ⟨b5, rfl, _, hF⟩ := hv.1 rfl
      have B5 := Lib.hid (B0.out.up hb)
      have G5 := Lib.hid (G0.out.up hb)
      have N5 := Lib.hid hF
      clear hb hv hF B0 G0 N0 HL2
      go_wp2_with fail
      refine (known_ok _).mono ?_
      rintro e w6 ⟨rfl, hb⟩
      have B6 := Lib.hid (B5.out.up hb)
      have G6 := Lib.hid (G5.out.up hb)
      have N6 := Lib.hid (N5.out.up hb)
      clear hb B5 G5 N5
      go_wp2_with fail
      go_loopg [14] 130 (fun gm i wr => ∃ k : Nat, k ≤ 130 ∧ gm = 130 - k ∧ i = .int .i64 (k : Int) ∧ Hid (Bel w wr) ∧ Hid (Fil wr b 130 (lsV f 20 g)) ∧ Hid (Fil wr b5 130 (lsV f 20 (fun k => g k * (1 + c)))))
      case atStart => exact ⟨0, by omega, by omega, rfl, B6, G6, N6⟩
      case round =>
        clear B6 G6 N6
        obtain ⟨p, hp, rfl, rfl, B0, G0, N0⟩ := hrel
        obtain ⟨W0, hW0, B0, G0, N0⟩ : ∃ W0, W0 = _ ∧ Hid (Bel w W0) ∧ Hid (Fil W0 b 130 (lsV f 20 g)) ∧ Hid (Fil W0 b5 130 (lsV f 20 (fun k => g k * (1 + c)))) := ⟨_, rfl, B0, G0, N0⟩
        subst hW0
        by_cases hlt2 : p < 130
        · have hpd : decide ((p : Int) < 130) = true := decide_eq_true (by omega)
          have p0 := (N0.out p hlt2).1
          have p1 := (G0.out p hlt2).1
          rw [HV2.out p hlt2] at p0
          obtain ⟨v0, v1⟩ := HV.out p
          generalize lsV f 20 g p = X at *
          have m1 : 0 ≤ X * (1 + c) := Int.mul_nonneg v0 (by omega)
          have m2 : X * (1 + c) ≤ 253671505920 * 16 := Int.mul_le_mul v1 (by omega) (by omega) (by omega)
          go_wp2_with fail
          refine Qt.regionAll (by kernel_rfl) (by kernel_rfl) ?_
          intro T f_ F hne
          have RB := Lib.hid (fun g => B0.out.up (F.below g))
          have RG := Lib.hid (fun g => G0.out.up (F.below g))
          have RN := Lib.hid (fun g => N0.out.up (F.below g))
          have R_p0 := fun g => cell_up (F.below g) p0
          have R_p1 := fun g => cell_up (F.below g) p1
          repeat (go_big_quiet_step (fail))
          refine wpQuiet_nil ?_
          rintro _ ⟨gT, rfl⟩
          have B1 := Lib.hid (RB.out gT)
          have G1 := Lib.hid (RG.out gT)
          have N1 := Lib.hid (RN.out gT)
          have n_p0 := R_p0 gT
          have n_p1 := R_p1 gT
          clear F RB hne RG RN B0 G0 N0 R_p0 p0 R_p1 p1
          generalize f_ gT = w1 at *
          clear f_
          have p0 := n_p0
          clear n_p0
          have p1 := n_p1
          clear n_p1
          go_wp2_with fail
          go_roundg (130 - (p + 1))
          case measure => omega
          case rel => exact ⟨p + 1, by omega, rfl, by go_num, B1, G1, N1⟩
        · have hpd : decide ((p : Int) < 130) = false := decide_eq_false (by omega)
          go_wp2_with fail
          go_ret
          exact ⟨rfl, B0.out.out⟩
theorem law_TupletScales (f : Nat → Tp) (n cap : Nat) (ad : Option Addr) (g : Nat → Int) (m cap2 : Nat) (aw : Option Addr) (z : Int) (w : World) (hc : n ≤ cap) (h : TsAt w ad n f) (hcw : m ≤ cap2) (hw : IsAt w aw m g) (z0 : 0 ≤ z) (z1 : z ≤ 255) : Calls Try.prog 8 #[.slice ad n cap, .slice aw m cap2, .int .u8 z] w fun e w' => e = .returned (.bool true) ∧ Below w.heap.size w w' := by
  by_cases hle : n ≤ 20 <;> by_cases hlm : m ≤ 130
  · by_cases hE : lsE f n g m = 0
    · exact scales_y_aa f n cap ad g m cap2 aw z w hc h hcw hw z0 z1 hle hlm hE
    · exact scales_n_aa f n cap ad g m cap2 aw z w hc h hcw hw z0 z1 hle hlm _ rfl hE
  · by_cases hE : lsE f n g 130 = 0
    · exact scales_y_ab f n cap ad g m cap2 aw z w hc h hcw hw z0 z1 hle (by omega) hE
    · exact scales_n_ab f n cap ad g m cap2 aw z w hc h hcw hw z0 z1 hle (by omega) _ rfl hE
  · by_cases hE : lsE f 20 g m = 0
    · exact scales_y_ba f n cap ad g m cap2 aw z w hc h hcw hw z0 z1 (by omega) hlm hE
    · exact scales_n_ba f n cap ad g m cap2 aw z w hc h hcw hw z0 z1 (by omega) hlm _ rfl hE
  · by_cases hE : lsE f 20 g 130 = 0
    · exact scales_y_bb f n cap ad g m cap2 aw z w hc h hcw hw z0 z1 (by omega) (by omega) hE
    · exact scales_n_bb f n cap ad g m cap2 aw z w hc h hcw hw z0 z1 (by omega) (by omega) _ rfl hE
end Go.Proofs.Ytidggmfgbcmklaa
