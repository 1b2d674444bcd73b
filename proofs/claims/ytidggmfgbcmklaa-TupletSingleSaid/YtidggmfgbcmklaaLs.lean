/- Tuplets: law Single. -/
import Derived.Test.YtidggmfgbcmklaaTsu
namespace Go.Proofs.Ytidggmfgbcmklaa
open Go.RowKit
set_option linter.unusedVariables false
set_option linter.unusedSimpArgs false

set_option maxRecDepth 100000 in
set_option maxHeartbeats 2000000 in
theorem single_n_a (f : Nat → Tp) (n cap : Nat) (ad : Option Addr) (x t : Int) (w : World) (hc : n ≤ cap) (h : TsAt w ad n f) (hle : n ≤ 20) (E : Int) (hE : chk f n 128 = E) (h0 : E ≠ 0) :
    Calls Try.prog 7 #[.slice ad n cap, .int .i64 x, .int .i64 t] w fun e w' => e = .returned (.bool true) ∧ Below w.heap.size w w' := by
  have hA : (n : Int) ≤ 20 := by omega
  have hT := h
  have HR := Lib.hid (fun ad2 cap2 u (h : TsAt u ad2 n f) => rcheck_ok f n cap2 ad2 128 u h)
  have hbd := chk_bd f n 128
  rw [hE] at HR hbd
  have he1 : (E != 0) = true := by simpa using h0
  have he2 : (E == 0) = false := by simpa using h0
  have HN := Lib.hid h0
  have HE := Lib.hid hE
  clear hE h0
  have B0 := Lib.hid (Bel.refl w)
  have T0 := Lib.hid (Lib.hid hT).out
  clear h hT
  go_enter Try.func7, Try.ntmps7
  go_wp2_with fail
  refine (Length_n f n cap ad x t E _ T0.out HE.out HN.out).mono ?_
  rintro e w1 ⟨rfl, hb⟩
  have B1 := Lib.hid (B0.out.up hb)
  have T1 := Lib.hid (T0.out.up hb)
  clear hb B0 T0 
  go_wp2_with fail
  refine (to_ok f n cap ad _ (by omega) T1.out).mono ?_
  rintro e w2 ⟨ad2, cap2, rfl, hb, hU⟩
  replace hU := Lib.hid hU
  have B2 := Lib.hid (B1.out.up hb)
  have T2 := Lib.hid (T1.out.up hb)
  clear hb B1 T1 
  go_wp2_with fail
  refine (known_ok _).mono ?_
  rintro e w3 ⟨rfl, hb⟩
  replace hU := Lib.hid (hU.out.up hb)
  have B3 := Lib.hid (B2.out.up hb)
  have T3 := Lib.hid (T2.out.up hb)
  clear hb B2 T2 
  go_wp2_with fail
  refine (HR.out ad2 cap2 _ hU.out).mono ?_
  rintro e w4 ⟨rfl, hb⟩
  have B4 := Lib.hid (B3.out.up hb)
  have T4 := Lib.hid (T3.out.up hb)
  clear hb B3 T3 
  go_wp2_with fail
  go_ret
  exact ⟨rfl, B4.out.out⟩
set_option maxRecDepth 100000 in
set_option maxHeartbeats 2000000 in
theorem single_lo_a (f : Nat → Tp) (n cap : Nat) (ad : Option Addr) (x t : Int) (w : World) (hc : n ≤ cap) (h : TsAt w ad n f) (hle : n ≤ 20) (hE : chk f n 128 = 0) (x0 : x < 0) :
    Calls Try.prog 7 #[.slice ad n cap, .int .i64 x, .int .i64 t] w fun e w' => e = .returned (.bool true) ∧ Below w.heap.size w w' := by
  have hA : (n : Int) ≤ 20 := by omega
  have hT := h
  have HR := Lib.hid (fun ad2 cap2 u (h : TsAt u ad2 n f) => rcheck_ok f n cap2 ad2 128 u h)
  rw [hE] at HR
  have HE := Lib.hid hE
  clear hE
  have g0 : decide (x < 0) = true := decide_eq_true x0
  have B0 := Lib.hid (Bel.refl w)
  have T0 := Lib.hid (Lib.hid hT).out
  clear h hT
  go_enter Try.func7, Try.ntmps7
  go_wp2_with fail
  refine (Length_lo f n cap ad x t _ T0.out HE.out x0).mono ?_
  rintro e w1 ⟨rfl, hb⟩
  have B1 := Lib.hid (B0.out.up hb)
  have T1 := Lib.hid (T0.out.up hb)
  clear hb B0 T0 
  go_wp2_with fail
  refine (to_ok f n cap ad _ (by omega) T1.out).mono ?_
  rintro e w2 ⟨ad2, cap2, rfl, hb, hU⟩
  replace hU := Lib.hid hU
  have B2 := Lib.hid (B1.out.up hb)
  have T2 := Lib.hid (T1.out.up hb)
  clear hb B1 T1 
  go_wp2_with fail
  refine (known_ok _).mono ?_
  rintro e w3 ⟨rfl, hb⟩
  replace hU := Lib.hid (hU.out.up hb)
  have B3 := Lib.hid (B2.out.up hb)
  have T3 := Lib.hid (T2.out.up hb)
  clear hb B2 T2 
  go_wp2_with fail
  refine (HR.out ad2 cap2 _ hU.out).mono ?_
  rintro e w4 ⟨rfl, hb⟩
  have B4 := Lib.hid (B3.out.up hb)
  have T4 := Lib.hid (T3.out.up hb)
  clear hb B3 T3 
  go_wp2_with fail
  go_ret
  exact ⟨rfl, B4.out.out⟩
set_option maxRecDepth 100000 in
set_option maxHeartbeats 2000000 in
theorem single_hi_a (f : Nat → Tp) (n cap : Nat) (ad : Option Addr) (x t : Int) (w : World) (hc : n ≤ cap) (h : TsAt w ad n f) (hle : n ≤ 20) (hE : chk f n 128 = 0) (x0 : 0 ≤ x) (x1 : 128 ≤ x) :
    Calls Try.prog 7 #[.slice ad n cap, .int .i64 x, .int .i64 t] w fun e w' => e = .returned (.bool true) ∧ Below w.heap.size w w' := by
  have hA : (n : Int) ≤ 20 := by omega
  have hT := h
  have HR := Lib.hid (fun ad2 cap2 u (h : TsAt u ad2 n f) => rcheck_ok f n cap2 ad2 128 u h)
  rw [hE] at HR
  have HE := Lib.hid hE
  clear hE
  have g0 : decide (x < 0) = false := decide_eq_false (by omega)
  have g1 : decide (128 ≤ x) = true := decide_eq_true x1
  have B0 := Lib.hid (Bel.refl w)
  have T0 := Lib.hid (Lib.hid hT).out
  clear h hT
  go_enter Try.func7, Try.ntmps7
  go_wp2_with fail
  refine (Length_hi f n cap ad x t _ T0.out HE.out x0 x1).mono ?_
  rintro e w1 ⟨rfl, hb⟩
  have B1 := Lib.hid (B0.out.up hb)
  have T1 := Lib.hid (T0.out.up hb)
  clear hb B0 T0 
  go_wp2_with fail
  refine (to_ok f n cap ad _ (by omega) T1.out).mono ?_
  rintro e w2 ⟨ad2, cap2, rfl, hb, hU⟩
  replace hU := Lib.hid hU
  have B2 := Lib.hid (B1.out.up hb)
  have T2 := Lib.hid (T1.out.up hb)
  clear hb B1 T1 
  go_wp2_with fail
  refine (known_ok _).mono ?_
  rintro e w3 ⟨rfl, hb⟩
  replace hU := Lib.hid (hU.out.up hb)
  have B3 := Lib.hid (B2.out.up hb)
  have T3 := Lib.hid (T2.out.up hb)
  clear hb B2 T2 
  go_wp2_with fail
  refine (HR.out ad2 cap2 _ hU.out).mono ?_
  rintro e w4 ⟨rfl, hb⟩
  have B4 := Lib.hid (B3.out.up hb)
  have T4 := Lib.hid (T3.out.up hb)
  clear hb B3 T3 
  go_wp2_with fail
  go_ret
  exact ⟨rfl, B4.out.out⟩
set_option maxRecDepth 100000 in
set_option maxHeartbeats 2000000 in
theorem single_tl_a (f : Nat → Tp) (n cap : Nat) (ad : Option Addr) (x t : Int) (w : World) (hc : n ≤ cap) (h : TsAt w ad n f) (hle : n ≤ 20) (hE : chk f n 128 = 0) (x0 : 0 ≤ x) (x1 : x < 128) (t0 : t < 0) :
    Calls Try.prog 7 #[.slice ad n cap, .int .i64 x, .int .i64 t] w fun e w' => e = .returned (.bool true) ∧ Below w.heap.size w w' := by
  have hA : (n : Int) ≤ 20 := by omega
  have hT := h
  have HR := Lib.hid (fun ad2 cap2 u (h : TsAt u ad2 n f) => rcheck_ok f n cap2 ad2 128 u h)
  rw [hE] at HR
  have HE := Lib.hid hE
  clear hE
  have g0 : decide (x < 0) = false := decide_eq_false (by omega)
  have g1 : decide (128 ≤ x) = false := decide_eq_false (by omega)
  have g2 : decide (t < 0) = true := decide_eq_true t0
  have e1 : lenE f n x t = 2 := if_pos (.inl t0)
  have e2 : lenV f n x t = 0 := by unfold lenV; rw [e1]; rfl
  have HLY := Lib.hid (fun u h he => Length_y f n cap ad x t u h he x0 x1)
  rw [e1, e2] at HLY
  clear e1 e2
  have B0 := Lib.hid (Bel.refl w)
  have T0 := Lib.hid (Lib.hid hT).out
  clear h hT
  go_enter Try.func7, Try.ntmps7
  go_wp2_with fail
  refine (HLY.out _ T0.out HE.out).mono ?_
  rintro e w1 ⟨rfl, hb⟩
  have B1 := Lib.hid (B0.out.up hb)
  have T1 := Lib.hid (T0.out.up hb)
  clear hb B0 T0 
  go_wp2_with fail
  refine (to_ok f n cap ad _ (by omega) T1.out).mono ?_
  rintro e w2 ⟨ad2, cap2, rfl, hb, hU⟩
  replace hU := Lib.hid hU
  have B2 := Lib.hid (B1.out.up hb)
  have T2 := Lib.hid (T1.out.up hb)
  clear hb B1 T1 
  go_wp2_with fail
  refine (known_ok _).mono ?_
  rintro e w3 ⟨rfl, hb⟩
  replace hU := Lib.hid (hU.out.up hb)
  have B3 := Lib.hid (B2.out.up hb)
  have T3 := Lib.hid (T2.out.up hb)
  clear hb B2 T2 
  go_wp2_with fail
  refine (HR.out ad2 cap2 _ hU.out).mono ?_
  rintro e w4 ⟨rfl, hb⟩
  have B4 := Lib.hid (B3.out.up hb)
  have T4 := Lib.hid (T3.out.up hb)
  clear hb B3 T3 
  go_wp2_with fail
  go_ret
  exact ⟨rfl, B4.out.out⟩
set_option maxRecDepth 100000 in
set_option maxHeartbeats 2000000 in
theorem single_th_a (f : Nat → Tp) (n cap : Nat) (ad : Option Addr) (x t : Int) (w : World) (hc : n ≤ cap) (h : TsAt w ad n f) (hle : n ≤ 20) (hE : chk f n 128 = 0) (x0 : 0 ≤ x) (x1 : x < 128) (t0 : 0 ≤ t) (t1 : 7741440 < t) :
    Calls Try.prog 7 #[.slice ad n cap, .int .i64 x, .int .i64 t] w fun e w' => e = .returned (.bool true) ∧ Below w.heap.size w w' := by
  have hA : (n : Int) ≤ 20 := by omega
  have hT := h
  have HR := Lib.hid (fun ad2 cap2 u (h : TsAt u ad2 n f) => rcheck_ok f n cap2 ad2 128 u h)
  rw [hE] at HR
  have HE := Lib.hid hE
  clear hE
  have g0 : decide (x < 0) = false := decide_eq_false (by omega)
  have g1 : decide (128 ≤ x) = false := decide_eq_false (by omega)
  have g2 : decide (t < 0) = false := decide_eq_false (by omega)
  have g3 : decide (7741440 < t) = true := decide_eq_true t1
  have e1 : lenE f n x t = 2 := if_pos (.inr t1)
  have e2 : lenV f n x t = 0 := by unfold lenV; rw [e1]; rfl
  have HLY := Lib.hid (fun u h he => Length_y f n cap ad x t u h he x0 x1)
  rw [e1, e2] at HLY
  clear e1 e2
  have B0 := Lib.hid (Bel.refl w)
  have T0 := Lib.hid (Lib.hid hT).out
  clear h hT
  go_enter Try.func7, Try.ntmps7
  go_wp2_with fail
  refine (HLY.out _ T0.out HE.out).mono ?_
  rintro e w1 ⟨rfl, hb⟩
  have B1 := Lib.hid (B0.out.up hb)
  have T1 := Lib.hid (T0.out.up hb)
  clear hb B0 T0 
  go_wp2_with fail
  refine (to_ok f n cap ad _ (by omega) T1.out).mono ?_
  rintro e w2 ⟨ad2, cap2, rfl, hb, hU⟩
  replace hU := Lib.hid hU
  have B2 := Lib.hid (B1.out.up hb)
  have T2 := Lib.hid (T1.out.up hb)
  clear hb B1 T1 
  go_wp2_with fail
  refine (known_ok _).mono ?_
  rintro e w3 ⟨rfl, hb⟩
  replace hU := Lib.hid (hU.out.up hb)
  have B3 := Lib.hid (B2.out.up hb)
  have T3 := Lib.hid (T2.out.up hb)
  clear hb B2 T2 
  go_wp2_with fail
  refine (HR.out ad2 cap2 _ hU.out).mono ?_
  rintro e w4 ⟨rfl, hb⟩
  have B4 := Lib.hid (B3.out.up hb)
  have T4 := Lib.hid (T3.out.up hb)
  clear hb B3 T3 
  go_wp2_with fail
  go_ret
  exact ⟨rfl, B4.out.out⟩
set_option maxRecDepth 100000 in
set_option maxHeartbeats 8000000 in
theorem single_ok_a (f : Nat → Tp) (n cap : Nat) (ad : Option Addr) (x t : Int) (w : World) (hc : n ≤ cap) (h : TsAt w ad n f) (hle : n ≤ 20) (hE : chk f n 128 = 0) (x0 : 0 ≤ x) (x1 : x < 128) (t0 : 0 ≤ t) (t1 : t ≤ 7741440) (he : lenE f n x t = 0) :
    Calls Try.prog 7 #[.slice ad n cap, .int .i64 x, .int .i64 t] w fun e w' => e = .returned (.bool true) ∧ Below w.heap.size w w' := by
  have hA : (n : Int) ≤ 20 := by omega
  have hT := h
  have HR := Lib.hid (fun ad2 cap2 u (h : TsAt u ad2 n f) => rcheck_ok f n cap2 ad2 128 u h)
  rw [hE] at HR
  have HE := Lib.hid hE
  have g0 : decide (x < 0) = false := decide_eq_false (by omega)
  have g1 : decide (128 ≤ x) = false := decide_eq_false (by omega)
  have g2 : decide (t < 0) = false := decide_eq_false (by omega)
  have g3 : decide (7741440 < t) = false := decide_eq_false (by omega)
  have HG := Lib.hid (Gd.chk hE)
  have HLY := Lib.hid (fun u h he => Length_y f n cap ad x t u h he x0 x1)
  have HSC := Lib.hid (fun ad2 c2 u h => scale0 f n c2 ad2 x t u (by omega) (Gd.chk hE) t0 t1 h)
  have HLO := Lib.hid (fun ad2 c2 u h => Length_y (subF f x n) (cnt f x n) c2 ad2 x t u h (sub_chk hE) x0 x1)
  rw [sub_lenE, sub_lenV, he] at HLO
  rw [he] at HLY
  have hsb : scB f x t n = true := by rw [sc_lenE (Gd.chk hE) t0 t1, he]; rfl
  rw [hsb] at HSC
  have hsv : scV f x t n = lenV f n x t := sc_lenV (Gd.chk hE) t0 he
  rw [hsv] at HSC
  have hbv := lenV_bd (Gd.chk hE) (x := x) (t := t)
  generalize lenV f n x t = X at *
  obtain ⟨i0, hinf, hz0, hz1, hz2⟩ := info_parts infoT
  clear hsb he
  clear hsv
  clear hE
  have B0 := Lib.hid (Bel.refl w)
  have T0 := Lib.hid (Lib.hid hT).out
  have HT := Lib.hid hT
  clear h hT
  go_enter Try.func7, Try.ntmps7
  go_wp2_with fail
  refine (HLY.out _ T0.out HE.out).mono ?_
  rintro e w1 ⟨rfl, hb⟩
  have B1 := Lib.hid (B0.out.up hb)
  have T1 := Lib.hid (T0.out.up hb)
  clear hb B0 T0 
  go_wp2_with fail
  refine (to_ok f n cap ad _ (by omega) T1.out).mono ?_
  rintro e w2 ⟨ad2, cap2, rfl, hb, hU⟩
  replace hU := Lib.hid hU
  have B2 := Lib.hid (B1.out.up hb)
  have T2 := Lib.hid (T1.out.up hb)
  clear hb B1 T1 
  go_wp2_with fail
  refine (known_ok _).mono ?_
  rintro e w3 ⟨rfl, hb⟩
  replace hU := Lib.hid (hU.out.up hb)
  have B3 := Lib.hid (B2.out.up hb)
  have T3 := Lib.hid (T2.out.up hb)
  clear hb B2 T2 
  go_wp2_with fail
  refine (HR.out ad2 cap2 _ hU.out).mono ?_
  rintro e w4 ⟨rfl, hb⟩
  replace hU := Lib.hid (hU.out.up hb)
  have B4 := Lib.hid (B3.out.up hb)
  have T4 := Lib.hid (T3.out.up hb)
  clear hb B3 T3 
  go_wp2_with fail
  refine (HSC.out ad2 cap2 _ hU.out).mono ?_
  rintro e w5 ⟨rfl, hb⟩
  replace hU := Lib.hid (hU.out.up hb)
  have B5 := Lib.hid (B4.out.up hb)
  have T5 := Lib.hid (T4.out.up hb)
  clear hb B4 T4 
  go_wp2_with fail
  have O5 := Lib.hid (show OwnT w5 w5.heap.size (.slice none 0 0) (cnt f x 0) (subF f x n) from World.ownsRow_nil _ _ _ _)
  obtain ⟨wb, hwb⟩ : ∃ wb, wb = w5.heap.size := ⟨_, rfl⟩
  rw [← hwb] at O5
  have hwb2 : w.heap.size ≤ wb := by rw [hwb]; exact B5.out.size
  have hwb3 : wb ≤ w5.heap.size := by omega
  have hUb := Lib.hid (fun k (hk : k < n) b off (e : ad2 = some ⟨b, off, none⟩) => show b < wb from by
    obtain ⟨b', o', e', q0, _⟩ := hU.out k hk
    rw [e] at e'; cases e'
    rw [hwb]; exact lt_of_cell q0)
  clear hwb T5 hA
  go_loopg [14, 13] n (fun gm i v wr => ∃ k : Nat, k ≤ n ∧ gm = n - k ∧ i = .int .i64 (k : Int) ∧ Hid (Bel w wr) ∧ wb ≤ wr.heap.size ∧ Hid (TsAt wr ad2 n f) ∧ Hid (OwnT wr wb v (cnt f x k) (subF f x n)))
  case atStart => exact ⟨0, by omega, by omega, rfl, B5, hwb3, hU, O5⟩
  case round =>
    clear B5 hwb3 hU O5
    obtain ⟨k, hk, rfl, rfl, B0, hws, U0, O0⟩ := hrel
    obtain ⟨W0, hW0, B0, hws, U0, O0⟩ : ∃ W0, W0 = _ ∧ Hid (Bel w W0) ∧ wb ≤ W0.heap.size ∧ Hid (TsAt W0 ad2 n f) ∧ Hid (OwnT W0 wb _ (cnt f x k) (subF f x n)) := ⟨_, rfl, B0, hws, U0, O0⟩
    subst hW0
    by_cases hlt : k < n
    · have hkd : decide ((k : Int) < (n : Int)) = true := decide_eq_true (by omega)
      obtain ⟨bu, ou, rfl, u0, u1, u2, u3⟩ := U0.out k hlt
      obtain ⟨bl, ol, rfl, c0, c1, c2, c3⟩ := HT.out.up B0.out.out k hlt
      have hs := Lib.hid (HG.out.sm k hlt)
      have hcb : cnt f x k ≤ 3 := Nat.le_trans (cnt_le (by omega)) (HG.out.ct x)
      by_cases hx : (f k).has x
      · have hxd : decide ((f k).has x) = true := decide_eq_true hx
        have H1 := Lib.hid (show cnt f x (k + 1) = cnt f x k + 1 from if_pos hx)
        have H2 := Lib.hid (show flatT (subF f x n) (cnt f x k + 1) = flatT (subF f x n) (cnt f x k) ++ tpC (f k) from by rw [flatT, subF_at hlt hx])
        clear hx
        generalize cnt f x k = ck at *
        generalize subF f x n = sf at *
        go_wp2_with fail
        refine (in_ok (f k) x _ hs.out).mono ?_
        rintro e w1 ⟨rfl, hb⟩
        rw [hxd]
        have B1 := Lib.hid (B0.out.up hb)
        have U1 := Lib.hid (U0.out.up hb)
        have O1 := Lib.hid (O0.out.up hb)
        have hws1 := Nat.le_trans hws hb.size
        replace c0 := cell_up hb c0
        replace c1 := cell_up hb c1
        replace c2 := cell_up hb c2
        replace c3 := cell_up hb c3
        clear hb B0 U0 O0 u0 u1 u2 u3 hws
        go_wp2_with (first | (at_builtin; refine wpList_append_own _ rfl _ _ 22 rfl wb 52 i0 (.agg #[.int .i64 0, .int .i64 0, .int .i64 0, .int .i64 0]) 4 32 Try.underlying22 hinf hz0 hz1 hz2 rfl (by decide) _ _ _ rfl (World.ownsRow.alloc O1.out _) ⟨w1.heap.size, 0, none⟩ 1 1 (tpC (f k)) rfl rfl (cell4_new _ _ _ _ _ _ _ rfl) (by simp [Value.oneCell', tpC]) (by unfold maxLen; omega) (by omega) (by simp; omega) ?_; intro v' w9 hown' hgrow _))
        have hrow := fun r hr => (World.ownsRow.lt O1.out r hr).1
        have hB := Lib.hid (Below.grown (B1.out.alloc _) hgrow (by have := B1.out.size; simp; omega) (fun r hr => Nat.le_trans hwb2 (hrow r hr)))
        have hU2 := Lib.hid ((U1.out.up ((Below.refl w1.heap.size w1).alloc (Nat.le_refl _) _)).grown hgrow (fun b o e e2 => by have := hrow b e2.symm; have := hUb.out k hlt b o e; omega))
        have hS : wb ≤ w9.heap.size := by have := hgrow.size; simp at this; omega
        have hO2 := Lib.hid (show OwnT w9 wb v' (ck + 1) sf by rw [show OwnT w9 wb v' (ck + 1) sf = w9.ownsRow wb 52 4 v' (ck + 1) (flatT sf (ck + 1)) from rfl, H2.out]; exact hown')
        go_roundg (n - (k + 1))
        case measure => omega
        case rel => exact ⟨k + 1, by omega, rfl, by go_num, hB, hS, hU2, by rw [H1.out]; exact hO2⟩
      · have hxd : decide ((f k).has x) = false := decide_eq_false hx
        have H1 := Lib.hid (show cnt f x (k + 1) = cnt f x k from if_neg hx)
        clear hx
        go_wp2_with fail
        refine (in_ok (f k) x _ hs.out).mono ?_
        rintro e w1 ⟨rfl, hb⟩
        rw [hxd]
        have B1 := Lib.hid (B0.out.up hb)
        have U1 := Lib.hid (U0.out.up hb)
        have O1 := Lib.hid (O0.out.up hb)
        have hws1 := Nat.le_trans hws hb.size
        clear hb B0 U0 O0 u0 u1 u2 u3 hws c0 c1 c2 c3
        go_wp2_with fail
        go_roundg (n - (k + 1))
        case measure => omega
        case rel => exact ⟨k + 1, by omega, rfl, by go_num, B1, hws1, U1, by rw [H1.out]; exact O1⟩
    · have hkd : decide ((k : Int) < (n : Int)) = false := decide_eq_false (by omega)
      have hkK : k = n := by omega
      rw [hkK] at O0
      obtain ⟨a9, c9, rfl, hN, _⟩ := TsAt.own O0.out
      have N0 := Lib.hid hN
      clear hN O0 U0
      go_wp2_with fail
      refine (HLO.out a9 c9 _ N0.out).mono ?_
      rintro e w5 ⟨rfl, hb⟩
      have B5 := Lib.hid (B0.out.up hb)
      clear hb
      go_wp2_with fail
      go_ret
      exact ⟨rfl, B5.out.out⟩
set_option maxRecDepth 100000 in
set_option maxHeartbeats 8000000 in
theorem single_no_a (f : Nat → Tp) (n cap : Nat) (ad : Option Addr) (x t : Int) (w : World) (hc : n ≤ cap) (h : TsAt w ad n f) (hle : n ≤ 20) (hE : chk f n 128 = 0) (x0 : 0 ≤ x) (x1 : x < 128) (t0 : 0 ≤ t) (t1 : t ≤ 7741440) (he : lenE f n x t = 16) :
    Calls Try.prog 7 #[.slice ad n cap, .int .i64 x, .int .i64 t] w fun e w' => e = .returned (.bool true) ∧ Below w.heap.size w w' := by
  have hA : (n : Int) ≤ 20 := by omega
  have hT := h
  have HR := Lib.hid (fun ad2 cap2 u (h : TsAt u ad2 n f) => rcheck_ok f n cap2 ad2 128 u h)
  rw [hE] at HR
  have HE := Lib.hid hE
  have g0 : decide (x < 0) = false := decide_eq_false (by omega)
  have g1 : decide (128 ≤ x) = false := decide_eq_false (by omega)
  have g2 : decide (t < 0) = false := decide_eq_false (by omega)
  have g3 : decide (7741440 < t) = false := decide_eq_false (by omega)
  have HG := Lib.hid (Gd.chk hE)
  have HLY := Lib.hid (fun u h he => Length_y f n cap ad x t u h he x0 x1)
  have HSC := Lib.hid (fun ad2 c2 u h => scale0 f n c2 ad2 x t u (by omega) (Gd.chk hE) t0 t1 h)
  have HLO := Lib.hid (fun ad2 c2 u h => Length_y (subF f x n) (cnt f x n) c2 ad2 x t u h (sub_chk hE) x0 x1)
  rw [sub_lenE, sub_lenV, he] at HLO
  rw [he] at HLY
  have hsb : scB f x t n = false := by rw [sc_lenE (Gd.chk hE) t0 t1, he]; rfl
  rw [hsb] at HSC
  have e2 : lenV f n x t = 0 := by unfold lenV; rw [he]; rfl
  rw [e2] at HLO HLY
  generalize scV f x t n = X at *
  obtain ⟨i0, hinf, hz0, hz1, hz2⟩ := info_parts infoT
  clear hsb he
  clear e2
  clear hE
  have B0 := Lib.hid (Bel.refl w)
  have T0 := Lib.hid (Lib.hid hT).out
  have HT := Lib.hid hT
  clear h hT
  go_enter Try.func7, Try.ntmps7
  go_wp2_with fail
  refine (HLY.out _ T0.out HE.out).mono ?_
  rintro e w1 ⟨rfl, hb⟩
  have B1 := Lib.hid (B0.out.up hb)
  have T1 := Lib.hid (T0.out.up hb)
  clear hb B0 T0 
  go_wp2_with fail
  refine (to_ok f n cap ad _ (by omega) T1.out).mono ?_
  rintro e w2 ⟨ad2, cap2, rfl, hb, hU⟩
  replace hU := Lib.hid hU
  have B2 := Lib.hid (B1.out.up hb)
  have T2 := Lib.hid (T1.out.up hb)
  clear hb B1 T1 
  go_wp2_with fail
  refine (known_ok _).mono ?_
  rintro e w3 ⟨rfl, hb⟩
  replace hU := Lib.hid (hU.out.up hb)
  have B3 := Lib.hid (B2.out.up hb)
  have T3 := Lib.hid (T2.out.up hb)
  clear hb B2 T2 
  go_wp2_with fail
  refine (HR.out ad2 cap2 _ hU.out).mono ?_
  rintro e w4 ⟨rfl, hb⟩
  replace hU := Lib.hid (hU.out.up hb)
  have B4 := Lib.hid (B3.out.up hb)
  have T4 := Lib.hid (T3.out.up hb)
  clear hb B3 T3 
  go_wp2_with fail
  refine (HSC.out ad2 cap2 _ hU.out).mono ?_
  rintro e w5 ⟨rfl, hb⟩
  replace hU := Lib.hid (hU.out.up hb)
  have B5 := Lib.hid (B4.out.up hb)
  have T5 := Lib.hid (T4.out.up hb)
  clear hb B4 T4 
  go_wp2_with fail
  have O5 := Lib.hid (show OwnT w5 w5.heap.size (.slice none 0 0) (cnt f x 0) (subF f x n) from World.ownsRow_nil _ _ _ _)
  obtain ⟨wb, hwb⟩ : ∃ wb, wb = w5.heap.size := ⟨_, rfl⟩
  rw [← hwb] at O5
  have hwb2 : w.heap.size ≤ wb := by rw [hwb]; exact B5.out.size
  have hwb3 : wb ≤ w5.heap.size := by omega
  have hUb := Lib.hid (fun k (hk : k < n) b off (e : ad2 = some ⟨b, off, none⟩) => show b < wb from by
    obtain ⟨b', o', e', q0, _⟩ := hU.out k hk
    rw [e] at e'; cases e'
    rw [hwb]; exact lt_of_cell q0)
  clear hwb T5 hA
  go_loopg [14, 13] n (fun gm i v wr => ∃ k : Nat, k ≤ n ∧ gm = n - k ∧ i = .int .i64 (k : Int) ∧ Hid (Bel w wr) ∧ wb ≤ wr.heap.size ∧ Hid (TsAt wr ad2 n f) ∧ Hid (OwnT wr wb v (cnt f x k) (subF f x n)))
  case atStart => exact ⟨0, by omega, by omega, rfl, B5, hwb3, hU, O5⟩
  case round =>
    clear B5 hwb3 hU O5
    obtain ⟨k, hk, rfl, rfl, B0, hws, U0, O0⟩ := hrel
    obtain ⟨W0, hW0, B0, hws, U0, O0⟩ : ∃ W0, W0 = _ ∧ Hid (Bel w W0) ∧ wb ≤ W0.heap.size ∧ Hid (TsAt W0 ad2 n f) ∧ Hid (OwnT W0 wb _ (cnt f x k) (subF f x n)) := ⟨_, rfl, B0, hws, U0, O0⟩
    subst hW0
    by_cases hlt : k < n
    · have hkd : decide ((k : Int) < (n : Int)) = true := decide_eq_true (by omega)
      obtain ⟨bu, ou, rfl, u0, u1, u2, u3⟩ := U0.out k hlt
      obtain ⟨bl, ol, rfl, c0, c1, c2, c3⟩ := HT.out.up B0.out.out k hlt
      have hs := Lib.hid (HG.out.sm k hlt)
      have hcb : cnt f x k ≤ 3 := Nat.le_trans (cnt_le (by omega)) (HG.out.ct x)
      by_cases hx : (f k).has x
      · have hxd : decide ((f k).has x) = true := decide_eq_true hx
        have H1 := Lib.hid (show cnt f x (k + 1) = cnt f x k + 1 from if_pos hx)
        have H2 := Lib.hid (show flatT (subF f x n) (cnt f x k + 1) = flatT (subF f x n) (cnt f x k) ++ tpC (f k) from by rw [flatT, subF_at hlt hx])
        clear hx
        generalize cnt f x k = ck at *
        generalize subF f x n = sf at *
        go_wp2_with fail
        refine (in_ok (f k) x _ hs.out).mono ?_
        rintro e w1 ⟨rfl, hb⟩
        rw [hxd]
        have B1 := Lib.hid (B0.out.up hb)
        have U1 := Lib.hid (U0.out.up hb)
        have O1 := Lib.hid (O0.out.up hb)
        have hws1 := Nat.le_trans hws hb.size
        replace c0 := cell_up hb c0
        replace c1 := cell_up hb c1
        replace c2 := cell_up hb c2
        replace c3 := cell_up hb c3
        clear hb B0 U0 O0 u0 u1 u2 u3 hws
        go_wp2_with (first | (at_builtin; refine wpList_append_own _ rfl _ _ 22 rfl wb 52 i0 (.agg #[.int .i64 0, .int .i64 0, .int .i64 0, .int .i64 0]) 4 32 Try.underlying22 hinf hz0 hz1 hz2 rfl (by decide) _ _ _ rfl (World.ownsRow.alloc O1.out _) ⟨w1.heap.size, 0, none⟩ 1 1 (tpC (f k)) rfl rfl (cell4_new _ _ _ _ _ _ _ rfl) (by simp [Value.oneCell', tpC]) (by unfold maxLen; omega) (by omega) (by simp; omega) ?_; intro v' w9 hown' hgrow _))
        have hrow := fun r hr => (World.ownsRow.lt O1.out r hr).1
        have hB := Lib.hid (Below.grown (B1.out.alloc _) hgrow (by have := B1.out.size; simp; omega) (fun r hr => Nat.le_trans hwb2 (hrow r hr)))
        have hU2 := Lib.hid ((U1.out.up ((Below.refl w1.heap.size w1).alloc (Nat.le_refl _) _)).grown hgrow (fun b o e e2 => by have := hrow b e2.symm; have := hUb.out k hlt b o e; omega))
        have hS : wb ≤ w9.heap.size := by have := hgrow.size; simp at this; omega
        have hO2 := Lib.hid (show OwnT w9 wb v' (ck + 1) sf by rw [show OwnT w9 wb v' (ck + 1) sf = w9.ownsRow wb 52 4 v' (ck + 1) (flatT sf (ck + 1)) from rfl, H2.out]; exact hown')
        go_roundg (n - (k + 1))
        case measure => omega
        case rel => exact ⟨k + 1, by omega, rfl, by go_num, hB, hS, hU2, by rw [H1.out]; exact hO2⟩
      · have hxd : decide ((f k).has x) = false := decide_eq_false hx
        have H1 := Lib.hid (show cnt f x (k + 1) = cnt f x k from if_neg hx)
        clear hx
        go_wp2_with fail
        refine (in_ok (f k) x _ hs.out).mono ?_
        rintro e w1 ⟨rfl, hb⟩
        rw [hxd]
        have B1 := Lib.hid (B0.out.up hb)
        have U1 := Lib.hid (U0.out.up hb)
        have O1 := Lib.hid (O0.out.up hb)
        have hws1 := Nat.le_trans hws hb.size
        clear hb B0 U0 O0 u0 u1 u2 u3 hws c0 c1 c2 c3
        go_wp2_with fail
        go_roundg (n - (k + 1))
        case measure => omega
        case rel => exact ⟨k + 1, by omega, rfl, by go_num, B1, hws1, U1, by rw [H1.out]; exact O1⟩
    · have hkd : decide ((k : Int) < (n : Int)) = false := decide_eq_false (by omega)
      have hkK : k = n := by omega
      rw [hkK] at O0
      obtain ⟨a9, c9, rfl, hN, _⟩ := TsAt.own O0.out
      have N0 := Lib.hid hN
      clear hN O0 U0
      go_wp2_with fail
      refine (HLO.out a9 c9 _ N0.out).mono ?_
      rintro e w5 ⟨rfl, hb⟩
      have B5 := Lib.hid (B0.out.up hb)
      clear hb
      go_wp2_with fail
      go_ret
      exact ⟨rfl, B5.out.out⟩
set_option maxRecDepth 100000 in
set_option maxHeartbeats 2000000 in
theorem single_n_b (f : Nat → Tp) (n cap : Nat) (ad : Option Addr) (x t : Int) (w : World) (hc : n ≤ cap) (h : TsAt w ad n f) (hle : 20 < n) (E : Int) (hE : chk f 20 128 = E) (h0 : E ≠ 0) :
    Calls Try.prog 7 #[.slice ad n cap, .int .i64 x, .int .i64 t] w fun e w' => e = .returned (.bool true) ∧ Below w.heap.size w w' := by
  have hA : ¬ (n : Int) ≤ 20 := by omega
  have hc2 : 20 ≤ cap := by omega
  have hT := h.le (show 20 ≤ n by omega)
  have HR := Lib.hid (fun ad2 cap2 u (h : TsAt u ad2 20 f) => rcheck_ok f 20 cap2 ad2 128 u h)
  have hbd := chk_bd f 20 128
  rw [hE] at HR hbd
  have he1 : (E != 0) = true := by simpa using h0
  have he2 : (E == 0) = false := by simpa using h0
  have HN := Lib.hid h0
  have HE := Lib.hid hE
  clear hE h0
  have B0 := Lib.hid (Bel.refl w)
  have T0 := Lib.hid (Lib.hid hT).out
  clear h hT
  go_enter Try.func7, Try.ntmps7
  go_wp2_with fail
  refine (Length_n f 20 cap ad x t E _ T0.out HE.out HN.out).mono ?_
  rintro e w1 ⟨rfl, hb⟩
  have B1 := Lib.hid (B0.out.up hb)
  have T1 := Lib.hid (T0.out.up hb)
  clear hb B0 T0 
  go_wp2_with fail
  refine (to_ok f 20 cap ad _ (by omega) T1.out).mono ?_
  rintro e w2 ⟨ad2, cap2, rfl, hb, hU⟩
  replace hU := Lib.hid hU
  have B2 := Lib.hid (B1.out.up hb)
  have T2 := Lib.hid (T1.out.up hb)
  clear hb B1 T1 
  go_wp2_with fail
  refine (known_ok _).mono ?_
  rintro e w3 ⟨rfl, hb⟩
  replace hU := Lib.hid (hU.out.up hb)
  have B3 := Lib.hid (B2.out.up hb)
  have T3 := Lib.hid (T2.out.up hb)
  clear hb B2 T2 
  go_wp2_with fail
  refine (HR.out ad2 cap2 _ hU.out).mono ?_
  rintro e w4 ⟨rfl, hb⟩
  have B4 := Lib.hid (B3.out.up hb)
  have T4 := Lib.hid (T3.out.up hb)
  clear hb B3 T3 
  go_wp2_with fail
  go_ret
  exact ⟨rfl, B4.out.out⟩
set_option maxRecDepth 100000 in
set_option maxHeartbeats 2000000 in
theorem single_lo_b (f : Nat → Tp) (n cap : Nat) (ad : Option Addr) (x t : Int) (w : World) (hc : n ≤ cap) (h : TsAt w ad n f) (hle : 20 < n) (hE : chk f 20 128 = 0) (x0 : x < 0) :
    Calls Try.prog 7 #[.slice ad n cap, .int .i64 x, .int .i64 t] w fun e w' => e = .returned (.bool true) ∧ Below w.heap.size w w' := by
  have hA : ¬ (n : Int) ≤ 20 := by omega
  have hc2 : 20 ≤ cap := by omega
  have hT := h.le (show 20 ≤ n by omega)
  have HR := Lib.hid (fun ad2 cap2 u (h : TsAt u ad2 20 f) => rcheck_ok f 20 cap2 ad2 128 u h)
  rw [hE] at HR
  have HE := Lib.hid hE
  clear hE
  have g0 : decide (x < 0) = true := decide_eq_true x0
  have B0 := Lib.hid (Bel.refl w)
  have T0 := Lib.hid (Lib.hid hT).out
  clear h hT
  go_enter Try.func7, Try.ntmps7
  go_wp2_with fail
  refine (Length_lo f 20 cap ad x t _ T0.out HE.out x0).mono ?_
  rintro e w1 ⟨rfl, hb⟩
  have B1 := Lib.hid (B0.out.up hb)
  have T1 := Lib.hid (T0.out.up hb)
  clear hb B0 T0 
  go_wp2_with fail
  refine (to_ok f 20 cap ad _ (by omega) T1.out).mono ?_
  rintro e w2 ⟨ad2, cap2, rfl, hb, hU⟩
  replace hU := Lib.hid hU
  have B2 := Lib.hid (B1.out.up hb)
  have T2 := Lib.hid (T1.out.up hb)
  clear hb B1 T1 
  go_wp2_with fail
  refine (known_ok _).mono ?_
  rintro e w3 ⟨rfl, hb⟩
  replace hU := Lib.hid (hU.out.up hb)
  have B3 := Lib.hid (B2.out.up hb)
  have T3 := Lib.hid (T2.out.up hb)
  clear hb B2 T2 
  go_wp2_with fail
  refine (HR.out ad2 cap2 _ hU.out).mono ?_
  rintro e w4 ⟨rfl, hb⟩
  have B4 := Lib.hid (B3.out.up hb)
  have T4 := Lib.hid (T3.out.up hb)
  clear hb B3 T3 
  go_wp2_with fail
  go_ret
  exact ⟨rfl, B4.out.out⟩
set_option maxRecDepth 100000 in
set_option maxHeartbeats 2000000 in
theorem single_hi_b (f : Nat → Tp) (n cap : Nat) (ad : Option Addr) (x t : Int) (w : World) (hc : n ≤ cap) (h : TsAt w ad n f) (hle : 20 < n) (hE : chk f 20 128 = 0) (x0 : 0 ≤ x) (x1 : 128 ≤ x) :
    Calls Try.prog 7 #[.slice ad n cap, .int .i64 x, .int .i64 t] w fun e w' => e = .returned (.bool true) ∧ Below w.heap.size w w' := by
  have hA : ¬ (n : Int) ≤ 20 := by omega
  have hc2 : 20 ≤ cap := by omega
  have hT := h.le (show 20 ≤ n by omega)
  have HR := Lib.hid (fun ad2 cap2 u (h : TsAt u ad2 20 f) => rcheck_ok f 20 cap2 ad2 128 u h)
  rw [hE] at HR
  have HE := Lib.hid hE
  clear hE
  have g0 : decide (x < 0) = false := decide_eq_false (by omega)
  have g1 : decide (128 ≤ x) = true := decide_eq_true x1
  have B0 := Lib.hid (Bel.refl w)
  have T0 := Lib.hid (Lib.hid hT).out
  clear h hT
  go_enter Try.func7, Try.ntmps7
  go_wp2_with fail
  refine (Length_hi f 20 cap ad x t _ T0.out HE.out x0 x1).mono ?_
  rintro e w1 ⟨rfl, hb⟩
  have B1 := Lib.hid (B0.out.up hb)
  have T1 := Lib.hid (T0.out.up hb)
  clear hb B0 T0 
  go_wp2_with fail
  refine (to_ok f 20 cap ad _ (by omega) T1.out).mono ?_
  rintro e w2 ⟨ad2, cap2, rfl, hb, hU⟩
  replace hU := Lib.hid hU
  have B2 := Lib.hid (B1.out.up hb)
  have T2 := Lib.hid (T1.out.up hb)
  clear hb B1 T1 
  go_wp2_with fail
  refine (known_ok _).mono ?_
  rintro e w3 ⟨rfl, hb⟩
  replace hU := Lib.hid (hU.out.up hb)
  have B3 := Lib.hid (B2.out.up hb)
  have T3 := Lib.hid (T2.out.up hb)
  clear hb B2 T2 
  go_wp2_with fail
  refine (HR.out ad2 cap2 _ hU.out).mono ?_
  rintro e w4 ⟨rfl, hb⟩
  have B4 := Lib.hid (B3.out.up hb)
  have T4 := Lib.hid (T3.out.up hb)
  clear hb B3 T3 
  go_wp2_with fail
  go_ret
  exact ⟨rfl, B4.out.out⟩
set_option maxRecDepth 100000 in
set_option maxHeartbeats 2000000 in
theorem single_tl_b (f : Nat → Tp) (n cap : Nat) (ad : Option Addr) (x t : Int) (w : World) (hc : n ≤ cap) (h : TsAt w ad n f) (hle : 20 < n) (hE : chk f 20 128 = 0) (x0 : 0 ≤ x) (x1 : x < 128) (t0 : t < 0) :
    Calls Try.prog 7 #[.slice ad n cap, .int .i64 x, .int .i64 t] w fun e w' => e = .returned (.bool true) ∧ Below w.heap.size w w' := by
  have hA : ¬ (n : Int) ≤ 20 := by omega
  have hc2 : 20 ≤ cap := by omega
  have hT := h.le (show 20 ≤ n by omega)
  have HR := Lib.hid (fun ad2 cap2 u (h : TsAt u ad2 20 f) => rcheck_ok f 20 cap2 ad2 128 u h)
  rw [hE] at HR
  have HE := Lib.hid hE
  clear hE
  have g0 : decide (x < 0) = false := decide_eq_false (by omega)
  have g1 : decide (128 ≤ x) = false := decide_eq_false (by omega)
  have g2 : decide (t < 0) = true := decide_eq_true t0
  have e1 : lenE f 20 x t = 2 := if_pos (.inl t0)
  have e2 : lenV f 20 x t = 0 := by unfold lenV; rw [e1]; rfl
  have HLY := Lib.hid (fun u h he => Length_y f 20 cap ad x t u h he x0 x1)
  rw [e1, e2] at HLY
  clear e1 e2
  have B0 := Lib.hid (Bel.refl w)
  have T0 := Lib.hid (Lib.hid hT).out
  clear h hT
  go_enter Try.func7, Try.ntmps7
  go_wp2_with fail
  refine (HLY.out _ T0.out HE.out).mono ?_
  rintro e w1 ⟨rfl, hb⟩
  have B1 := Lib.hid (B0.out.up hb)
  have T1 := Lib.hid (T0.out.up hb)
  clear hb B0 T0 
  go_wp2_with fail
  refine (to_ok f 20 cap ad _ (by omega) T1.out).mono ?_
  rintro e w2 ⟨ad2, cap2, rfl, hb, hU⟩
  replace hU := Lib.hid hU
  have B2 := Lib.hid (B1.out.up hb)
  have T2 := Lib.hid (T1.out.up hb)
  clear hb B1 T1 
  go_wp2_with fail
  refine (known_ok _).mono ?_
  rintro e w3 ⟨rfl, hb⟩
  replace hU := Lib.hid (hU.out.up hb)
  have B3 := Lib.hid (B2.out.up hb)
  have T3 := Lib.hid (T2.out.up hb)
  clear hb B2 T2 
  go_wp2_with fail
  refine (HR.out ad2 cap2 _ hU.out).mono ?_
  rintro e w4 ⟨rfl, hb⟩
  have B4 := Lib.hid (B3.out.up hb)
  have T4 := Lib.hid (T3.out.up hb)
  clear hb B3 T3 
  go_wp2_with fail
  go_ret
  exact ⟨rfl, B4.out.out⟩
set_option maxRecDepth 100000 in
set_option maxHeartbeats 2000000 in
theorem single_th_b (f : Nat → Tp) (n cap : Nat) (ad : Option Addr) (x t : Int) (w : World) (hc : n ≤ cap) (h : TsAt w ad n f) (hle : 20 < n) (hE : chk f 20 128 = 0) (x0 : 0 ≤ x) (x1 : x < 128) (t0 : 0 ≤ t) (t1 : 7741440 < t) :
    Calls Try.prog 7 #[.slice ad n cap, .int .i64 x, .int .i64 t] w fun e w' => e = .returned (.bool true) ∧ Below w.heap.size w w' := by
  have hA : ¬ (n : Int) ≤ 20 := by omega
  have hc2 : 20 ≤ cap := by omega
  have hT := h.le (show 20 ≤ n by omega)
  have HR := Lib.hid (fun ad2 cap2 u (h : TsAt u ad2 20 f) => rcheck_ok f 20 cap2 ad2 128 u h)
  rw [hE] at HR
  have HE := Lib.hid hE
  clear hE
  have g0 : decide (x < 0) = false := decide_eq_false (by omega)
  have g1 : decide (128 ≤ x) = false := decide_eq_false (by omega)
  have g2 : decide (t < 0) = false := decide_eq_false (by omega)
  have g3 : decide (7741440 < t) = true := decide_eq_true t1
  have e1 : lenE f 20 x t = 2 := if_pos (.inr t1)
  have e2 : lenV f 20 x t = 0 := by unfold lenV; rw [e1]; rfl
  have HLY := Lib.hid (fun u h he => Length_y f 20 cap ad x t u h he x0 x1)
  rw [e1, e2] at HLY
  clear e1 e2
  have B0 := Lib.hid (Bel.refl w)
  have T0 := Lib.hid (Lib.hid hT).out
  clear h hT
  go_enter Try.func7, Try.ntmps7
  go_wp2_with fail
  refine (HLY.out _ T0.out HE.out).mono ?_
  rintro e w1 ⟨rfl, hb⟩
  have B1 := Lib.hid (B0.out.up hb)
  have T1 := Lib.hid (T0.out.up hb)
  clear hb B0 T0 
  go_wp2_with fail
  refine (to_ok f 20 cap ad _ (by omega) T1.out).mono ?_
  rintro e w2 ⟨ad2, cap2, rfl, hb, hU⟩
  replace hU := Lib.hid hU
  have B2 := Lib.hid (B1.out.up hb)
  have T2 := Lib.hid (T1.out.up hb)
  clear hb B1 T1 
  go_wp2_with fail
  refine (known_ok _).mono ?_
  rintro e w3 ⟨rfl, hb⟩
  replace hU := Lib.hid (hU.out.up hb)
  have B3 := Lib.hid (B2.out.up hb)
  have T3 := Lib.hid (T2.out.up hb)
  clear hb B2 T2 
  go_wp2_with fail
  refine (HR.out ad2 cap2 _ hU.out).mono ?_
  rintro e w4 ⟨rfl, hb⟩
  have B4 := Lib.hid (B3.out.up hb)
  have T4 := Lib.hid (T3.out.up hb)
  clear hb B3 T3 
  go_wp2_with fail
  go_ret
  exact ⟨rfl, B4.out.out⟩
set_option maxRecDepth 100000 in
set_option maxHeartbeats 8000000 in
theorem single_ok_b (f : Nat → Tp) (n cap : Nat) (ad : Option Addr) (x t : Int) (w : World) (hc : n ≤ cap) (h : TsAt w ad n f) (hle : 20 < n) (hE : chk f 20 128 = 0) (x0 : 0 ≤ x) (x1 : x < 128) (t0 : 0 ≤ t) (t1 : t ≤ 7741440) (he : lenE f 20 x t = 0) :
    Calls Try.prog 7 #[.slice ad n cap, .int .i64 x, .int .i64 t] w fun e w' => e = .returned (.bool true) ∧ Below w.heap.size w w' := by
  have hA : ¬ (n : Int) ≤ 20 := by omega
  have hc2 : 20 ≤ cap := by omega
  have hT := h.le (show 20 ≤ n by omega)
  have HR := Lib.hid (fun ad2 cap2 u (h : TsAt u ad2 20 f) => rcheck_ok f 20 cap2 ad2 128 u h)
  rw [hE] at HR
  have HE := Lib.hid hE
  have g0 : decide (x < 0) = false := decide_eq_false (by omega)
  have g1 : decide (128 ≤ x) = false := decide_eq_false (by omega)
  have g2 : decide (t < 0) = false := decide_eq_false (by omega)
  have g3 : decide (7741440 < t) = false := decide_eq_false (by omega)
  have HG := Lib.hid (Gd.chk hE)
  have HLY := Lib.hid (fun u h he => Length_y f 20 cap ad x t u h he x0 x1)
  have HSC := Lib.hid (fun ad2 c2 u h => scale0 f 20 c2 ad2 x t u (by omega) (Gd.chk hE) t0 t1 h)
  have HLO := Lib.hid (fun ad2 c2 u h => Length_y (subF f x 20) (cnt f x 20) c2 ad2 x t u h (sub_chk hE) x0 x1)
  rw [sub_lenE, sub_lenV, he] at HLO
  rw [he] at HLY
  have hsb : scB f x t 20 = true := by rw [sc_lenE (Gd.chk hE) t0 t1, he]; rfl
  rw [hsb] at HSC
  have hsv : scV f x t 20 = lenV f 20 x t := sc_lenV (Gd.chk hE) t0 he
  rw [hsv] at HSC
  have hbv := lenV_bd (Gd.chk hE) (x := x) (t := t)
  generalize lenV f 20 x t = X at *
  obtain ⟨i0, hinf, hz0, hz1, hz2⟩ := info_parts infoT
  clear hsb he
  clear hsv
  clear hE
  have B0 := Lib.hid (Bel.refl w)
  have T0 := Lib.hid (Lib.hid hT).out
  have HT := Lib.hid hT
  clear h hT
  go_enter Try.func7, Try.ntmps7
  go_wp2_with fail
  refine (HLY.out _ T0.out HE.out).mono ?_
  rintro e w1 ⟨rfl, hb⟩
  have B1 := Lib.hid (B0.out.up hb)
  have T1 := Lib.hid (T0.out.up hb)
  clear hb B0 T0 
  go_wp2_with fail
  refine (to_ok f 20 cap ad _ (by omega) T1.out).mono ?_
  rintro e w2 ⟨ad2, cap2, rfl, hb, hU⟩
  replace hU := Lib.hid hU
  have B2 := Lib.hid (B1.out.up hb)
  have T2 := Lib.hid (T1.out.up hb)
  clear hb B1 T1 
  go_wp2_with fail
  refine (known_ok _).mono ?_
  rintro e w3 ⟨rfl, hb⟩
  replace hU := Lib.hid (hU.out.up hb)
  have B3 := Lib.hid (B2.out.up hb)
  have T3 := Lib.hid (T2.out.up hb)
  clear hb B2 T2 
  go_wp2_with fail
  refine (HR.out ad2 cap2 _ hU.out).mono ?_
  rintro e w4 ⟨rfl, hb⟩
  replace hU := Lib.hid (hU.out.up hb)
  have B4 := Lib.hid (B3.out.up hb)
  have T4 := Lib.hid (T3.out.up hb)
  clear hb B3 T3 
  go_wp2_with fail
  refine (HSC.out ad2 cap2 _ hU.out).mono ?_
  rintro e w5 ⟨rfl, hb⟩
  replace hU := Lib.hid (hU.out.up hb)
  have B5 := Lib.hid (B4.out.up hb)
  have T5 := Lib.hid (T4.out.up hb)
  clear hb B4 T4 
  go_wp2_with fail
  have O5 := Lib.hid (show OwnT w5 w5.heap.size (.slice none 0 0) (cnt f x 0) (subF f x 20) from World.ownsRow_nil _ _ _ _)
  obtain ⟨wb, hwb⟩ : ∃ wb, wb = w5.heap.size := ⟨_, rfl⟩
  rw [← hwb] at O5
  have hwb2 : w.heap.size ≤ wb := by rw [hwb]; exact B5.out.size
  have hwb3 : wb ≤ w5.heap.size := by omega
  have hUb := Lib.hid (fun k (hk : k < 20) b off (e : ad2 = some ⟨b, off, none⟩) => show b < wb from by
    obtain ⟨b', o', e', q0, _⟩ := hU.out k hk
    rw [e] at e'; cases e'
    rw [hwb]; exact lt_of_cell q0)
  clear hwb T5 hA
  go_loopg [14, 13] 20 (fun gm i v wr => ∃ k : Nat, k ≤ 20 ∧ gm = 20 - k ∧ i = .int .i64 (k : Int) ∧ Hid (Bel w wr) ∧ wb ≤ wr.heap.size ∧ Hid (TsAt wr ad2 20 f) ∧ Hid (OwnT wr wb v (cnt f x k) (subF f x 20)))
  case atStart => exact ⟨0, by omega, by omega, rfl, B5, hwb3, hU, O5⟩
  case round =>
    clear B5 hwb3 hU O5
    obtain ⟨k, hk, rfl, rfl, B0, hws, U0, O0⟩ := hrel
    obtain ⟨W0, hW0, B0, hws, U0, O0⟩ : ∃ W0, W0 = _ ∧ Hid (Bel w W0) ∧ wb ≤ W0.heap.size ∧ Hid (TsAt W0 ad2 20 f) ∧ Hid (OwnT W0 wb _ (cnt f x k) (subF f x 20)) := ⟨_, rfl, B0, hws, U0, O0⟩
    subst hW0
    by_cases hlt : k < 20
    · have hkd : decide ((k : Int) < 20) = true := decide_eq_true (by omega)
      obtain ⟨bu, ou, rfl, u0, u1, u2, u3⟩ := U0.out k hlt
      obtain ⟨bl, ol, rfl, c0, c1, c2, c3⟩ := HT.out.up B0.out.out k hlt
      have hs := Lib.hid (HG.out.sm k hlt)
      have hcb : cnt f x k ≤ 3 := Nat.le_trans (cnt_le (by omega)) (HG.out.ct x)
      by_cases hx : (f k).has x
      · have hxd : decide ((f k).has x) = true := decide_eq_true hx
        have H1 := Lib.hid (show cnt f x (k + 1) = cnt f x k + 1 from if_pos hx)
        have H2 := Lib.hid (show flatT (subF f x 20) (cnt f x k + 1) = flatT (subF f x 20) (cnt f x k) ++ tpC (f k) from by rw [flatT, subF_at hlt hx])
        clear hx
        generalize cnt f x k = ck at *
        generalize subF f x 20 = sf at *
        go_wp2_with fail
        refine (in_ok (f k) x _ hs.out).mono ?_
        rintro e w1 ⟨rfl, hb⟩
        rw [hxd]
        have B1 := Lib.hid (B0.out.up hb)
        have U1 := Lib.hid (U0.out.up hb)
        have O1 := Lib.hid (O0.out.up hb)
        have hws1 := Nat.le_trans hws hb.size
        replace c0 := cell_up hb c0
        replace c1 := cell_up hb c1
        replace c2 := cell_up hb c2
        replace c3 := cell_up hb c3
        clear hb B0 U0 O0 u0 u1 u2 u3 hws
        go_wp2_with (first | (at_builtin; refine wpList_append_own _ rfl _ _ 22 rfl wb 52 i0 (.agg #[.int .i64 0, .int .i64 0, .int .i64 0, .int .i64 0]) 4 32 Try.underlying22 hinf hz0 hz1 hz2 rfl (by decide) _ _ _ rfl (World.ownsRow.alloc O1.out _) ⟨w1.heap.size, 0, none⟩ 1 1 (tpC (f k)) rfl rfl (cell4_new _ _ _ _ _ _ _ rfl) (by simp [Value.oneCell', tpC]) (by unfold maxLen; omega) (by omega) (by simp; omega) ?_; intro v' w9 hown' hgrow _))
        have hrow := fun r hr => (World.ownsRow.lt O1.out r hr).1
        have hB := Lib.hid (Below.grown (B1.out.alloc _) hgrow (by have := B1.out.size; simp; omega) (fun r hr => Nat.le_trans hwb2 (hrow r hr)))
        have hU2 := Lib.hid ((U1.out.up ((Below.refl w1.heap.size w1).alloc (Nat.le_refl _) _)).grown hgrow (fun b o e e2 => by have := hrow b e2.symm; have := hUb.out k hlt b o e; omega))
        have hS : wb ≤ w9.heap.size := by have := hgrow.size; simp at this; omega
        have hO2 := Lib.hid (show OwnT w9 wb v' (ck + 1) sf by rw [show OwnT w9 wb v' (ck + 1) sf = w9.ownsRow wb 52 4 v' (ck + 1) (flatT sf (ck + 1)) from rfl, H2.out]; exact hown')
        go_roundg (20 - (k + 1))
        case measure => omega
        case rel => exact ⟨k + 1, by omega, rfl, by go_num, hB, hS, hU2, by rw [H1.out]; exact hO2⟩
      · have hxd : decide ((f k).has x) = false := decide_eq_false hx
        have H1 := Lib.hid (show cnt f x (k + 1) = cnt f x k from if_neg hx)
        clear hx
        go_wp2_with fail
        refine (in_ok (f k) x _ hs.out).mono ?_
        rintro e w1 ⟨rfl, hb⟩
        rw [hxd]
        have B1 := Lib.hid (B0.out.up hb)
        have U1 := Lib.hid (U0.out.up hb)
        have O1 := Lib.hid (O0.out.up hb)
        have hws1 := Nat.le_trans hws hb.size
        clear hb B0 U0 O0 u0 u1 u2 u3 hws c0 c1 c2 c3
        go_wp2_with fail
        go_roundg (20 - (k + 1))
        case measure => omega
        case rel => exact ⟨k + 1, by omega, rfl, by go_num, B1, hws1, U1, by rw [H1.out]; exact O1⟩
    · have hkd : decide ((k : Int) < 20) = false := decide_eq_false (by omega)
      have hkK : k = 20 := by omega
      rw [hkK] at O0
      obtain ⟨a9, c9, rfl, hN, _⟩ := TsAt.own O0.out
      have N0 := Lib.hid hN
      clear hN O0 U0
      go_wp2_with fail
      refine (HLO.out a9 c9 _ N0.out).mono ?_
      rintro e w5 ⟨rfl, hb⟩
      have B5 := Lib.hid (B0.out.up hb)
      clear hb
      go_wp2_with fail
      go_ret
      exact ⟨rfl, B5.out.out⟩
set_option maxRecDepth 100000 in
set_option maxHeartbeats 8000000 in
theorem single_no_b (f : Nat → Tp) (n cap : Nat) (ad : Option Addr) (x t : Int) (w : World) (hc : n ≤ cap) (h : TsAt w ad n f) (hle : 20 < n) (hE : chk f 20 128 = 0) (x0 : 0 ≤ x) (x1 : x < 128) (t0 : 0 ≤ t) (t1 : t ≤ 7741440) (he : lenE f 20 x t = 16) :
    Calls Try.prog 7 #[.slice ad n cap, .int .i64 x, .int .i64 t] w fun e w' => e = .returned (.bool true) ∧ Below w.heap.size w w' := by
  have hA : ¬ (n : Int) ≤ 20 := by omega
  have hc2 : 20 ≤ cap := by omega
  have hT := h.le (show 20 ≤ n by omega)
  have HR := Lib.hid (fun ad2 cap2 u (h : TsAt u ad2 20 f) => rcheck_ok f 20 cap2 ad2 128 u h)
  rw [hE] at HR
  have HE := Lib.hid hE
  have g0 : decide (x < 0) = false := decide_eq_false (by omega)
  have g1 : decide (128 ≤ x) = false := decide_eq_false (by omega)
  have g2 : decide (t < 0) = false := decide_eq_false (by omega)
  have g3 : decide (7741440 < t) = false := decide_eq_false (by omega)
  have HG := Lib.hid (Gd.chk hE)
  have HLY := Lib.hid (fun u h he => Length_y f 20 cap ad x t u h he x0 x1)
  have HSC := Lib.hid (fun ad2 c2 u h => scale0 f 20 c2 ad2 x t u (by omega) (Gd.chk hE) t0 t1 h)
  have HLO := Lib.hid (fun ad2 c2 u h => Length_y (subF f x 20) (cnt f x 20) c2 ad2 x t u h (sub_chk hE) x0 x1)
  rw [sub_lenE, sub_lenV, he] at HLO
  rw [he] at HLY
  have hsb : scB f x t 20 = false := by rw [sc_lenE (Gd.chk hE) t0 t1, he]; rfl
  rw [hsb] at HSC
  have e2 : lenV f 20 x t = 0 := by unfold lenV; rw [he]; rfl
  rw [e2] at HLO HLY
  generalize scV f x t 20 = X at *
  obtain ⟨i0, hinf, hz0, hz1, hz2⟩ := info_parts infoT
  clear hsb he
  clear e2
  clear hE
  have B0 := Lib.hid (Bel.refl w)
  have T0 := Lib.hid (Lib.hid hT).out
  have HT := Lib.hid hT
  clear h hT
  go_enter Try.func7, Try.ntmps7
  go_wp2_with fail
  refine (HLY.out _ T0.out HE.out).mono ?_
  rintro e w1 ⟨rfl, hb⟩
  have B1 := Lib.hid (B0.out.up hb)
  have T1 := Lib.hid (T0.out.up hb)
  clear hb B0 T0 
  go_wp2_with fail
  refine (to_ok f 20 cap ad _ (by omega) T1.out).mono ?_
  rintro e w2 ⟨ad2, cap2, rfl, hb, hU⟩
  replace hU := Lib.hid hU
  have B2 := Lib.hid (B1.out.up hb)
  have T2 := Lib.hid (T1.out.up hb)
  clear hb B1 T1 
  go_wp2_with fail
  refine (known_ok _).mono ?_
  rintro e w3 ⟨rfl, hb⟩
  replace hU := Lib.hid (hU.out.up hb)
  have B3 := Lib.hid (B2.out.up hb)
  have T3 := Lib.hid (T2.out.up hb)
  clear hb B2 T2 
  go_wp2_with fail
  refine (HR.out ad2 cap2 _ hU.out).mono ?_
  rintro e w4 ⟨rfl, hb⟩
  replace hU := Lib.hid (hU.out.up hb)
  have B4 := Lib.hid (B3.out.up hb)
  have T4 := Lib.hid (T3.out.up hb)
  clear hb B3 T3 
  go_wp2_with fail
  refine (HSC.out ad2 cap2 _ hU.out).mono ?_
  rintro e w5 ⟨rfl, hb⟩
  replace hU := Lib.hid (hU.out.up hb)
  have B5 := Lib.hid (B4.out.up hb)
  have T5 := Lib.hid (T4.out.up hb)
  clear hb B4 T4 
  go_wp2_with fail
  have O5 := Lib.hid (show OwnT w5 w5.heap.size (.slice none 0 0) (cnt f x 0) (subF f x 20) from World.ownsRow_nil _ _ _ _)
  obtain ⟨wb, hwb⟩ : ∃ wb, wb = w5.heap.size := ⟨_, rfl⟩
  rw [← hwb] at O5
  have hwb2 : w.heap.size ≤ wb := by rw [hwb]; exact B5.out.size
  have hwb3 : wb ≤ w5.heap.size := by omega
  have hUb := Lib.hid (fun k (hk : k < 20) b off (e : ad2 = some ⟨b, off, none⟩) => show b < wb from by
    obtain ⟨b', o', e', q0, _⟩ := hU.out k hk
    rw [e] at e'; cases e'
    rw [hwb]; exact lt_of_cell q0)
  clear hwb T5 hA
  go_loopg [14, 13] 20 (fun gm i v wr => ∃ k : Nat, k ≤ 20 ∧ gm = 20 - k ∧ i = .int .i64 (k : Int) ∧ Hid (Bel w wr) ∧ wb ≤ wr.heap.size ∧ Hid (TsAt wr ad2 20 f) ∧ Hid (OwnT wr wb v (cnt f x k) (subF f x 20)))
  case atStart => exact ⟨0, by omega, by omega, rfl, B5, hwb3, hU, O5⟩
  case round =>
    clear B5 hwb3 hU O5
    obtain ⟨k, hk, rfl, rfl, B0, hws, U0, O0⟩ := hrel
    obtain ⟨W0, hW0, B0, hws, U0, O0⟩ : ∃ W0, W0 = _ ∧ Hid (Bel w W0) ∧ wb ≤ W0.heap.size ∧ Hid (TsAt W0 ad2 20 f) ∧ Hid (OwnT W0 wb _ (cnt f x k) (subF f x 20)) := ⟨_, rfl, B0, hws, U0, O0⟩
    subst hW0
    by_cases hlt : k < 20
    · have hkd : decide ((k : Int) < 20) = true := decide_eq_true (by omega)
      obtain ⟨bu, ou, rfl, u0, u1, u2, u3⟩ := U0.out k hlt
      obtain ⟨bl, ol, rfl, c0, c1, c2, c3⟩ := HT.out.up B0.out.out k hlt
      have hs := Lib.hid (HG.out.sm k hlt)
      have hcb : cnt f x k ≤ 3 := Nat.le_trans (cnt_le (by omega)) (HG.out.ct x)
      by_cases hx : (f k).has x
      · have hxd : decide ((f k).has x) = true := decide_eq_true hx
        have H1 := Lib.hid (show cnt f x (k + 1) = cnt f x k + 1 from if_pos hx)
        have H2 := Lib.hid (show flatT (subF f x 20) (cnt f x k + 1) = flatT (subF f x 20) (cnt f x k) ++ tpC (f k) from by rw [flatT, subF_at hlt hx])
        clear hx
        generalize cnt f x k = ck at *
        generalize subF f x 20 = sf at *
        go_wp2_with fail
        refine (in_ok (f k) x _ hs.out).mono ?_
        rintro e w1 ⟨rfl, hb⟩
        rw [hxd]
        have B1 := Lib.hid (B0.out.up hb)
        have U1 := Lib.hid (U0.out.up hb)
        have O1 := Lib.hid (O0.out.up hb)
        have hws1 := Nat.le_trans hws hb.size
        replace c0 := cell_up hb c0
        replace c1 := cell_up hb c1
        replace c2 := cell_up hb c2
        replace c3 := cell_up hb c3
        clear hb B0 U0 O0 u0 u1 u2 u3 hws
        go_wp2_with (first | (at_builtin; refine wpList_append_own _ rfl _ _ 22 rfl wb 52 i0 (.agg #[.int .i64 0, .int .i64 0, .int .i64 0, .int .i64 0]) 4 32 Try.underlying22 hinf hz0 hz1 hz2 rfl (by decide) _ _ _ rfl (World.ownsRow.alloc O1.out _) ⟨w1.heap.size, 0, none⟩ 1 1 (tpC (f k)) rfl rfl (cell4_new _ _ _ _ _ _ _ rfl) (by simp [Value.oneCell', tpC]) (by unfold maxLen; omega) (by omega) (by simp; omega) ?_; intro v' w9 hown' hgrow _))
        have hrow := fun r hr => (World.ownsRow.lt O1.out r hr).1
        have hB := Lib.hid (Below.grown (B1.out.alloc _) hgrow (by have := B1.out.size; simp; omega) (fun r hr => Nat.le_trans hwb2 (hrow r hr)))
        have hU2 := Lib.hid ((U1.out.up ((Below.refl w1.heap.size w1).alloc (Nat.le_refl _) _)).grown hgrow (fun b o e e2 => by have := hrow b e2.symm; have := hUb.out k hlt b o e; omega))
        have hS : wb ≤ w9.heap.size := by have := hgrow.size; simp at this; omega
        have hO2 := Lib.hid (show OwnT w9 wb v' (ck + 1) sf by rw [show OwnT w9 wb v' (ck + 1) sf = w9.ownsRow wb 52 4 v' (ck + 1) (flatT sf (ck + 1)) from rfl, H2.out]; exact hown')
        go_roundg (20 - (k + 1))
        case measure => omega
        case rel => exact ⟨k + 1, by omega, rfl, by go_num, hB, hS, hU2, by rw [H1.out]; exact hO2⟩
      · have hxd : decide ((f k).has x) = false := decide_eq_false hx
        have H1 := Lib.hid (show cnt f x (k + 1) = cnt f x k from if_neg hx)
        clear hx
        go_wp2_with fail
        refine (in_ok (f k) x _ hs.out).mono ?_
        rintro e w1 ⟨rfl, hb⟩
        rw [hxd]
        have B1 := Lib.hid (B0.out.up hb)
        have U1 := Lib.hid (U0.out.up hb)
        have O1 := Lib.hid (O0.out.up hb)
        have hws1 := Nat.le_trans hws hb.size
        clear hb B0 U0 O0 u0 u1 u2 u3 hws c0 c1 c2 c3
        go_wp2_with fail
        go_roundg (20 - (k + 1))
        case measure => omega
        case rel => exact ⟨k + 1, by omega, rfl, by go_num, B1, hws1, U1, by rw [H1.out]; exact O1⟩
    · have hkd : decide ((k : Int) < 20) = false := decide_eq_false (by omega)
      have hkK : k = 20 := by omega
      rw [hkK] at O0
      obtain ⟨a9, c9, rfl, hN, _⟩ := TsAt.own O0.out
      have N0 := Lib.hid hN
      clear hN O0 U0
      go_wp2_with fail
      refine (HLO.out a9 c9 _ N0.out).mono ?_
      rintro e w5 ⟨rfl, hb⟩
      have B5 := Lib.hid (B0.out.up hb)
      clear hb
      go_wp2_with fail
      go_ret
      exact ⟨rfl, B5.out.out⟩
theorem law_TupletSingle (f : Nat → Tp) (n cap : Nat) (ad : Option Addr) (x t : Int) (w : World) (hc : n ≤ cap) (h : TsAt w ad n f) (hb1 : -9223372036854775808 ≤ x ∧ x ≤ 9223372036854775807) (hb2 : -9223372036854775808 ≤ t ∧ t ≤ 9223372036854775807) : Calls Try.prog 7 #[.slice ad n cap, .int .i64 x, .int .i64 t] w fun e w' => e = .returned (.bool true) ∧ Below w.heap.size w w' := by
  by_cases hle : n ≤ 20
  · by_cases hE : chk f n 128 = 0
    · by_cases x0 : x < 0
      · exact single_lo_a f n cap ad x t w hc h hle hE x0
      · by_cases x1 : 128 ≤ x
        · exact single_hi_a f n cap ad x t w hc h hle hE (by omega) x1
        · by_cases t0 : t < 0
          · exact single_tl_a f n cap ad x t w hc h hle hE (by omega) (by omega) t0
          · by_cases t1 : 7741440 < t
            · exact single_th_a f n cap ad x t w hc h hle hE (by omega) (by omega) (by omega) t1
            · rcases lenE_bd f n x t with he | he | he
              · exact single_ok_a f n cap ad x t w hc h hle hE (by omega) (by omega) (by omega) (by omega) he
              · unfold lenE at he; rw [if_neg (by omega)] at he; split at he <;> cases he
              · exact single_no_a f n cap ad x t w hc h hle hE (by omega) (by omega) (by omega) (by omega) he
    · exact single_n_a f n cap ad x t w hc h hle _ rfl hE
  · by_cases hE : chk f 20 128 = 0
    · by_cases x0 : x < 0
      · exact single_lo_b f n cap ad x t w hc h (by omega) hE x0
      · by_cases x1 : 128 ≤ x
        · exact single_hi_b f n cap ad x t w hc h (by omega) hE (by omega) x1
        · by_cases t0 : t < 0
          · exact single_tl_b f n cap ad x t w hc h (by omega) hE (by omega) (by omega) t0
          · by_cases t1 : 7741440 < t
            · exact single_th_b f n cap ad x t w hc h (by omega) hE (by omega) (by omega) (by omega) t1
            · rcases lenE_bd f 20 x t with he | he | he
              · exact single_ok_b f n cap ad x t w hc h (by omega) hE (by omega) (by omega) (by omega) (by omega) he
              · unfold lenE at he; rw [if_neg (by omega)] at he; split at he <;> cases he
              · exact single_no_b f n cap ad x t w hc h (by omega) hE (by omega) (by omega) (by omega) (by omega) he
    · exact single_n_b f n cap ad x t w hc h (by omega) _ rfl hE
end Go.Proofs.Ytidggmfgbcmklaa
