/- The law KeyDiatonic. -/
import Derived.Test.YtihndkplknoabaaDoorKe
import Derived.Test.YtihndkplknoabaaDoorKr
namespace Go.Proofs.YtihndkplknoabaaDoor
open Go.RowKit
set_option linter.unusedVariables false
set_option linter.unusedSimpArgs false

theorem scale_yes (f T o : Int) (w : World) (h : Sg f) (hT : shI ((f + 1) % 7) = T) (ho : -1 ≤ o ∧ (o ≤ 8 ∨ o = 9 ∧ T ≤ 0)) (hk : KT w) :
    Calls Tryd.prog 23 #[.int .i64 f, .bool false, .int .i64 o] w fun e w' => ∃ b, e = .returned (.tuple #[.slice (some ⟨b, 0, none⟩) 7 7, .int .i64 0]) ∧ Cel w' b (tgt f T o) ∧ Below w.heap.size w w' := by
  rcases ho with ⟨o0, h1 | ⟨rfl, h2⟩⟩
  · exact scale_in f T o w h hT o0 h1 hk
  · exact scale_top f T w h hT h2 hk
theorem scale_no (f T o : Int) (w : World) (h : Sg f) (hT : shI ((f + 1) % 7) = T) (ho : ¬ (-1 ≤ o ∧ (o ≤ 8 ∨ o = 9 ∧ T ≤ 0))) (hk : KT w) :
    Calls Tryd.prog 23 #[.int .i64 f, .bool false, .int .i64 o] w fun e w' => e = .returned (.tuple #[.slice none 0 0, .int .i64 18]) ∧ Below w.heap.size w w' := by
  by_cases h1 : o < -1
  · exact scale_b1 f T o w h hT h1 hk
  · by_cases h2 : 9 < o
    · exact scale_b2 f T o w h hT h2 hk
    · exact scale_b3 f T o w h hT (by omega) (by omega) hk
/-- how many of a step's alterations, below one, are diatonic -/
def hit (A b : Int) : Int := if A < b then 1 else 0
set_option maxRecDepth 100000 in
set_option maxHeartbeats 2000000 in
theorem diLaw1 (x f T o : Int) (w : World) (x0 : 0 ≤ x) (x1 : x ≤ 255) (hf : x % 15 - 7 = f) (hT : shI ((f + 1) % 7) = T) (ho : ¬ (-1 ≤ o ∧ (o ≤ 8 ∨ o = 9 ∧ T ≤ 0))) (hk : KT w) :
    Calls Tryd.prog 8 #[.int .u8 x, .int .i64 o] w fun e w' => e = .returned (.bool true) ∧ Below w.heap.size w w' := by
  have B0 := Lib.hid (Bel.refl w)
  have K0 := Lib.hid hk
  have h : Sg f := ⟨by omega, by omega⟩
  have HP := Lib.hid h
  have KS := Lib.hid (fun v hv => scale_no f T o v h hT ho hv)
  clear hT ho h
  go_enter Tryd.func8, Tryd.ntmps8
  go_wp2_with fail
  refine (KS.out _ K0.out).mono ?_
  rintro e w1 ⟨rfl, hb⟩
  have B1 := Lib.hid (B0.out.up hb)
  have K1 := Lib.hid (K0.out.below hb)
  clear hb B0 K0 
  go_wp2_with fail
  refine (known_any _ K1.out).mono ?_
  rintro e w2 ⟨rfl, hb⟩
  have B2 := Lib.hid (B1.out.up hb)
  have K2 := Lib.hid (K1.out.below hb)
  clear hb B1 K1 
  go_wp2_with fail
  go_loopg [8, 9] 7 (fun gm cnt st wr => ∃ p : Int, 0 ≤ p ∧ p ≤ 7 ∧ gm = (7 - p).toNat ∧ cnt = .int .i64 p ∧ st = .int .i64 p ∧ Hid (Bel w wr) ∧ Hid (KT wr))
  case atStart => exact ⟨0, by omega, by omega, by omega, rfl, rfl, B2, K2⟩
  case round =>
    obtain ⟨p, p0, p7, rfl, rfl, rfl, HB, HK⟩ := hrel
    by_cases p6 : p ≤ 6
    · go_wp2_with fail
      try rw [show decide (p < 7) = true by simp; omega]
      have KD := Lib.hid (fun (q : Int) v hv => diat_ok f p q o v HP.out p0 p6 hv)
      obtain ⟨A, hA⟩ : ∃ A, alI f p = A := ⟨_, rfl⟩
      have Ab := alI_bd f p
      rw [hA] at KD Ab
      obtain ⟨A0, A1⟩ := Ab
      clear hA
      go_loopg [8, 10] 5 (fun gm cnt al wr => ∃ c q : Int, -2 ≤ q ∧ q ≤ 3 ∧ gm = (3 - q).toNat ∧ cnt = .int .i64 c ∧ al = .int .i64 q ∧ 0 ≤ c ∧ c ≤ 8 ∧ Hid (c = p + hit A q) ∧ Hid (Bel w wr) ∧ Hid (KT wr))
      case atStart => exact ⟨p, -2, by omega, by omega, by omega, rfl, rfl, by omega, by omega, Lib.hid (by unfold hit; rw [if_neg (by omega)]; omega), HB, HK⟩
      case round =>
        obtain ⟨c, q, q0, q3, rfl, rfl, rfl, c0, c8, HH, HB, HK⟩ := hrel
        by_cases q2 : q ≤ 2
        · go_wp2_with fail
          refine (KD.out q _ HK.out).mono ?_
          rintro e w5 ⟨rfl, hb⟩
          have cb := Lib.hid (show c ≤ 7 from by have := HH.out; unfold hit at this; split at this <;> omega)
          by_cases e : q = A
          · have hn := Lib.hid (show c + 1 = p + hit A (q + 1) from by have := HH.out; unfold hit at this ⊢; rw [if_neg (by omega)] at this; rw [if_pos (by omega)]; omega)
            rw [show decide (q = A) = true by simpa using e]
            have c7 := cb.out
            clear e
            go_wp2_with fail
            go_roundg (3 - (q + 1)).toNat
            case measure => omega
            case rel => exact ⟨c + 1, q + 1, by omega, by omega, rfl, by go_num, by go_num, by omega, by omega, hn, Lib.hid (HB.out.up hb), Lib.hid (HK.out.below hb)⟩
          · have hn := Lib.hid (show c = p + hit A (q + 1) from by have := HH.out; unfold hit at this ⊢; split at this <;> split <;> omega)
            rw [show decide (q = A) = false by simpa using e]
            clear e
            go_wp2_with fail
            go_roundg (3 - (q + 1)).toNat
            case measure => omega
            case rel => exact ⟨c, q + 1, by omega, by omega, rfl, rfl, by go_num, by omega, by omega, hn, Lib.hid (HB.out.up hb), Lib.hid (HK.out.below hb)⟩
        · obtain rfl : q = 3 := by omega
          have hc : c = p + 1 := by have := HH.out; unfold hit at this; rw [if_pos (by omega)] at this; exact this
          subst hc
          go_wp2_with fail
          go_roundg (7 - (p + 1)).toNat
          case measure => omega
          case rel => exact ⟨p + 1, by omega, by omega, rfl, by go_num, by go_num, HB, HK⟩
    · obtain rfl : p = 7 := by omega
      go_wp2_with fail
      go_ret
      exact ⟨by first | rfl | (simp; done), HB.out.out⟩
set_option maxRecDepth 100000 in
set_option maxHeartbeats 2000000 in
theorem diLaw2 (x f T o : Int) (w : World) (x0 : 0 ≤ x) (x1 : x ≤ 255) (hf : x % 15 - 7 = f) (hT : shI ((f + 1) % 7) = T) (ho : -1 ≤ o ∧ (o ≤ 8 ∨ o = 9 ∧ T ≤ 0)) (hk : KT w) :
    Calls Tryd.prog 8 #[.int .u8 x, .int .i64 o] w fun e w' => e = .returned (.bool true) ∧ Below w.heap.size w w' := by
  have B0 := Lib.hid (Bel.refl w)
  have K0 := Lib.hid hk
  have h : Sg f := ⟨by omega, by omega⟩
  have HP := Lib.hid h
  have KS := Lib.hid (fun v hv => scale_yes f T o v h hT ho hv)
  have Tb := shI_bd ((f + 1) % 7)
  rw [hT] at Tb
  obtain ⟨T0, T6⟩ := Tb
  have KG := Lib.hid (show ∀ (k : Int) (v : World), 0 ≤ k → k ≤ 6 → KT v → Calls Tryd.prog 25 #[.int .i64 f, .agg #[.int .i64 ((T + k) % 7), .int .i64 (alI f ((T + k) % 7)), .int .i64 (o + (T + k) / 7)]] v (fun e w' => e = .returned (.tuple #[.int .i64 k, .int .i64 0, .int .i64 0]) ∧ Below v.heap.size v w') from fun k v k0 k6 hv => by
    have ab := alI_bd f ((T + k) % 7)
    have r := deg_ok f ((T + k) % 7) (alI f ((T + k) % 7)) (o + (T + k) / 7) v h ⟨by omega, by omega, by omega, by omega⟩ hv
    rw [hT, show ((T + k) % 7 - T + 7) % 7 = k by omega, show alI f ((T + k) % 7) - alI f ((T + k) % 7) = 0 by omega] at r
    exact r)
  have KI := Lib.hid (show ∀ (k : Int) (v : World), 0 ≤ k → k ≤ 6 → KT v → Calls Tryd.prog 26 #[.int .i64 f, .agg #[.int .i64 ((T + k) % 7), .int .i64 (alI f ((T + k) % 7)), .int .i64 (o + (T + k) / 7)]] v (fun e w' => e = .returned (.bool true) ∧ Below v.heap.size v w') from fun k v k0 k6 hv => by
    have r := diat_ok f ((T + k) % 7) (alI f ((T + k) % 7)) (o + (T + k) / 7) v h (by omega) (by omega) hv
    rw [show decide (alI f ((T + k) % 7) = alI f ((T + k) % 7)) = true by simp] at r
    exact r)
  clear hT ho h
  go_enter Tryd.func8, Tryd.ntmps8
  go_wp2_with fail
  refine (KS.out _ K0.out).mono ?_
  rintro e w1 ⟨b, rfl, hc, hb⟩
  have C1 := Lib.hid hc
  clear hc
  have B1 := Lib.hid (B0.out.up hb)
  have K1 := Lib.hid (K0.out.below hb)
  clear hb B0 K0 
  go_wp2_with fail
  refine (known_any _ K1.out).mono ?_
  rintro e w2 ⟨rfl, hb⟩
  have B2 := Lib.hid (B1.out.up hb)
  have K2 := Lib.hid (K1.out.below hb)
  have C2 := Lib.hid (C1.out.up hb)
  clear hb B1 K1 C1 
  go_wp2_with fail
  go_loopg [8, 9] 7 (fun gm cnt st wr => ∃ p : Int, 0 ≤ p ∧ p ≤ 7 ∧ gm = (7 - p).toNat ∧ cnt = .int .i64 p ∧ st = .int .i64 p ∧ Hid (Bel w wr) ∧ Hid (KT wr) ∧ Hid (Cel wr b (tgt f T o)))
  case atStart => exact ⟨0, by omega, by omega, by omega, rfl, rfl, B2, K2, C2⟩
  case round =>
    obtain ⟨p, p0, p7, rfl, rfl, rfl, HB, HK, HC⟩ := hrel
    by_cases p6 : p ≤ 6
    · go_wp2_with fail
      try rw [show decide (p < 7) = true by simp; omega]
      have KD := Lib.hid (fun (q : Int) v hv => diat_ok f p q o v HP.out p0 p6 hv)
      obtain ⟨A, hA⟩ : ∃ A, alI f p = A := ⟨_, rfl⟩
      have Ab := alI_bd f p
      rw [hA] at KD Ab
      obtain ⟨A0, A1⟩ := Ab
      clear hA
      go_loopg [8, 10] 5 (fun gm cnt al wr => ∃ c q : Int, -2 ≤ q ∧ q ≤ 3 ∧ gm = (3 - q).toNat ∧ cnt = .int .i64 c ∧ al = .int .i64 q ∧ 0 ≤ c ∧ c ≤ 8 ∧ Hid (c = p + hit A q) ∧ Hid (Bel w wr) ∧ Hid (KT wr) ∧ Hid (Cel wr b (tgt f T o)))
      case atStart => exact ⟨p, -2, by omega, by omega, by omega, rfl, rfl, by omega, by omega, Lib.hid (by unfold hit; rw [if_neg (by omega)]; omega), HB, HK, HC⟩
      case round =>
        obtain ⟨c, q, q0, q3, rfl, rfl, rfl, c0, c8, HH, HB, HK, HC⟩ := hrel
        by_cases q2 : q ≤ 2
        · go_wp2_with fail
          refine (KD.out q _ HK.out).mono ?_
          rintro e w5 ⟨rfl, hb⟩
          have cb := Lib.hid (show c ≤ 7 from by have := HH.out; unfold hit at this; split at this <;> omega)
          by_cases e : q = A
          · have hn := Lib.hid (show c + 1 = p + hit A (q + 1) from by have := HH.out; unfold hit at this ⊢; rw [if_neg (by omega)] at this; rw [if_pos (by omega)]; omega)
            rw [show decide (q = A) = true by simpa using e]
            have c7 := cb.out
            clear e
            go_wp2_with fail
            go_roundg (3 - (q + 1)).toNat
            case measure => omega
            case rel => exact ⟨c + 1, q + 1, by omega, by omega, rfl, by go_num, by go_num, by omega, by omega, hn, Lib.hid (HB.out.up hb), Lib.hid (HK.out.below hb), Lib.hid (HC.out.up hb)⟩
          · have hn := Lib.hid (show c = p + hit A (q + 1) from by have := HH.out; unfold hit at this ⊢; split at this <;> split <;> omega)
            rw [show decide (q = A) = false by simpa using e]
            clear e
            go_wp2_with fail
            go_roundg (3 - (q + 1)).toNat
            case measure => omega
            case rel => exact ⟨c, q + 1, by omega, by omega, rfl, rfl, by go_num, by omega, by omega, hn, Lib.hid (HB.out.up hb), Lib.hid (HK.out.below hb), Lib.hid (HC.out.up hb)⟩
        · obtain rfl : q = 3 := by omega
          have hc : c = p + 1 := by have := HH.out; unfold hit at this; rw [if_pos (by omega)] at this; exact this
          subst hc
          go_wp2_with fail
          go_roundg (7 - (p + 1)).toNat
          case measure => omega
          case rel => exact ⟨p + 1, by omega, by omega, rfl, by go_num, by go_num, HB, HK, HC⟩
    · obtain rfl : p = 7 := by omega
      go_wp2_with fail
      go_loopg [11] 7 (fun gm i wr => ∃ k : Nat, k ≤ 7 ∧ gm = 7 - k ∧ i = .int .i64 (k : Int) ∧ Hid (Cel wr b (tgt f T o)) ∧ Hid (Bel w wr) ∧ Hid (KT wr))
      case atStart => exact ⟨0, by omega, by omega, rfl, HC, HB, HK⟩
      case round =>
        obtain ⟨k, hk7, rfl, rfl, HC, HB, HK⟩ := hrel
        by_cases hlt : k < 7
        · have c0 := (HC.out (k * 3) (by omega)).1
          have c1 := (HC.out (k * 3 + 1) (by omega)).1
          have c2 := (HC.out (k * 3 + 2) (by omega)).1
          rw [tgt0] at c0
          rw [tgt1] at c1
          rw [tgt2] at c2
          have G1 := KG.out (k : Int)
          have I1 := KI.out (k : Int)
          generalize alI f ((T + (k : Int)) % 7) = A at c1 G1 I1
          generalize (T + (k : Int)) % 7 = S at c0 G1 I1
          generalize o + (T + (k : Int)) / 7 = O at c2 G1 I1
          have G2 := Lib.hid G1
          have I2 := Lib.hid I1
          clear G1 I1
          go_wp2_with fail
          refine (G2.out _ (by omega) (by omega) HK.out).mono ?_
          rintro e w5 ⟨rfl, hb⟩
          have d0 := cell_up hb c0
          have d1 := cell_up hb c1
          have d2 := cell_up hb c2
          have B5 := Lib.hid (HB.out.up hb)
          have K5 := Lib.hid (HK.out.below hb)
          have C5 := Lib.hid (HC.out.up hb)
          clear hb HB HK HC c0 c1 c2
          go_wp2_with fail
          refine (I2.out _ (by omega) (by omega) K5.out).mono ?_
          rintro e w6 ⟨rfl, hb⟩
          have B6 := Lib.hid (B5.out.up hb)
          have K6 := Lib.hid (K5.out.below hb)
          have C6 := Lib.hid (C5.out.up hb)
          clear hb B5 K5 C5 d0 d1 d2
          go_wp2_with fail
          go_roundg (7 - (k + 1))
          case measure => omega
          case rel => exact ⟨k + 1, by omega, rfl, by go_num, C6, B6, K6⟩
        · obtain rfl : k = 7 := by omega
          go_wp2_with fail
          go_ret
          exact ⟨by first | rfl | (simp; done), HB.out.out⟩
theorem law_KeyDiatonic (x o : Int) (w : World) (x0 : 0 ≤ x) (x1 : x ≤ 255) (hk : KT w) :
    Calls Tryd.prog 8 #[.int .u8 x, .int .i64 o] w fun e w' => e = .returned (.bool true) ∧ Below w.heap.size w w' := by
  by_cases ho : -1 ≤ o ∧ (o ≤ 8 ∨ o = 9 ∧ shI ((x % 15 - 7 + 1) % 7) ≤ 0)
  · exact diLaw2 x _ _ o w x0 x1 rfl rfl ho hk
  · exact diLaw1 x _ _ o w x0 x1 rfl rfl ho hk
end Go.Proofs.YtihndkplknoabaaDoor
