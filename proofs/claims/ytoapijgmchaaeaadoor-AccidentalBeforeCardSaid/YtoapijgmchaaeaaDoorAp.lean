/- Accidentals: law Before. -/
import Derived.Test.YtoapijgmchaaeaaDoorAo
namespace Go.Proofs.YtoapijgmchaaeaaDoor
open Go.RowKit
set_option linter.unusedVariables false
set_option linter.unusedSimpArgs false

theorem errL_take (L : List Nt) : ∀ (last : Int) (n : Nat), errL last L = 0 → errL last (L.take n) = 0 := by
  induction L with
  | nil => intro last n h; simpa using h
  | cons m L ih =>
    intro last n h
    cases n with
    | zero => rfl
    | succ n =>
      rw [List.take_succ_cons]
      unfold errL at h ⊢
      by_cases h0 : errN last m = 0
      · rw [if_pos h0] at h ⊢
        exact ih _ _ h
      · rw [if_neg h0] at h
        exact absurd h h0
theorem NtAt.take {w : World} {ad : Option Addr} {L : List Nt} (h : NtAt w ad L) (n : Nat) : NtAt w ad (L.take n) := fun k m hm => by
  rw [List.getElem?_take] at hm
  split at hm
  · exact h k m hm
  · cases hm
/-- where the notes before a tick end -/
structure Cut (L : List Nt) (z : Int) (n : Nat) : Prop where
  le : n ≤ L.length
  low : ∀ j m, j < n → L[j]? = some m → m.t < z
  high : ∀ j m, n ≤ j → L[j]? = some m → z ≤ m.t
theorem take_at {L : List Nt} {n k : Nat} (hk : k < n) : (L.take n)[k]? = L[k]? := by rw [List.getElem?_take, if_pos hk]
theorem conB_take {L : List Nt} {z : Int} {n k : Nat} (h : Cut L z n) (hk : k < n) : conB (L.take n) k = conB L k := by
  refine Bool.eq_iff_iff.2 ?_
  rw [conB_iff, conB_iff]
  constructor
  · rintro ⟨q, m, x, h1, h2, h3⟩
    rw [take_at hk] at h1
    rw [List.getElem?_take] at h2
    split at h2
    · exact ⟨q, m, x, h1, h2, h3⟩
    · cases h2
  · rintro ⟨q, m, x, h1, h2, h3⟩
    have hq : q < n := by
      rcases Nat.lt_or_ge q n with h4 | h4
      · exact h4
      · have h5 := h.low k m hk h1
        have h6 := h.high q x h4 h2
        have h7 := h3.1
        omega
    exact ⟨q, m, x, by rw [take_at hk]; exact h1, by rw [take_at hq]; exact h2, h3⟩
theorem disF_take {L : List Nt} {z f : Int} {n : Nat} (h : Cut L z n) : ∀ k, k ≤ n → disF (L.take n) f k = disF L f k
  | 0, _ => rfl
  | k + 1, hk => by
    show (match (L.take n)[k]? with | none => disF (L.take n) f k | some m => markF (conB (L.take n) k) (disF (L.take n) f k) m) = (match L[k]? with | none => disF L f k | some m => markF (conB L k) (disF L f k) m)
    rw [take_at (by omega), disF_take h k (by omega), conB_take h (by omega)]
theorem disM_take {L : List Nt} {z f : Int} {n k : Nat} (h : Cut L z n) (hk : k < n) : disM (L.take n) f k = disM L f k := by
  unfold disM
  rw [take_at hk, disF_take h k (by omega), conB_take h hk]
set_option maxRecDepth 100000 in
set_option maxHeartbeats 8000000 in
theorem before_long (f : Int) (L : List Nt) (ad : Option Addr) (cap : Nat) (z : Int) (w : World) (hl : 30 < L.length) (hm : L.length ≤ 9223372036854775807) (hk : KT w) :
    Calls Tryd.prog 10 #[.int .i64 f, .slice ad L.length cap, .int .i64 z] w fun e w' => e = .returned (.bool true) ∧ Below w.heap.size w w' := by
  have HK := Lib.hid hk
  have B0 := Lib.hid (Bel.refl w)
  clear hk
  have hl2 : decide (30 < L.length) = true := by simpa using hl
  go_enter Tryd.func10, Tryd.ntmps10
  go_wp2_with fail
  refine (known_ok _ HK.out).mono ?_
  rintro e w1 ⟨rfl, hb⟩
  have B1 := Lib.hid (B0.out.up hb)
  clear hb
  go_wp2_with fail
  refine (known_ok _ (HK.out.below B1.out)).mono ?_
  rintro e w2 ⟨rfl, hb⟩
  have B2 := Lib.hid (B1.out.up hb)
  clear hb
  go_wp2_with fail
  go_ret
  exact ⟨rfl, B2.out.out⟩
set_option maxRecDepth 100000 in
set_option maxHeartbeats 8000000 in
theorem before_bad (f : Int) (L : List Nt) (ad : Option Addr) (cap : Nat) (z : Int) (w : World) (hl : L.length ≤ 30) (hE : (if Sg f then errL 0 L else 2) ≠ 0) (h : NtAt w ad L) (hk : KT w) :
    Calls Tryd.prog 10 #[.int .i64 f, .slice ad L.length cap, .int .i64 z] w fun e w' => e = .returned (.bool true) ∧ Below w.heap.size w w' := by
  have HK := Lib.hid hk
  have B0 := Lib.hid (Bel.refl w)
  clear hk
  have hl2 : decide (30 < L.length) = false := by simpa using hl
  have KC := Lib.hid (fun wz (hz : NtAt wz ad L) => checkR_ok f L ad cap wz hl hz)
  generalize (if Sg f then errL 0 L else 2) = E at *
  have hE2 : (E != 0) = true := by simpa using hE
  have hE3 : (E == 0) = false := by simpa using hE
  have HA := Lib.hid h
  clear h hE
  go_enter Tryd.func10, Tryd.ntmps10
  go_wp2_with fail
  refine (known_ok _ HK.out).mono ?_
  rintro e w1 ⟨rfl, hb⟩
  have B1 := Lib.hid (B0.out.up hb)
  clear hb
  go_wp2_with fail
  refine (KC.out _ (HA.out.up B1.out)).mono ?_
  rintro e w2 ⟨rfl, hb⟩
  have B2 := Lib.hid (B1.out.up hb)
  clear hb
  go_wp2_with fail
  refine (known_ok _ (HK.out.below B2.out)).mono ?_
  rintro e w3 ⟨rfl, hb⟩
  have B3 := Lib.hid (B2.out.up hb)
  clear hb
  go_wp2_with fail
  go_ret
  exact ⟨rfl, B3.out.out⟩
set_option maxRecDepth 100000 in
set_option maxHeartbeats 8000000 in
theorem before_ok (f : Int) (L : List Nt) (ad : Option Addr) (cap : Nat) (z : Int) (w : World) (hc : L.length ≤ cap) (hm : cap ≤ 9223372036854775807) (hl : L.length ≤ 30) (hf : Sg f) (hE : errL 0 L = 0) (h : NtAt w ad L) (hk : KT w) :
    Calls Tryd.prog 10 #[.int .i64 f, .slice ad L.length cap, .int .i64 z] w fun e w' => e = .returned (.bool true) ∧ Below w.heap.size w w' := by
  have HK := Lib.hid hk
  have B0 := Lib.hid (Bel.refl w)
  clear hk
  have hl2 : decide (30 < L.length) = false := by simpa using hl
  have KC := Lib.hid (fun wz (hz : NtAt wz ad L) => checkR_ok f L ad cap wz hl hz)
  rw [if_pos hf, hE] at KC
  have HG := Lib.hid (errL_good L 0 hE).2
  have HE := Lib.hid hE
  have HF := Lib.hid hf
  have HA := Lib.hid h
  clear h hE hf
  go_enter Tryd.func10, Tryd.ntmps10
  go_wp2_with fail
  refine (known_ok _ HK.out).mono ?_
  rintro e w1 ⟨rfl, hb⟩
  have B1 := Lib.hid (B0.out.up hb)
  clear hb
  go_wp2_with fail
  refine (KC.out _ (HA.out.up B1.out)).mono ?_
  rintro e w2 ⟨rfl, hb⟩
  have B2 := Lib.hid (B1.out.up hb)
  clear hb
  go_wp2_with fail
  go_loopg [7] L.length (fun gm i wr => ∃ (k : Nat), k ≤ L.length ∧ gm = L.length - k ∧ i = .int .i64 (k : Int) ∧ Hid (∀ j m, j < k → L[j]? = some m → m.t < z) ∧ Hid (Bel w wr))
  case atStart => exact ⟨0, by omega, by omega, rfl, Lib.hid (fun j m h => absurd h (by omega)), B2⟩
  case round =>
    obtain ⟨k, hk, rfl, rfl, HJ, HB⟩ := hrel
    clear B2
    by_cases hlt : k < L.length
    · have hltd : decide (k < L.length) = true := by simpa using hlt
      obtain ⟨n, hn⟩ : ∃ n, L[k]? = some n := ⟨_, List.getElem?_eq_getElem hlt⟩
      obtain ⟨b, off, hao, hc6⟩ := (HA.out.up HB.out.out) k n hn
      have c0 := hc6.c0
      have HN := Lib.hid hn
      clear hn hc6
      rcases n with ⟨t, s, a, o, hh, v⟩
      simp only at c0
      by_cases ht : t < z
      · have htd : decide (t < z) = true := by simpa using ht
        have HJ2 := Lib.hid (show ∀ j m, j < k + 1 → L[j]? = some m → m.t < z from fun j m hj hm => by
          by_cases e : j = k
          · subst e
            rw [HN.out] at hm
            cases hm
            exact ht
          · exact HJ.out j m (by omega) hm)
        subst hao
        go_wp2_with fail
        try (go_quiet (fail); go_wp2_with fail)
        go_roundg (L.length - (k + 1))
        case measure => omega
        case rel => exact ⟨k + 1, by omega, rfl, by go_num, HJ2, by first | exact HB | exact Lib.hid (Bel.drewN HB.out _)⟩
      · have htd : decide (t < z) = false := by simpa using ht
        have HC := Lib.hid (show Cut L z k from ⟨by omega, HJ.out, fun j m hj hm => by
          by_cases e : j = k
          · subst e
            rw [HN.out] at hm
            cases hm
            simp only
            omega
          · have := HG.out.sorted k j _ m (by omega) HN.out hm
            simp only at this
            omega⟩)
        subst hao
        go_wp2_with fail
        try (go_quiet (fail); go_wp2_with fail)
        obtain ⟨T, hT⟩ : ∃ T, L.take k = T := ⟨_, rfl⟩
        have hTl : T.length = k := by rw [← hT, List.length_take]; omega
        have HTE := Lib.hid (show errL 0 T = 0 by rw [← hT]; exact errL_take L 0 k HE.out)
        have HTA := Lib.hid (show ∀ wz, NtAt wz (some ⟨b, off, none⟩) L → NtAt wz (some ⟨b, off, none⟩) T from fun wz hz => by rw [← hT]; exact hz.take k)
        have HTM := Lib.hid (show ∀ j, j < k → disM T f j = disM L f j from fun j hj => by rw [← hT]; exact disM_take HC.out hj)
        have KO := fun wz (hz : NtAt wz (some ⟨b, off, none⟩) T) => own_ok T (some ⟨b, off, none⟩) cap wz (by omega) hz
        have KD := fun ad3 cap3 wz (hz : NtAt wz ad3 T) (hkk : KT wz) => Display_ok f T ad3 cap3 wz HF.out (by omega) HTE.out hz hkk
        simp only [hTl] at KO KD
        have KO := Lib.hid KO
        have KD := Lib.hid KD
        have HTl := Lib.hid hTl
        clear hT hTl
        refine (own_ok L (some ⟨b, off, none⟩) cap _ hl (HA.out.up HB.out.out)).mono ?_
        rintro e w3 ⟨v3, rfl, hO⟩
        obtain ⟨ad2, cap2, rfl, hA2⟩ := hO.at
        have A3 := Lib.hid hA2
        have B3 := Lib.hid (HB.out.up hO.bel)
        clear hO hA2 HB
        go_wp2_with fail
        refine (Display_ok f L ad2 cap2 _ HF.out (by omega) HE.out A3.out (HK.out.below B3.out)).mono ?_
        rintro e w4 ⟨g, rfl, hm4, hb⟩
        have B4 := Lib.hid (B3.out.up hb)
        have M4 := Lib.hid hm4
        clear hm4 hb A3 B3
        go_wp2_with fail
        refine (KO.out _ (HTA.out _ (HA.out.up B4.out.out))).mono ?_
        rintro e w5 ⟨v5, rfl, hO⟩
        obtain ⟨ad3, cap3, hv5, hA5⟩ := hO.at
        rw [HTl.out] at hv5
        subst hv5
        have A5 := Lib.hid hA5
        have B5 := Lib.hid (B4.out.up hO.bel)
        have M5 := Lib.hid (M4.out.up hO.bel)
        clear hO hA5 B4 M4
        go_wp2_with fail
        refine (KD.out _ _ _ A5.out (HK.out.below B5.out)).mono ?_
        rintro e w6 ⟨g2, rfl, hm6, hb⟩
        have B6 := Lib.hid (B5.out.up hb)
        have M6 := Lib.hid (M5.out.up hb)
        have P6 := Lib.hid hm6
        clear hm6 hb A5 B5 M5
        go_wp2_with fail
        try (go_quiet (fail); go_wp2_with fail)
        go_loopg [12] k (fun gm i wr => ∃ (j : Nat), j ≤ k ∧ gm = k - j ∧ i = .int .i64 (j : Int) ∧ Hid (FilM wr g L.length (disM L f)) ∧ Hid (FilM wr g2 k (disM T f)) ∧ Hid (Bel w wr))
        case atStart => exact ⟨0, by omega, by omega, rfl, M6, P6, B6⟩
        case round =>
          obtain ⟨j, hj, rfl, rfl, HM, HP, HB⟩ := hrel
          clear M6 P6 B6
          by_cases hjk : j < k
          · obtain ⟨⟨m0, m1⟩, _, _⟩ := HM.out j (by omega)
            obtain ⟨⟨p0, p1⟩, _, _⟩ := HP.out j hjk
            rw [HTM.out j hjk] at p0 p1
            generalize disM L f j = D at m0 m1 p0 p1
            obtain ⟨K, Q⟩ := D
            simp only at m0 m1 p0 p1
            go_wp2_with fail
            try (go_quiet (fail); go_wp2_with fail)
            go_roundg (k - (j + 1))
            case measure => omega
            case rel => exact ⟨j + 1, by omega, rfl, by go_num, by first | exact HM | exact Lib.hid (HM.out.up (below_drewN (Below.refl _ _) _)), by first | exact HP | exact Lib.hid (HP.out.up (below_drewN (Below.refl _ _) _)), by first | exact HB | exact Lib.hid (Bel.drewN HB.out _)⟩
          · obtain rfl : j = k := by omega
            go_wp2_with fail
            go_ret
            exact ⟨rfl, HB.out.out⟩
    · have hltd : decide (k < L.length) = false := by simpa using hlt
      have HC := Lib.hid (show Cut L z k from ⟨by omega, HJ.out, fun j m hj hm => by have := (List.getElem?_eq_some_iff.1 hm).1; omega⟩)
      go_wp2_with fail
      try (go_quiet (fail); go_wp2_with fail)
      obtain ⟨T, hT⟩ : ∃ T, L.take k = T := ⟨_, rfl⟩
      have hTl : T.length = k := by rw [← hT, List.length_take]; omega
      have HTE := Lib.hid (show errL 0 T = 0 by rw [← hT]; exact errL_take L 0 k HE.out)
      have HTA := Lib.hid (show ∀ wz, NtAt wz ad L → NtAt wz ad T from fun wz hz => by rw [← hT]; exact hz.take k)
      have HTM := Lib.hid (show ∀ j, j < k → disM T f j = disM L f j from fun j hj => by rw [← hT]; exact disM_take HC.out hj)
      have KO := fun wz (hz : NtAt wz ad T) => own_ok T ad cap wz (by omega) hz
      have KD := fun ad3 cap3 wz (hz : NtAt wz ad3 T) (hkk : KT wz) => Display_ok f T ad3 cap3 wz HF.out (by omega) HTE.out hz hkk
      simp only [hTl] at KO KD
      have KO := Lib.hid KO
      have KD := Lib.hid KD
      have HTl := Lib.hid hTl
      clear hT hTl
      refine (own_ok L ad cap _ hl (HA.out.up HB.out.out)).mono ?_
      rintro e w3 ⟨v3, rfl, hO⟩
      obtain ⟨ad2, cap2, rfl, hA2⟩ := hO.at
      have A3 := Lib.hid hA2
      have B3 := Lib.hid (HB.out.up hO.bel)
      clear hO hA2 HB
      go_wp2_with fail
      refine (Display_ok f L ad2 cap2 _ HF.out (by omega) HE.out A3.out (HK.out.below B3.out)).mono ?_
      rintro e w4 ⟨g, rfl, hm4, hb⟩
      have B4 := Lib.hid (B3.out.up hb)
      have M4 := Lib.hid hm4
      clear hm4 hb A3 B3
      go_wp2_with fail
      refine (KO.out _ (HTA.out _ (HA.out.up B4.out.out))).mono ?_
      rintro e w5 ⟨v5, rfl, hO⟩
      obtain ⟨ad3, cap3, hv5, hA5⟩ := hO.at
      rw [HTl.out] at hv5
      subst hv5
      have A5 := Lib.hid hA5
      have B5 := Lib.hid (B4.out.up hO.bel)
      have M5 := Lib.hid (M4.out.up hO.bel)
      clear hO hA5 B4 M4
      go_wp2_with fail
      refine (KD.out _ _ _ A5.out (HK.out.below B5.out)).mono ?_
      rintro e w6 ⟨g2, rfl, hm6, hb⟩
      have B6 := Lib.hid (B5.out.up hb)
      have M6 := Lib.hid (M5.out.up hb)
      have P6 := Lib.hid hm6
      clear hm6 hb A5 B5 M5
      go_wp2_with fail
      try (go_quiet (fail); go_wp2_with fail)
      go_loopg [12] k (fun gm i wr => ∃ (j : Nat), j ≤ k ∧ gm = k - j ∧ i = .int .i64 (j : Int) ∧ Hid (FilM wr g L.length (disM L f)) ∧ Hid (FilM wr g2 k (disM T f)) ∧ Hid (Bel w wr))
      case atStart => exact ⟨0, by omega, by omega, rfl, M6, P6, B6⟩
      case round =>
        obtain ⟨j, hj, rfl, rfl, HM, HP, HB⟩ := hrel
        clear M6 P6 B6
        by_cases hjk : j < k
        · obtain ⟨⟨m0, m1⟩, _, _⟩ := HM.out j (by omega)
          obtain ⟨⟨p0, p1⟩, _, _⟩ := HP.out j hjk
          rw [HTM.out j hjk] at p0 p1
          generalize disM L f j = D at m0 m1 p0 p1
          obtain ⟨K, Q⟩ := D
          simp only at m0 m1 p0 p1
          go_wp2_with fail
          try (go_quiet (fail); go_wp2_with fail)
          go_roundg (k - (j + 1))
          case measure => omega
          case rel => exact ⟨j + 1, by omega, rfl, by go_num, by first | exact HM | exact Lib.hid (HM.out.up (below_drewN (Below.refl _ _) _)), by first | exact HP | exact Lib.hid (HP.out.up (below_drewN (Below.refl _ _) _)), by first | exact HB | exact Lib.hid (Bel.drewN HB.out _)⟩
        · obtain rfl : j = k := by omega
          go_wp2_with fail
          go_ret
          exact ⟨rfl, HB.out.out⟩
theorem law_AccidentalBefore (f : Int) (L : List Nt) (ad : Option Addr) (cap : Nat) (z : Int) (w : World) (hc : L.length ≤ cap) (hm : cap ≤ maxLen) (h : NtAt w ad L) (hk : KT w) :
    Calls Tryd.prog 10 #[.int .i64 f, .slice ad L.length cap, .int .i64 z] w fun e w' => e = .returned (.bool true) ∧ Below w.heap.size w w' := by
  unfold maxLen at hm
  by_cases hl : 30 < L.length
  · exact before_long f L ad cap z w hl (by omega) hk
  · by_cases hE : (if Sg f then errL 0 L else 2) = 0
    · by_cases hf : Sg f
      · rw [if_pos hf] at hE
        exact before_ok f L ad cap z w hc (by omega) (by omega) hf hE h hk
      · rw [if_neg hf] at hE
        exact absurd hE (by omega)
    · exact before_bad f L ad cap z w (by omega) hE h hk
end Go.Proofs.YtoapijgmchaaeaaDoor
