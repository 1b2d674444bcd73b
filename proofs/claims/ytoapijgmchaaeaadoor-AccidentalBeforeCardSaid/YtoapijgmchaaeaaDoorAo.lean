/- Accidentals: law Shows. -/
import Derived.Test.YtoapijgmchaaeaaDoorAn
namespace Go.Proofs.YtoapijgmchaaeaaDoor
open Go.RowKit
set_option linter.unusedVariables false
set_option linter.unusedSimpArgs false

theorem disM_cases {L : List Nt} {f : Int} {k : Nat} {n : Nt} (h : L[k]? = some n) (hv : 0 ≤ n.v ∧ n.v ≤ 2) : disM L f k = (0, false) ∧ n.v = 0 ∨ (disM L f k).1 = n.a + 3 ∧ ((disM L f k).2 = true ∧ n.v = 2 ∨ (disM L f k).2 = false) := by
  rw [disM_at h]
  generalize conB L k = c
  generalize disF L f k = fr
  unfold markM
  generalize needB c fr n = nd
  by_cases h1 : (nd || decide (n.v ≠ 0)) = true
  · rw [if_pos h1]
    refine .inr ⟨rfl, ?_⟩
    by_cases h2 : n.v = 2
    · cases nd
      · exact .inl ⟨by simp [h2], h2⟩
      · exact .inr (by simp)
    · exact .inr (by simp [h2])
  · rw [if_neg h1]
    simp at h1
    exact .inl ⟨rfl, h1.2⟩
set_option maxRecDepth 100000 in
set_option maxHeartbeats 8000000 in
theorem shows_long (f : Int) (L : List Nt) (ad : Option Addr) (cap : Nat) (w : World) (hl : 30 < L.length) (hm : L.length ≤ 9223372036854775807) (hk : KT w) :
    Calls Tryd.prog 8 #[.int .i64 f, .slice ad L.length cap] w fun e w' => e = .returned (.bool true) ∧ Below w.heap.size w w' := by
  have HK := Lib.hid hk
  have B0 := Lib.hid (Bel.refl w)
  clear hk
  have hl2 : decide (30 < L.length) = true := by simpa using hl
  go_enter Tryd.func8, Tryd.ntmps8
  go_wp2_with fail
  refine (known_ok _ HK.out).mono ?_
  rintro e w1 ⟨rfl, hb⟩
  have B1 := Lib.hid (B0.out.up hb)
  clear hb
  go_wp2_with fail
  refine (known_ok _ (HK.out.below B1.out)).mono ?_
  rintro e w2 ⟨rfl, hb⟩
  have B2 := Lib.hid (B1.out.up hb)
  clear hb
  go_wp2_with fail
  go_ret
  exact ⟨rfl, B2.out.out⟩
set_option maxRecDepth 100000 in
set_option maxHeartbeats 8000000 in
theorem shows_bad (f : Int) (L : List Nt) (ad : Option Addr) (cap : Nat) (w : World) (hl : L.length ≤ 30) (hE : (if Sg f then errL 0 L else 2) ≠ 0) (h : NtAt w ad L) (hk : KT w) :
    Calls Tryd.prog 8 #[.int .i64 f, .slice ad L.length cap] w fun e w' => e = .returned (.bool true) ∧ Below w.heap.size w w' := by
  have HK := Lib.hid hk
  have B0 := Lib.hid (Bel.refl w)
  clear hk
  have hl2 : decide (30 < L.length) = false := by simpa using hl
  have KC := Lib.hid (fun wz (hz : NtAt wz ad L) => checkR_ok f L ad cap wz hl hz)
  generalize (if Sg f then errL 0 L else 2) = E at *
  have hE2 : (E != 0) = true := by simpa using hE
  have hE3 : (E == 0) = false := by simpa using hE
  have HA := Lib.hid h
  clear h hE
  go_enter Tryd.func8, Tryd.ntmps8
  go_wp2_with fail
  refine (known_ok _ HK.out).mono ?_
  rintro e w1 ⟨rfl, hb⟩
  have B1 := Lib.hid (B0.out.up hb)
  clear hb
  go_wp2_with fail
  refine (KC.out _ (HA.out.up B1.out)).mono ?_
  rintro e w2 ⟨rfl, hb⟩
  have B2 := Lib.hid (B1.out.up hb)
  clear hb
  go_wp2_with fail
  refine (known_ok _ (HK.out.below B2.out)).mono ?_
  rintro e w3 ⟨rfl, hb⟩
  have B3 := Lib.hid (B2.out.up hb)
  clear hb
  go_wp2_with fail
  go_ret
  exact ⟨rfl, B3.out.out⟩
set_option maxRecDepth 100000 in
set_option maxHeartbeats 8000000 in
theorem shows_ok (f : Int) (L : List Nt) (ad : Option Addr) (cap : Nat) (w : World) (hl : L.length ≤ 30) (hf : Sg f) (hE : errL 0 L = 0) (h : NtAt w ad L) (hk : KT w) :
    Calls Tryd.prog 8 #[.int .i64 f, .slice ad L.length cap] w fun e w' => e = .returned (.bool true) ∧ Below w.heap.size w w' := by
  have HK := Lib.hid hk
  have B0 := Lib.hid (Bel.refl w)
  clear hk
  have hl2 : decide (30 < L.length) = false := by simpa using hl
  have KC := Lib.hid (fun wz (hz : NtAt wz ad L) => checkR_ok f L ad cap wz hl hz)
  rw [if_pos hf, hE] at KC
  have HG := Lib.hid (errL_good L 0 hE).2
  have HE := Lib.hid hE
  have HF := Lib.hid hf
  have HA := Lib.hid h
  clear h hE hf
  go_enter Tryd.func8, Tryd.ntmps8
  go_wp2_with fail
  refine (known_ok _ HK.out).mono ?_
  rintro e w1 ⟨rfl, hb⟩
  have B1 := Lib.hid (B0.out.up hb)
  clear hb
  go_wp2_with fail
  refine (KC.out _ (HA.out.up B1.out)).mono ?_
  rintro e w2 ⟨rfl, hb⟩
  have B2 := Lib.hid (B1.out.up hb)
  clear hb
  go_wp2_with fail
  refine (own_ok L ad cap _ hl (HA.out.up B2.out)).mono ?_
  rintro e w3 ⟨v, rfl, hO⟩
  obtain ⟨ad2, cap2, rfl, hA2⟩ := hO.at
  have A3 := Lib.hid hA2
  have B3 := Lib.hid (B2.out.up hO.bel)
  clear hO hA2
  go_wp2_with fail
  refine (Display_ok f L ad2 cap2 _ HF.out (by omega) HE.out A3.out (HK.out.below B3.out)).mono ?_
  rintro e w4 ⟨g, rfl, hm, hb⟩
  have B4 := Lib.hid (B3.out.up hb)
  have M4 := Lib.hid hm
  clear hm hb
  go_wp2_with fail
  go_loopg [7] L.length (fun gm i wr => ∃ (k : Nat), k ≤ L.length ∧ gm = L.length - k ∧ i = .int .i64 (k : Int) ∧ Hid (FilM wr g L.length (disM L f)) ∧ Hid (Bel w wr))
  case atStart => exact ⟨0, by omega, by omega, rfl, M4, B4⟩
  case round =>
    obtain ⟨k, hk, rfl, rfl, HM, HB⟩ := hrel
    clear M4 B4
    by_cases hlt : k < L.length
    · obtain ⟨n, hn⟩ : ∃ n, L[k]? = some n := ⟨_, List.getElem?_eq_getElem hlt⟩
      obtain ⟨b, off, rfl, hc6⟩ := (HA.out.up HB.out.out) k n hn
      obtain ⟨hp, ha0, ha1, hv0, hv1⟩ := HG.out.each n (List.mem_of_getElem? hn)
      have hd := disM_cases (f := f) hn ⟨hv0, hv1⟩
      obtain ⟨⟨m0, m1⟩, _, _⟩ := HM.out k hlt
      generalize disM L f k = D at hd m0 m1
      obtain ⟨K, Q⟩ := D
      clear hn hp
      rcases n with ⟨t, s, a, o, hh, v⟩
      obtain ⟨c0, c1, c2, c3, c4, c5⟩ := hc6
      simp only at c0 c1 c2 c3 c4 c5 ha0 ha1 hv0 hv1 hd m0 m1
      rcases hd with ⟨hD, rfl⟩ | ⟨rfl, ⟨rfl, rfl⟩ | rfl⟩
      · obtain ⟨rfl, rfl⟩ := Prod.mk.inj hD
        go_wp2_with fail
        try (go_quiet (fail); go_wp2_with fail)
        go_roundg (L.length - (k + 1))
        case measure => omega
        case rel => exact ⟨k + 1, by omega, rfl, by go_num, by first | exact HM | exact Lib.hid (HM.out.up (below_drewN (Below.refl _ _) _)), by first | exact HB | exact Lib.hid (Bel.drewN HB.out _)⟩
      · have e1 : (a + 3 == 0) = false := by simp; omega
        have e2 : (a + 3 != 0) = true := by simp; omega
        go_wp2_with fail
        try (go_quiet (fail); go_wp2_with fail)
        go_roundg (L.length - (k + 1))
        case measure => omega
        case rel => exact ⟨k + 1, by omega, rfl, by go_num, by first | exact HM | exact Lib.hid (HM.out.up (below_drewN (Below.refl _ _) _)), by first | exact HB | exact Lib.hid (Bel.drewN HB.out _)⟩
      · have e1 : (a + 3 == 0) = false := by simp; omega
        have e2 : (a + 3 != 0) = true := by simp; omega
        by_cases hv : v = 0
        · subst hv
          go_wp2_with fail
          try (go_quiet (fail); go_wp2_with fail)
          go_roundg (L.length - (k + 1))
          case measure => omega
          case rel => exact ⟨k + 1, by omega, rfl, by go_num, by first | exact HM | exact Lib.hid (HM.out.up (below_drewN (Below.refl _ _) _)), by first | exact HB | exact Lib.hid (Bel.drewN HB.out _)⟩
        · have e3 : (v != 0) = true := by simpa using hv
          clear hv
          go_wp2_with fail
          try (go_quiet (fail); go_wp2_with fail)
          go_roundg (L.length - (k + 1))
          case measure => omega
          case rel => exact ⟨k + 1, by omega, rfl, by go_num, by first | exact HM | exact Lib.hid (HM.out.up (below_drewN (Below.refl _ _) _)), by first | exact HB | exact Lib.hid (Bel.drewN HB.out _)⟩
    · obtain rfl : k = L.length := by omega
      go_wp2_with fail
      go_ret
      exact ⟨rfl, HB.out.out⟩
theorem law_AccidentalShows (f : Int) (L : List Nt) (ad : Option Addr) (cap : Nat) (w : World) (hc : L.length ≤ cap) (hm : cap ≤ maxLen) (h : NtAt w ad L) (hk : KT w) :
    Calls Tryd.prog 8 #[.int .i64 f, .slice ad L.length cap] w fun e w' => e = .returned (.bool true) ∧ Below w.heap.size w w' := by
  unfold maxLen at hm
  by_cases hl : 30 < L.length
  · exact shows_long f L ad cap w hl (by omega) hk
  · by_cases hE : (if Sg f then errL 0 L else 2) = 0
    · by_cases hf : Sg f
      · rw [if_pos hf] at hE
        exact shows_ok f L ad cap w (by omega) hf hE h hk
      · rw [if_neg hf] at hE
        exact absurd hE (by omega)
    · exact shows_bad f L ad cap w (by omega) hE h hk
end Go.Proofs.YtoapijgmchaaeaaDoor
