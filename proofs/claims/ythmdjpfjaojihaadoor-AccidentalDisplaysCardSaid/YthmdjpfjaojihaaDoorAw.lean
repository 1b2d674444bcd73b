/- Accidentals: law Displays. -/
import Derived.Test.YthmdjpfjaojihaaDoorAv
import Derived.Test.YthmdjpfjaojihaaDoorAq
namespace Go.Proofs.YthmdjpfjaojihaaDoor
open Go.RowKit
set_option linter.unusedVariables false
set_option linter.unusedSimpArgs false

set_option maxRecDepth 100000 in
set_option maxHeartbeats 2000000 in
theorem marks_ok (n g : Nat) (ad : Option Addr) (cap : Nat) (ms : Nat → Int × Bool) (w : World) (hn : n ≤ 30) (h1 : FilM w g n ms) (h2 : MkAt w ad n ms) :
    Calls Tryd.prog 15 #[.slice (some ⟨g, 0, none⟩) n n, .slice ad n cap] w fun e w' => e = .returned (.bool true) ∧ Below w.heap.size w w' := by
  have H1 := Lib.hid h1
  have H2 := Lib.hid h2
  have B0 := Lib.hid (Bel.refl w)
  clear h1 h2
  go_enter Tryd.func15, Tryd.ntmps15
  go_wp2_with fail
  go_loopg [5] n (fun gm i wr => ∃ (j : Nat), j ≤ n ∧ gm = n - j ∧ i = .int .i64 (j : Int) ∧ Hid (Bel w wr))
  case atStart => exact ⟨0, by omega, by omega, rfl, B0⟩
  case round =>
    obtain ⟨j, hj, rfl, rfl, HB⟩ := hrel
    clear B0
    by_cases hjk : j < n
    · obtain ⟨⟨m0, m1⟩, _, _⟩ := (H1.out.up HB.out.out) j hjk
      obtain ⟨b, rfl, p0, p1⟩ := (H2.out.up HB.out.out) j hjk
      generalize ms j = D at m0 m1 p0 p1
      obtain ⟨K, Q⟩ := D
      simp only at m0 m1 p0 p1
      go_wp2_with fail
      try (go_quiet (fail); go_wp2_with fail)
      try (go_quiet (fail); go_wp2_with fail)
      go_roundg (n - (j + 1))
      case measure => omega
      case rel => exact ⟨j + 1, by omega, rfl, by go_num, by first | exact HB | exact Lib.hid (Bel.drewN HB.out _)⟩
    · obtain rfl : j = n := by omega
      go_wp2_with fail
      go_ret
      exact ⟨rfl, HB.out.out⟩
set_option maxRecDepth 100000 in
set_option maxHeartbeats 8000000 in
theorem displays_long (f : Int) (L : List Nt) (ad : Option Addr) (cap : Nat) (w : World) (hl : 30 < L.length) (hm : L.length ≤ 9223372036854775807) (hk : KT w) :
    Calls Tryd.prog 3 #[.int .i64 f, .slice ad L.length cap] w fun e w' => e = .returned (.bool true) ∧ Below w.heap.size w w' := by
  have HK := Lib.hid hk
  have B0 := Lib.hid (Bel.refl w)
  clear hk
  have hl2 : decide (30 < L.length) = true := by simpa using hl
  go_enter Tryd.func3, Tryd.ntmps3
  go_wp2_with fail
  refine (known_ok _ HK.out).mono ?_
  rintro e w1 ⟨rfl, hb⟩
  have B1 := Lib.hid (B0.out.up hb)
  clear hb
  go_wp2_with fail
  refine (known_ok _ (HK.out.below B1.out)).mono ?_
  rintro e w2 ⟨rfl, hb⟩
  have B2 := Lib.hid (B1.out.up hb)
  clear hb
  go_wp2_with fail
  go_ret
  exact ⟨rfl, B2.out.out⟩
set_option maxRecDepth 100000 in
set_option maxHeartbeats 8000000 in
theorem displays_bad (f : Int) (L : List Nt) (ad : Option Addr) (cap : Nat) (w : World) (hl : L.length ≤ 30) (hE : (if Sg f then errL 0 L else 2) ≠ 0) (h : NtAt w ad L) (hk : KT w) :
    Calls Tryd.prog 3 #[.int .i64 f, .slice ad L.length cap] w fun e w' => e = .returned (.bool true) ∧ Below w.heap.size w w' := by
  have HK := Lib.hid hk
  have B0 := Lib.hid (Bel.refl w)
  clear hk
  have hl2 : decide (30 < L.length) = false := by simpa using hl
  have KC := Lib.hid (fun wz (hz : NtAt wz ad L) => checkR_ok f L ad cap wz hl hz)
  have KD := Lib.hid (fun ad2 cap2 wz (hz : NtAt wz ad2 L) (hkk : KT wz) => Display_bad f _ L ad2 cap2 wz (by omega) rfl hE hz hkk)
  generalize (if Sg f then errL 0 L else 2) = E at *
  have hE2 : (E != 0) = true := by simpa using hE
  have hE3 : (E == 0) = false := by simpa using hE
  have HA := Lib.hid h
  clear h hE
  go_enter Tryd.func3, Tryd.ntmps3
  go_wp2_with fail
  refine (known_ok _ HK.out).mono ?_
  rintro e w1 ⟨rfl, hb⟩
  have B1 := Lib.hid (B0.out.up hb)
  clear hb
  go_wp2_with fail
  refine (own_ok L ad cap _ hl (HA.out.up B1.out)).mono ?_
  rintro e w2 ⟨v, rfl, hO⟩
  obtain ⟨ad2, cap2, rfl, hA2⟩ := hO.at
  have A2 := Lib.hid hA2
  have B2 := Lib.hid (B1.out.up hO.bel)
  clear hO hA2
  go_wp2_with fail
  refine (KD.out _ _ _ A2.out (HK.out.below B2.out)).mono ?_
  rintro e w3 ⟨rfl, hb⟩
  have B3 := Lib.hid (B2.out.up hb)
  clear hb
  go_wp2_with fail
  refine (KC.out _ (HA.out.up B3.out)).mono ?_
  rintro e w4 ⟨rfl, hb⟩
  have B4 := Lib.hid (B3.out.up hb)
  clear hb
  go_wp2_with fail
  try (go_quiet (fail); go_wp2_with fail)
  go_ret
  exact ⟨by first | rfl | (simp; done), by first | exact B4.out.out | exact below_drewN B4.out.out _⟩
set_option maxRecDepth 100000 in
set_option maxHeartbeats 8000000 in
theorem displays_ok (f : Int) (L : List Nt) (ad : Option Addr) (cap : Nat) (w : World) (hl : L.length ≤ 30) (hf : Sg f) (hE : errL 0 L = 0) (h : NtAt w ad L) (hk : KT w) :
    Calls Tryd.prog 3 #[.int .i64 f, .slice ad L.length cap] w fun e w' => e = .returned (.bool true) ∧ Below w.heap.size w w' := by
  have HK := Lib.hid hk
  have B0 := Lib.hid (Bel.refl w)
  clear hk
  have hl2 : decide (30 < L.length) = false := by simpa using hl
  have KC := Lib.hid (fun wz (hz : NtAt wz ad L) => checkR_ok f L ad cap wz hl hz)
  rw [if_pos hf, hE] at KC
  have HG := Lib.hid (errL_good L 0 hE).2
  have HE := Lib.hid hE
  have HF := Lib.hid hf
  have HA := Lib.hid h
  clear h hE hf
  go_enter Tryd.func3, Tryd.ntmps3
  go_wp2_with fail
  refine (known_ok _ HK.out).mono ?_
  rintro e w1 ⟨rfl, hb⟩
  have B1 := Lib.hid (B0.out.up hb)
  clear hb
  go_wp2_with fail
  refine (own_ok L ad cap _ hl (HA.out.up B1.out)).mono ?_
  rintro e w2 ⟨v, rfl, hO⟩
  obtain ⟨ad2, cap2, rfl, hA2⟩ := hO.at
  have A2 := Lib.hid hA2
  have B2 := Lib.hid (B1.out.up hO.bel)
  clear hO hA2
  go_wp2_with fail
  refine (Display_ok f L ad2 cap2 _ HF.out (by omega) HE.out A2.out (HK.out.below B2.out)).mono ?_
  rintro e w3 ⟨g, rfl, hm, hb⟩
  have B3 := Lib.hid (B2.out.up hb)
  have M3 := Lib.hid hm
  clear hm hb
  go_wp2_with fail
  refine (KC.out _ (HA.out.up B3.out)).mono ?_
  rintro e w4 ⟨rfl, hb⟩
  have B4 := Lib.hid (B3.out.up hb)
  have M4 := Lib.hid (M3.out.up hb)
  clear hb
  go_wp2_with fail
  refine (dispR_ok f L ad cap _ HF.out hl HG.out (HA.out.up B4.out)).mono ?_
  rintro e w5 ⟨ad5, cap5, g5, cap6, rfl, hk5, hf5, hb⟩
  have B5 := Lib.hid (B4.out.up hb)
  have M5 := Lib.hid (M4.out.up hb)
  have K5 := Lib.hid hk5
  clear hb hk5 hf5
  go_wp2_with fail
  refine (marks_ok L.length g ad5 cap5 (disM L f) _ hl M5.out K5.out).mono ?_
  rintro e w6 ⟨rfl, hb⟩
  have B6 := Lib.hid (B5.out.up hb)
  clear hb
  go_wp2_with fail
  go_ret
  exact ⟨by first | rfl | (simp; done), B6.out.out⟩
theorem law_AccidentalDisplays (f : Int) (L : List Nt) (ad : Option Addr) (cap : Nat) (w : World) (hc : L.length ≤ cap) (hm : cap ≤ maxLen) (h : NtAt w ad L) (hk : KT w) :
    Calls Tryd.prog 3 #[.int .i64 f, .slice ad L.length cap] w fun e w' => e = .returned (.bool true) ∧ Below w.heap.size w w' := by
  unfold maxLen at hm
  by_cases hl : 30 < L.length
  · exact displays_long f L ad cap w hl (by omega) hk
  · by_cases hE : (if Sg f then errL 0 L else 2) = 0
    · by_cases hf : Sg f
      · rw [if_pos hf] at hE
        exact displays_ok f L ad cap w (by omega) hf hE h hk
      · rw [if_neg hf] at hE
        exact absurd hE (by omega)
    · exact displays_bad f L ad cap w (by omega) hE h hk
end Go.Proofs.YthmdjpfjaojihaaDoor
