/- Accidentals: law RoundTrip. -/
import Derived.Test.YthmdjpfjaojihaaDoorBc
namespace Go.Proofs.YthmdjpfjaojihaaDoor
open Go.RowKit
set_option linter.unusedVariables false
set_option linter.unusedSimpArgs false

set_option maxRecDepth 100000 in
set_option maxHeartbeats 8000000 in
theorem roundTrip_long (f : Int) (L : List Nt) (ad : Option Addr) (cap : Nat) (w : World) (hl : 30 < L.length) (hm : L.length ≤ 9223372036854775807) (hk : KT w) :
    Calls Tryd.prog 5 #[.int .i64 f, .slice ad L.length cap] w fun e w' => e = .returned (.bool true) ∧ Below w.heap.size w w' := by
  have HK := Lib.hid hk
  have B0 := Lib.hid (Bel.refl w)
  clear hk
  have hl2 : decide (30 < L.length) = true := by simpa using hl
  go_enter Tryd.func5, Tryd.ntmps5
  go_wp2_with fail
  refine (known_ok _ HK.out).mono ?_
  rintro e w1 ⟨rfl, hb⟩
  have B1 := Lib.hid (B0.out.up hb)
  clear hb
  go_wp2_with fail
  refine (known_ok _ (HK.out.below B1.out)).mono ?_
  rintro e w2 ⟨rfl, hb⟩
  have B2 := Lib.hid (B1.out.up hb)
  clear hb
  go_wp2_with fail
  go_ret
  exact ⟨rfl, B2.out.out⟩
set_option maxRecDepth 100000 in
set_option maxHeartbeats 8000000 in
theorem roundTrip_bad (f : Int) (L : List Nt) (ad : Option Addr) (cap : Nat) (w : World) (hl : L.length ≤ 30) (hE : (if Sg f then errL 0 L else 2) ≠ 0) (h : NtAt w ad L) (hk : KT w) :
    Calls Tryd.prog 5 #[.int .i64 f, .slice ad L.length cap] w fun e w' => e = .returned (.bool true) ∧ Below w.heap.size w w' := by
  have HK := Lib.hid hk
  have B0 := Lib.hid (Bel.refl w)
  clear hk
  have hl2 : decide (30 < L.length) = false := by simpa using hl
  have KC := Lib.hid (fun wz (hz : NtAt wz ad L) => checkR_ok f L ad cap wz hl hz)
  generalize (if Sg f then errL 0 L else 2) = E at *
  have hE2 : (E != 0) = true := by simpa using hE
  have hE3 : (E == 0) = false := by simpa using hE
  have HA := Lib.hid h
  clear h hE
  go_enter Tryd.func5, Tryd.ntmps5
  go_wp2_with fail
  refine (known_ok _ HK.out).mono ?_
  rintro e w1 ⟨rfl, hb⟩
  have B1 := Lib.hid (B0.out.up hb)
  clear hb
  go_wp2_with fail
  refine (KC.out _ (HA.out.up B1.out)).mono ?_
  rintro e w2 ⟨rfl, hb⟩
  have B2 := Lib.hid (B1.out.up hb)
  clear hb
  go_wp2_with fail
  refine (known_ok _ (HK.out.below B2.out)).mono ?_
  rintro e w3 ⟨rfl, hb⟩
  have B3 := Lib.hid (B2.out.up hb)
  clear hb
  go_wp2_with fail
  go_ret
  exact ⟨rfl, B3.out.out⟩
set_option maxRecDepth 100000 in
set_option maxHeartbeats 8000000 in
theorem roundTrip_ok (f : Int) (L : List Nt) (ad : Option Addr) (cap : Nat) (w : World) (hl : L.length ≤ 30) (hf : Sg f) (hE : errL 0 L = 0) (h : NtAt w ad L) (hk : KT w) :
    Calls Tryd.prog 5 #[.int .i64 f, .slice ad L.length cap] w fun e w' => e = .returned (.bool true) ∧ Below w.heap.size w w' := by
  have HK := Lib.hid hk
  have B0 := Lib.hid (Bel.refl w)
  clear hk
  have hl2 : decide (30 < L.length) = false := by simpa using hl
  have KC := Lib.hid (fun wz (hz : NtAt wz ad L) => checkR_ok f L ad cap wz hl hz)
  rw [if_pos hf, hE] at KC
  have HG := Lib.hid (errL_good L 0 hE).2
  have HE := Lib.hid hE
  have HF := Lib.hid hf
  have HA := Lib.hid h
  have KRE := Lib.hid (PLs_err (ms := disM L f) hE (fun k n hn => disM_kind hn ((errL_good L 0 hE).2.each n (List.mem_of_getElem? hn)).2.1 ((errL_good L 0 hE).2.each n (List.mem_of_getElem? hn)).2.2.1))
  have KRB := Lib.hid (show ∀ k n, L[k]? = some n → rdA (PLs L (disM L f)) f k = n.a from fun k n hn => read_back (fun m hm => ((errL_good L 0 hE).2.each m hm).2.1) hn)
  have KRL := Lib.hid (PLs_len L (disM L f))
  have KR := fun ad3 cap3 wz (hz : PlAt wz ad3 (PLs L (disM L f))) (hkk : KT wz) => Read_ok f (PLs L (disM L f)) ad3 cap3 wz hf (by rw [KRL.out]; omega) KRE.out hz hkk
  rw [KRL.out] at KR
  have KR := Lib.hid KR
  clear h hE hf
  go_enter Tryd.func5, Tryd.ntmps5
  go_wp2_with fail
  refine (known_ok _ HK.out).mono ?_
  rintro e w1 ⟨rfl, hb⟩
  have B1 := Lib.hid (B0.out.up hb)
  clear hb
  go_wp2_with fail
  refine (KC.out _ (HA.out.up B1.out)).mono ?_
  rintro e w2 ⟨rfl, hb⟩
  have B2 := Lib.hid (B1.out.up hb)
  clear hb
  go_wp2_with fail
  refine (own_ok L ad cap _ hl (HA.out.up B2.out)).mono ?_
  rintro e w3 ⟨v, rfl, hO⟩
  obtain ⟨ad2, cap2, rfl, hA2⟩ := hO.at
  have A3 := Lib.hid hA2
  have B3 := Lib.hid (B2.out.up hO.bel)
  clear hO hA2
  go_wp2_with fail
  refine (Display_ok f L ad2 cap2 _ HF.out (by omega) HE.out A3.out (HK.out.below B3.out)).mono ?_
  rintro e w4 ⟨g, rfl, hm, hb⟩
  have B4 := Lib.hid (B3.out.up hb)
  have M4 := Lib.hid hm
  clear hm hb
  go_wp2_with fail
  refine (places_ok L (disM L f) ad cap g _ hl (HA.out.up B4.out) M4.out).mono ?_
  rintro e w5 ⟨v5, rfl, hO⟩
  obtain ⟨ad5, cap5, hv5, hA5⟩ := hO.at
  rw [KRL.out] at hv5
  subst hv5
  have A5 := Lib.hid hA5
  have B5 := Lib.hid (B4.out.up hO.bel)
  clear hO hA5
  go_wp2_with fail
  refine (KR.out _ _ _ A5.out (HK.out.below B5.out)).mono ?_
  rintro e w6 ⟨g6, rfl, hr, hb⟩
  have B6 := Lib.hid (B5.out.up hb)
  have R6 := Lib.hid hr
  clear hr hb
  go_wp2_with fail
  go_loopg [9] L.length (fun gm i wr => ∃ (j : Nat), j ≤ L.length ∧ gm = L.length - j ∧ i = .int .i64 (j : Int) ∧ Hid (Fil wr g6 L.length (rdA (PLs L (disM L f)) f)) ∧ Hid (Bel w wr))
  case atStart => exact ⟨0, by omega, by omega, rfl, R6, B6⟩
  case round =>
    obtain ⟨j, hj, rfl, rfl, HR, HB⟩ := hrel
    clear R6 B6
    by_cases hjk : j < L.length
    · obtain ⟨n, hn⟩ : ∃ n, L[j]? = some n := ⟨_, List.getElem?_eq_getElem hjk⟩
      obtain ⟨b, off, rfl, hc6⟩ := (HA.out.up HB.out.out) j n hn
      obtain ⟨m0, _⟩ := HR.out j hjk
      rw [KRB.out j n hn] at m0
      have c2 := hc6.c2
      generalize n.a = A at m0 c2
      clear hn hc6
      go_wp2_with fail
      try (go_quiet (fail); go_wp2_with fail)
      go_roundg (L.length - (j + 1))
      case measure => omega
      case rel => exact ⟨j + 1, by omega, rfl, by go_num, by first | exact HR | exact Lib.hid (HR.out.up (below_drewN (Below.refl _ _) _)), by first | exact HB | exact Lib.hid (Bel.drewN HB.out _)⟩
    · obtain rfl : j = L.length := by omega
      go_wp2_with fail
      go_ret
      exact ⟨rfl, HB.out.out⟩
theorem law_AccidentalRoundTrip (f : Int) (L : List Nt) (ad : Option Addr) (cap : Nat) (w : World) (hc : L.length ≤ cap) (hm : cap ≤ maxLen) (h : NtAt w ad L) (hk : KT w) :
    Calls Tryd.prog 5 #[.int .i64 f, .slice ad L.length cap] w fun e w' => e = .returned (.bool true) ∧ Below w.heap.size w w' := by
  unfold maxLen at hm
  by_cases hl : 30 < L.length
  · exact roundTrip_long f L ad cap w hl (by omega) hk
  · by_cases hE : (if Sg f then errL 0 L else 2) = 0
    · by_cases hf : Sg f
      · rw [if_pos hf] at hE
        exact roundTrip_ok f L ad cap w (by omega) hf hE h hk
      · rw [if_neg hf] at hE
        exact absurd hE (by omega)
    · exact roundTrip_bad f L ad cap w (by omega) hE h hk
end Go.Proofs.YthmdjpfjaojihaaDoor
