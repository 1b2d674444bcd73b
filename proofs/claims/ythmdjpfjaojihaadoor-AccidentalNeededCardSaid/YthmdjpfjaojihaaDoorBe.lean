/- Accidentals: law Needed. -/
import Derived.Test.YthmdjpfjaojihaaDoorBc
namespace Go.Proofs.YthmdjpfjaojihaaDoor
open Go.RowKit
set_option linter.unusedVariables false
set_option linter.unusedSimpArgs false

theorem needed_read {L : List Nt} {f : Int} (hg : ∀ n ∈ L, -2 ≤ n.a) {k : Nat} {n : Nt} (h : L[k]? = some n) (hh : n.h = false) (hv : n.v = 0) (hc : conB L k = false) (hk : (disM L f k).1 ≠ 0) :
    rdA (PLs L (fun j => if j = k then (0, false) else disM L f j)) f k ≠ n.a := by
  rw [rdA_at (PLs_at h), read_disF (K := k) hg (fun j hj => if_neg (by omega)) k (Nat.le_refl _)]
  rw [disM_at h, hc] at hk
  generalize disF L f k = fr at *
  rw [if_pos rfl]
  have hpx : pxP (plOf n (0, false)) = pxN n := rfl
  unfold altP
  rw [hpx]
  simp only [plOf, if_true, hh]
  unfold markM needB at hk
  rw [hh, hv] at hk
  simp at hk
  intro e
  simp at e
  have e3 := e.symm
  simp [e3] at hk
set_option maxRecDepth 100000 in
set_option maxHeartbeats 8000000 in
theorem needed_long (f : Int) (L : List Nt) (ad : Option Addr) (cap : Nat) (z : Int) (w : World) (z0 : 0 ≤ z) (z1 : z ≤ 255) (hl : 30 < L.length) (hm : L.length ≤ 9223372036854775807) (hk : KT w) :
    Calls Tryd.prog 6 #[.int .i64 f, .slice ad L.length cap, .int .u8 z] w fun e w' => e = .returned (.bool true) ∧ Below w.heap.size w w' := by
  have HK := Lib.hid hk
  have B0 := Lib.hid (Bel.refl w)
  clear hk
  have hl2 : decide (30 < L.length) = true := by simpa using hl
  go_enter Tryd.func6, Tryd.ntmps6
  go_wp2_with fail
  refine (known_ok _ HK.out).mono ?_
  rintro e w1 ⟨rfl, hb⟩
  have B1 := Lib.hid (B0.out.up hb)
  clear hb
  go_wp2_with fail
  refine (known_ok _ (HK.out.below B1.out)).mono ?_
  rintro e w2 ⟨rfl, hb⟩
  have B2 := Lib.hid (B1.out.up hb)
  clear hb
  go_wp2_with fail
  go_ret
  exact ⟨rfl, B2.out.out⟩
set_option maxRecDepth 100000 in
set_option maxHeartbeats 8000000 in
theorem needed_nil (f : Int) (L : List Nt) (ad : Option Addr) (cap : Nat) (z : Int) (w : World) (z0 : 0 ≤ z) (z1 : z ≤ 255) (hl : L.length = 0) (hk : KT w) :
    Calls Tryd.prog 6 #[.int .i64 f, .slice ad L.length cap, .int .u8 z] w fun e w' => e = .returned (.bool true) ∧ Below w.heap.size w w' := by
  have HK := Lib.hid hk
  have B0 := Lib.hid (Bel.refl w)
  clear hk
  have HLL := Lib.hid hl
  have hl2 : decide (30 < L.length) = false := by simp; omega
  have hl3 : ((L.length : Int) == 0) = true := by rw [beq_iff_eq]; omega
  have hl4 : L.length ≤ 30 := by omega
  clear hl
  go_enter Tryd.func6, Tryd.ntmps6
  go_wp2_with fail
  refine (known_ok _ HK.out).mono ?_
  rintro e w1 ⟨rfl, hb⟩
  have B1 := Lib.hid (B0.out.up hb)
  clear hb
  go_wp2_with fail
  refine (known_ok _ (HK.out.below B1.out)).mono ?_
  rintro e w2 ⟨rfl, hb⟩
  have B2 := Lib.hid (B1.out.up hb)
  clear hb
  go_wp2_with fail
  go_ret
  exact ⟨rfl, B2.out.out⟩
set_option maxRecDepth 100000 in
set_option maxHeartbeats 8000000 in
theorem needed_bad (f : Int) (L : List Nt) (ad : Option Addr) (cap : Nat) (z : Int) (w : World) (z0 : 0 ≤ z) (z1 : z ≤ 255) (hl : L.length ≤ 30) (hlp : 0 < L.length) (hE : (if Sg f then errL 0 L else 2) ≠ 0) (h : NtAt w ad L) (hk : KT w) :
    Calls Tryd.prog 6 #[.int .i64 f, .slice ad L.length cap, .int .u8 z] w fun e w' => e = .returned (.bool true) ∧ Below w.heap.size w w' := by
  have HK := Lib.hid hk
  have B0 := Lib.hid (Bel.refl w)
  clear hk
  have hl2 : decide (30 < L.length) = false := by simpa using hl
  have hl3 : ((L.length : Int) == 0) = false := by rw [beq_eq_false_iff_ne]; omega
  have KC := Lib.hid (fun wz (hz : NtAt wz ad L) => checkR_ok f L ad cap wz hl hz)
  generalize (if Sg f then errL 0 L else 2) = E at *
  have hE2 : (E != 0) = true := by simpa using hE
  have hE3 : (E == 0) = false := by simpa using hE
  have HA := Lib.hid h
  clear h hE
  go_enter Tryd.func6, Tryd.ntmps6
  go_wp2_with fail
  refine (known_ok _ HK.out).mono ?_
  rintro e w1 ⟨rfl, hb⟩
  have B1 := Lib.hid (B0.out.up hb)
  clear hb
  go_wp2_with fail
  refine (KC.out _ (HA.out.up B1.out)).mono ?_
  rintro e w2 ⟨rfl, hb⟩
  have B2 := Lib.hid (B1.out.up hb)
  clear hb
  go_wp2_with fail
  refine (known_ok _ (HK.out.below B2.out)).mono ?_
  rintro e w3 ⟨rfl, hb⟩
  have B3 := Lib.hid (B2.out.up hb)
  clear hb
  go_wp2_with fail
  go_ret
  exact ⟨rfl, B3.out.out⟩
set_option maxRecDepth 100000 in
set_option maxHeartbeats 8000000 in
theorem needed_ok (f : Int) (L : List Nt) (ad : Option Addr) (cap : Nat) (z : Int) (w : World) (z0 : 0 ≤ z) (z1 : z ≤ 255) (hl : L.length ≤ 30) (hlp : 0 < L.length) (hf : Sg f) (hE : errL 0 L = 0) (h : NtAt w ad L) (hk : KT w) :
    Calls Tryd.prog 6 #[.int .i64 f, .slice ad L.length cap, .int .u8 z] w fun e w' => e = .returned (.bool true) ∧ Below w.heap.size w w' := by
  have HK := Lib.hid hk
  have B0 := Lib.hid (Bel.refl w)
  clear hk
  have hl2 : decide (30 < L.length) = false := by simpa using hl
  have KC := Lib.hid (fun wz (hz : NtAt wz ad L) => checkR_ok f L ad cap wz hl hz)
  rw [if_pos hf, hE] at KC
  have HG := Lib.hid (errL_good L 0 hE).2
  have HE := Lib.hid hE
  have HF := Lib.hid hf
  have HA := Lib.hid h
  have hl3 : ((L.length : Int) == 0) = false := by rw [beq_eq_false_iff_ne]; omega
  have hl5 : ¬ ((L.length : Int) = 0) := by omega
  obtain ⟨k, hk⟩ : ∃ k : Nat, z % (L.length : Int) = (k : Int) := ⟨(z % (L.length : Int)).toNat, by have := Int.emod_nonneg z hl5; omega⟩
  have hkl : k < L.length := by have := Int.emod_lt_of_pos z (show 0 < (L.length : Int) by omega); omega
  obtain ⟨n, hn⟩ : ∃ n, L[k]? = some n := ⟨_, List.getElem?_eq_getElem hkl⟩
  obtain ⟨ms, hms⟩ : ∃ ms : Nat → Int × Bool, (fun j => if j = k then (0, false) else disM L f j) = ms := ⟨_, rfl⟩
  have KN := Lib.hid (fun hh hv hc hkk => needed_read (f := f) (fun m hm => ((errL_good L 0 hE).2.each m hm).2.1) hn hh hv hc hkk)
  have KRE := Lib.hid (PLs_err (ms := ms) hE (fun j m hm => by
    rw [← hms]
    simp only
    split
    · simp
    · exact disM_kind hm ((errL_good L 0 hE).2.each m (List.mem_of_getElem? hm)).2.1 ((errL_good L 0 hE).2.each m (List.mem_of_getElem? hm)).2.2.1))
  have KRL := Lib.hid (PLs_len L ms)
  have KR := fun ad3 cap3 wz (hz : PlAt wz ad3 (PLs L ms)) (hkk : KT wz) => Read_ok f (PLs L ms) ad3 cap3 wz hf (by rw [KRL.out]; omega) KRE.out hz hkk
  rw [KRL.out] at KR
  rw [hms] at KN
  have KR := Lib.hid KR
  have HMS := Lib.hid hms
  have HN := Lib.hid hn
  have hk0 : (0 : Int) ≤ (k : Int) := by omega
  have hk1 : (k : Int) < (L.length : Int) := by omega
  clear h hE hf hn hms
  go_enter Tryd.func6, Tryd.ntmps6
  go_wp2_with fail
  refine (known_ok _ HK.out).mono ?_
  rintro e w1 ⟨rfl, hb⟩
  have B1 := Lib.hid (B0.out.up hb)
  clear hb
  go_wp2_with fail
  refine (KC.out _ (HA.out.up B1.out)).mono ?_
  rintro e w2 ⟨rfl, hb⟩
  have B2 := Lib.hid (B1.out.up hb)
  clear hb
  go_wp2_with fail
  refine (own_ok L ad cap _ hl (HA.out.up B2.out)).mono ?_
  rintro e w3 ⟨v, rfl, hO⟩
  obtain ⟨ad2, cap2, rfl, hA2⟩ := hO.at
  have A3 := Lib.hid hA2
  have B3 := Lib.hid (B2.out.up hO.bel)
  clear hO hA2
  go_wp2_with fail
  have HKK := Lib.hid hk
  clear hk
  refine (Display_new f L ad2 cap2 _ HF.out (by omega) HE.out A3.out (HK.out.below B3.out)).mono ?_
  rintro e w4 ⟨g, rfl, hm, hnew, hb⟩
  have hgw : w.heap.size ≤ g := Nat.le_trans B3.out.size hnew
  have B4 := Lib.hid (B3.out.up hb)
  have M4 := Lib.hid hm
  clear hm hb hnew
  obtain ⟨b, off, rfl, hc6⟩ := (HA.out.up B4.out) k n HN.out
  have C4 := Lib.hid hc6
  obtain ⟨⟨m0, m1⟩, f0, f1⟩ := M4.out k hkl
  obtain ⟨D, hD⟩ : ∃ D, disM L f k = D := ⟨_, rfl⟩
  rw [hD] at m0 m1 KN
  obtain ⟨DK, DQ⟩ := D
  have HDD := Lib.hid hD
  clear hD hc6
  rcases n with ⟨t, s, a, o, hh, v⟩
  obtain ⟨c0, c1, c2, c3, c4, c5⟩ := id C4.out
  simp only at c0 c1 c2 c3 c4 c5 m0 m1 KN
  by_cases hDK : DK = 0
  · have hd1 : (DK == 0) = true := by simpa using hDK
    clear hDK
    go_wp2_with fail
    try (go_quiet (fail); go_wp2_with fail)
    go_ret
    exact ⟨rfl, by first | exact B4.out.out | exact below_drewN B4.out.out _⟩
  · have hd1 : (DK == 0) = false := by simpa using hDK
    have HDK := Lib.hid hDK
    clear hDK
    cases hh
    · by_cases hv : v = 0
      · have hv1 : (v != 0) = false := by simpa using hv
        have HV := Lib.hid hv
        clear hv
        obtain ⟨C, hC⟩ : ∃ C, conB L k = C := ⟨_, rfl⟩
        have KCL := fun wz (hz : NtAt wz (some ⟨b, off, none⟩) L) => clashR_ok L (some ⟨b, off, none⟩) cap k wz hl hkl hz
        rw [hC] at KCL KN
        have KCL := Lib.hid KCL
        clear hC
        go_wp2_with fail
        refine (KCL.out _ (HA.out.up B4.out)).mono ?_
        rintro e w5 ⟨rfl, hb⟩
        have B5 := Lib.hid (B4.out.up hb)
        have M5 := Lib.hid (M4.out.up hb)
        have C5 := Lib.hid (C4.out.up hb)
        clear hb m0 m1 f0 f1 c0 c1 c2 c3 c4 c5
        cases C
        · have KX := Lib.hid (KN.out (by trivial) HV.out (by trivial) HDK.out)
          obtain ⟨⟨m0, m1⟩, f0, f1⟩ := M5.out k hkl
          rw [HDD.out] at m0 m1
          simp only at m0 m1
          have hgs : g < w5.heap.size := lt_of_cell m0
          have M6 := Lib.hid ((M5.out.set k hkl 0 false).eq (us := ms) (fun j _ => by rw [← HMS.out]))
          have B6 := Lib.hid ((B5.out.set (b := g) hgw (k * 2) (.int .i64 0)).set (b := g) hgw (k * 2 + 1) (.bool false))
          go_wp2_with fail
          refine (places_ok L ms (some ⟨b, off, none⟩) cap g _ hl (HA.out.up B6.out) M6.out).mono ?_
          rintro e w7 ⟨v7, rfl, hO⟩
          obtain ⟨ad7, cap7, hv7, hA7⟩ := hO.at
          rw [KRL.out] at hv7
          subst hv7
          have A7 := Lib.hid hA7
          have B7' := Lib.hid (B6.out.up hO.bel)
          clear hO hA7
          go_wp2_with fail
          refine (KR.out _ _ _ A7.out (HK.out.below B7'.out)).mono ?_
          rintro e w8 ⟨g8, rfl, hr, hb⟩
          have B8 := Lib.hid (B7'.out.up hb)
          obtain ⟨r0, _⟩ := hr k hkl
          obtain ⟨b', off', hbo, hc6⟩ := (HA.out.up B8.out) k _ HN.out
          cases hbo
          have c2 := hc6.c2
          simp only at c2
          have hne : (rdA (PLs L ms) f k != a) = true := by simpa using KX.out
          generalize rdA (PLs L ms) f k = X at hne r0
          clear hb hr hc6
          go_wp2_with fail
          try (go_quiet (fail); go_wp2_with fail)
          go_ret
          exact ⟨by first | rfl | (simp; done), by first | exact B8.out.out | exact below_drewN B8.out.out _⟩
        · go_wp2_with fail
          go_ret
          exact ⟨rfl, B5.out.out⟩
      · have hv1 : (v != 0) = true := by simpa using hv
        clear hv
        go_wp2_with fail
        try (go_quiet (fail); go_wp2_with fail)
        go_ret
        exact ⟨rfl, by first | exact B4.out.out | exact below_drewN B4.out.out _⟩
    · go_wp2_with fail
      try (go_quiet (fail); go_wp2_with fail)
      go_ret
      exact ⟨rfl, by first | exact B4.out.out | exact below_drewN B4.out.out _⟩
theorem law_AccidentalNeeded (f : Int) (L : List Nt) (ad : Option Addr) (cap : Nat) (z : Int) (w : World) (z0 : 0 ≤ z) (z1 : z ≤ 255) (hc : L.length ≤ cap) (hm : cap ≤ maxLen) (h : NtAt w ad L) (hk : KT w) :
    Calls Tryd.prog 6 #[.int .i64 f, .slice ad L.length cap, .int .u8 z] w fun e w' => e = .returned (.bool true) ∧ Below w.heap.size w w' := by
  unfold maxLen at hm
  by_cases hl : 30 < L.length
  · exact needed_long f L ad cap z w z0 z1 hl (by omega) hk
  · by_cases hl0 : L.length = 0
    · exact needed_nil f L ad cap z w z0 z1 hl0 hk
    · by_cases hE : (if Sg f then errL 0 L else 2) = 0
      · by_cases hf : Sg f
        · rw [if_pos hf] at hE
          exact needed_ok f L ad cap z w z0 z1 (by omega) (by omega) hf hE h hk
        · rw [if_neg hf] at hE
          exact absurd hE (by omega)
      · exact needed_bad f L ad cap z w z0 z1 (by omega) (by omega) hE h hk
end Go.Proofs.YthmdjpfjaojihaaDoor
