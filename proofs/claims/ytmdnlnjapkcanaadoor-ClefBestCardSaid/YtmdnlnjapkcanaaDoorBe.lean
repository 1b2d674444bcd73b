/- Clefs: law ClefBest. -/
import Derived.Test.YtmdnlnjapkcanaaDoorBd
import Derived.Deep.RegionWith
import Derived.Deep.DeepCutAuto
namespace Go.Proofs.YtmdnlnjapkcanaaDoor
open Go.RowKit
set_option linter.unusedVariables false
set_option linter.unusedSimpArgs false

theorem IntAt.take {w : World} {ad : Option Addr} {zs : List Int} (h : IntAt w ad zs) (n : Nat) : IntAt w ad (zs.take n) := fun k x hx => by
  rw [List.getElem?_take] at hx
  split at hx
  · exact h k x hx
  · cases hx
theorem PitAt.take {w : World} {ad : Option Addr} {L : List (Int × Int × Int)} (h : PitAt w ad L) (n : Nat) : PitAt w ad (L.take n) := fun k x hx => by
  rw [List.getElem?_take] at hx
  split at hx
  · exact h k x hx
  · cases hx
theorem best_all (zs : List Int) (L : List (Int × Int × Int)) (a1 a2 : Option Addr) (hz : zs.length ≤ 9) (hl : L.length ≤ 20) : ∃ R E : Int,
    (∀ (w : World) (c1 c2 : Nat), CW w → IntAt w a1 zs → PitAt w a2 L → Calls Tryd.prog 27 #[.slice a1 zs.length c1, .slice a2 L.length c2] w fun e w' => e = .returned (.tuple #[.int .i64 R, .int .i64 E]) ∧ Below w.heap.size w w') ∧
    (∀ (w : World) (c1 c2 : Nat), CW w → IntAt w a1 zs → PitAt w a2 L → Calls Tryd.prog 28 #[.slice a1 zs.length c1, .slice a2 L.length c2] w fun e w' => e = .returned (.tuple #[.int .i64 R, .int .i64 E]) ∧ Below w.heap.size w w') := by
  obtain ⟨E, hE⟩ := ev_some zs L
  by_cases h0 : E = 0
  · subst h0
    have hn : zs ≠ [] := fun h => by have := hE.e0 h; omega
    have hcl : ∀ z ∈ zs, Cl z := fun z hz => by
      by_cases h : Cl z
      · exact h
      · have := hE.e1 hn ⟨z, hz, h⟩; omega
    have hpi : ∀ q ∈ L, Pit q.1 q.2.1 q.2.2 := fun q hq => by
      by_cases h : Pit q.1 q.2.1 q.2.2
      · exact h
      · have := hE.e2 hn hcl ⟨q, hq, h⟩; omega
    exact ⟨_, 0, fun w c1 c2 hc h1 h2 => best_fine zs L a1 a2 c1 c2 w hE hz hl hc h1 h2 hn hcl hpi, fun w c1 c2 hc h1 h2 => rbest_fine zs L a1 a2 c1 c2 w hz hl hc hn hcl hpi h1 h2⟩
  · exact ⟨0, E, fun w c1 c2 hc h1 h2 => best_err zs L E a1 a2 c1 c2 w hE hz hl hc h1 h2 h0, fun w c1 c2 hc h1 h2 => rbest_err zs L E a1 a2 c1 c2 w hE hz hl h0 h1 h2⟩
set_option maxRecDepth 100000 in
set_option maxHeartbeats 4000000 in
theorem bestLaw_ss (m1 m2 : Nat) (Z : List Int) (Y : List (Int × Int × Int)) (a1 a2 : Option Addr) (cap1 cap2 : Nat) (w : World) (hm1 : m1 ≤ 9) (hm2 : m2 ≤ 20) (hZ : Z.length = m1) (hY : Y.length = m2) (hz : m1 ≤ cap1) (hl : m2 ≤ cap2) (x1 : cap1 ≤ 9223372036854775807) (x2 : cap2 ≤ 9223372036854775807) (hc : CW w) (h1 : IntAt w a1 Z) (h2 : PitAt w a2 Y) :
    Calls Tryd.prog 10 #[.slice a1 m1 cap1, .slice a2 m2 cap2] w fun e w' => e = .returned (.bool true) ∧ Below w.heap.size w w' := by
  obtain ⟨R, E, hB, hR⟩ := best_all Z Y a1 a2 (by omega) (by omega)
  rw [hZ, hY] at hB hR
  have KB := Lib.hid hB
  have KR := Lib.hid hR
  have H1 := Lib.hid h1
  have H2 := Lib.hid h2
  have HC := Lib.hid hc
  clear hB hR h1 h2 hc hZ hY
  go_enter Tryd.func10, Tryd.ntmps10
  go_wp2_with fail
  go_cut [0, 1] (fun va vb wx => va = .slice a1 m1 cap1 ∧ vb = .slice a2 m2 cap2 ∧ Below w.heap.size w wx)
  case first =>
    go_region_with (fail)
    all_goals (go_wp2_with fail; go_meet)
    all_goals exact ⟨rfl, rfl, by first | exact Below.refl _ _ | exact Below.drew (Below.refl _ _)⟩
  case rest =>
    obtain ⟨rfl, rfl, hb⟩ := hcut
    have B1 := Lib.hid hb
    clear hb
    go_wp2_with fail
    refine (KB.out _ _ _ (HC.out.below B1.out) (H1.out.up B1.out) (H2.out.up B1.out)).mono ?_
    rintro e w2 ⟨rfl, hb⟩
    have B2 := Lib.hid (B1.out.trans (hb.mono B1.out.size))
    clear hb B1
    go_wp2_with fail
    refine (KR.out _ _ _ (HC.out.below B2.out) (H1.out.up B2.out) (H2.out.up B2.out)).mono ?_
    rintro e w3 ⟨rfl, hb⟩
    have B3 := Lib.hid (B2.out.trans (hb.mono B2.out.size))
    clear hb B2
    go_wp2_with fail
    refine (known_ok _ (HC.out.below B3.out)).mono ?_
    rintro e w4 ⟨rfl, hb⟩
    have B4 := Lib.hid (B3.out.trans (hb.mono B3.out.size))
    clear hb B3
    go_wp2_with fail
    try (go_quiet (fail); go_wp2_with fail)
    go_ret
    exact ⟨by first | rfl | (simp; done), by first | exact B4.out | exact below_drewN B4.out _⟩
set_option maxRecDepth 100000 in
set_option maxHeartbeats 4000000 in
theorem bestLaw_sl (m1 m2 : Nat) (Z : List Int) (Y : List (Int × Int × Int)) (a1 a2 : Option Addr) (cap1 cap2 : Nat) (w : World) (hm1 : m1 ≤ 9) (hm2 : 20 < m2) (hZ : Z.length = m1) (hY : Y.length = 20) (hz : m1 ≤ cap1) (hl : m2 ≤ cap2) (x1 : cap1 ≤ 9223372036854775807) (x2 : cap2 ≤ 9223372036854775807) (hc : CW w) (h1 : IntAt w a1 Z) (h2 : PitAt w a2 Y) :
    Calls Tryd.prog 10 #[.slice a1 m1 cap1, .slice a2 m2 cap2] w fun e w' => e = .returned (.bool true) ∧ Below w.heap.size w w' := by
  obtain ⟨R, E, hB, hR⟩ := best_all Z Y a1 a2 (by omega) (by omega)
  rw [hZ, hY] at hB hR
  have KB := Lib.hid hB
  have KR := Lib.hid hR
  have H1 := Lib.hid h1
  have H2 := Lib.hid h2
  have HC := Lib.hid hc
  clear hB hR h1 h2 hc hZ hY
  go_enter Tryd.func10, Tryd.ntmps10
  go_wp2_with fail
  go_cut [0, 1] (fun va vb wx => va = .slice a1 m1 cap1 ∧ vb = .slice a2 20 cap2 ∧ Below w.heap.size w wx)
  case first =>
    go_region_with (fail)
    all_goals (go_wp2_with fail; go_meet)
    all_goals exact ⟨rfl, rfl, by first | exact Below.refl _ _ | exact Below.drew (Below.refl _ _)⟩
  case rest =>
    obtain ⟨rfl, rfl, hb⟩ := hcut
    have B1 := Lib.hid hb
    clear hb
    go_wp2_with fail
    refine (KB.out _ _ _ (HC.out.below B1.out) (H1.out.up B1.out) (H2.out.up B1.out)).mono ?_
    rintro e w2 ⟨rfl, hb⟩
    have B2 := Lib.hid (B1.out.trans (hb.mono B1.out.size))
    clear hb B1
    go_wp2_with fail
    refine (KR.out _ _ _ (HC.out.below B2.out) (H1.out.up B2.out) (H2.out.up B2.out)).mono ?_
    rintro e w3 ⟨rfl, hb⟩
    have B3 := Lib.hid (B2.out.trans (hb.mono B2.out.size))
    clear hb B2
    go_wp2_with fail
    refine (known_ok _ (HC.out.below B3.out)).mono ?_
    rintro e w4 ⟨rfl, hb⟩
    have B4 := Lib.hid (B3.out.trans (hb.mono B3.out.size))
    clear hb B3
    go_wp2_with fail
    try (go_quiet (fail); go_wp2_with fail)
    go_ret
    exact ⟨by first | rfl | (simp; done), by first | exact B4.out | exact below_drewN B4.out _⟩
set_option maxRecDepth 100000 in
set_option maxHeartbeats 4000000 in
theorem bestLaw_ls (m1 m2 : Nat) (Z : List Int) (Y : List (Int × Int × Int)) (a1 a2 : Option Addr) (cap1 cap2 : Nat) (w : World) (hm1 : 9 < m1) (hm2 : m2 ≤ 20) (hZ : Z.length = 9) (hY : Y.length = m2) (hz : m1 ≤ cap1) (hl : m2 ≤ cap2) (x1 : cap1 ≤ 9223372036854775807) (x2 : cap2 ≤ 9223372036854775807) (hc : CW w) (h1 : IntAt w a1 Z) (h2 : PitAt w a2 Y) :
    Calls Tryd.prog 10 #[.slice a1 m1 cap1, .slice a2 m2 cap2] w fun e w' => e = .returned (.bool true) ∧ Below w.heap.size w w' := by
  obtain ⟨R, E, hB, hR⟩ := best_all Z Y a1 a2 (by omega) (by omega)
  rw [hZ, hY] at hB hR
  have KB := Lib.hid hB
  have KR := Lib.hid hR
  have H1 := Lib.hid h1
  have H2 := Lib.hid h2
  have HC := Lib.hid hc
  clear hB hR h1 h2 hc hZ hY
  go_enter Tryd.func10, Tryd.ntmps10
  go_wp2_with fail
  go_cut [0, 1] (fun va vb wx => va = .slice a1 9 cap1 ∧ vb = .slice a2 m2 cap2 ∧ Below w.heap.size w wx)
  case first =>
    go_region_with (fail)
    all_goals (go_wp2_with fail; go_meet)
    all_goals exact ⟨rfl, rfl, by first | exact Below.refl _ _ | exact Below.drew (Below.refl _ _)⟩
  case rest =>
    obtain ⟨rfl, rfl, hb⟩ := hcut
    have B1 := Lib.hid hb
    clear hb
    go_wp2_with fail
    refine (KB.out _ _ _ (HC.out.below B1.out) (H1.out.up B1.out) (H2.out.up B1.out)).mono ?_
    rintro e w2 ⟨rfl, hb⟩
    have B2 := Lib.hid (B1.out.trans (hb.mono B1.out.size))
    clear hb B1
    go_wp2_with fail
    refine (KR.out _ _ _ (HC.out.below B2.out) (H1.out.up B2.out) (H2.out.up B2.out)).mono ?_
    rintro e w3 ⟨rfl, hb⟩
    have B3 := Lib.hid (B2.out.trans (hb.mono B2.out.size))
    clear hb B2
    go_wp2_with fail
    refine (known_ok _ (HC.out.below B3.out)).mono ?_
    rintro e w4 ⟨rfl, hb⟩
    have B4 := Lib.hid (B3.out.trans (hb.mono B3.out.size))
    clear hb B3
    go_wp2_with fail
    try (go_quiet (fail); go_wp2_with fail)
    go_ret
    exact ⟨by first | rfl | (simp; done), by first | exact B4.out | exact below_drewN B4.out _⟩
set_option maxRecDepth 100000 in
set_option maxHeartbeats 4000000 in
theorem bestLaw_ll (m1 m2 : Nat) (Z : List Int) (Y : List (Int × Int × Int)) (a1 a2 : Option Addr) (cap1 cap2 : Nat) (w : World) (hm1 : 9 < m1) (hm2 : 20 < m2) (hZ : Z.length = 9) (hY : Y.length = 20) (hz : m1 ≤ cap1) (hl : m2 ≤ cap2) (x1 : cap1 ≤ 9223372036854775807) (x2 : cap2 ≤ 9223372036854775807) (hc : CW w) (h1 : IntAt w a1 Z) (h2 : PitAt w a2 Y) :
    Calls Tryd.prog 10 #[.slice a1 m1 cap1, .slice a2 m2 cap2] w fun e w' => e = .returned (.bool true) ∧ Below w.heap.size w w' := by
  obtain ⟨R, E, hB, hR⟩ := best_all Z Y a1 a2 (by omega) (by omega)
  rw [hZ, hY] at hB hR
  have KB := Lib.hid hB
  have KR := Lib.hid hR
  have H1 := Lib.hid h1
  have H2 := Lib.hid h2
  have HC := Lib.hid hc
  clear hB hR h1 h2 hc hZ hY
  go_enter Tryd.func10, Tryd.ntmps10
  go_wp2_with fail
  go_cut [0, 1] (fun va vb wx => va = .slice a1 9 cap1 ∧ vb = .slice a2 20 cap2 ∧ Below w.heap.size w wx)
  case first =>
    go_region_with (fail)
    all_goals (go_wp2_with fail; go_meet)
    all_goals exact ⟨rfl, rfl, by first | exact Below.refl _ _ | exact Below.drew (Below.refl _ _)⟩
  case rest =>
    obtain ⟨rfl, rfl, hb⟩ := hcut
    have B1 := Lib.hid hb
    clear hb
    go_wp2_with fail
    refine (KB.out _ _ _ (HC.out.below B1.out) (H1.out.up B1.out) (H2.out.up B1.out)).mono ?_
    rintro e w2 ⟨rfl, hb⟩
    have B2 := Lib.hid (B1.out.trans (hb.mono B1.out.size))
    clear hb B1
    go_wp2_with fail
    refine (KR.out _ _ _ (HC.out.below B2.out) (H1.out.up B2.out) (H2.out.up B2.out)).mono ?_
    rintro e w3 ⟨rfl, hb⟩
    have B3 := Lib.hid (B2.out.trans (hb.mono B2.out.size))
    clear hb B2
    go_wp2_with fail
    refine (known_ok _ (HC.out.below B3.out)).mono ?_
    rintro e w4 ⟨rfl, hb⟩
    have B4 := Lib.hid (B3.out.trans (hb.mono B3.out.size))
    clear hb B3
    go_wp2_with fail
    try (go_quiet (fail); go_wp2_with fail)
    go_ret
    exact ⟨by first | rfl | (simp; done), by first | exact B4.out | exact below_drewN B4.out _⟩
theorem law_ClefBest (zs : List Int) (L : List (Int × Int × Int)) (a1 a2 : Option Addr) (cap1 cap2 : Nat) (w : World) (hz : zs.length ≤ cap1) (hl : L.length ≤ cap2) (m1 : cap1 ≤ maxLen) (m2 : cap2 ≤ maxLen) (hc : CW w) (h1 : IntAt w a1 zs) (h2 : PitAt w a2 L) :
    Calls Tryd.prog 10 #[.slice a1 zs.length cap1, .slice a2 L.length cap2] w fun e w' => e = .returned (.bool true) ∧ Below w.heap.size w w' := by
  unfold maxLen at m1 m2
  by_cases z9 : zs.length ≤ 9
  · by_cases l20 : L.length ≤ 20
    · exact bestLaw_ss _ _ zs L a1 a2 cap1 cap2 w z9 l20 rfl rfl hz hl (by omega) (by omega) hc h1 h2
    · exact bestLaw_sl _ _ zs (L.take 20) a1 a2 cap1 cap2 w z9 (by omega) rfl (by simp; omega) hz hl (by omega) (by omega) hc h1 (h2.take 20)
  · by_cases l20 : L.length ≤ 20
    · exact bestLaw_ls _ _ (zs.take 9) L a1 a2 cap1 cap2 w (by omega) l20 (by simp; omega) rfl hz hl (by omega) (by omega) hc (h1.take 9) h2
    · exact bestLaw_ll _ _ (zs.take 9) (L.take 20) a1 a2 cap1 cap2 w (by omega) (by omega) (by simp; omega) (by simp; omega) hz hl (by omega) (by omega) hc (h1.take 9) (h2.take 20)
end Go.Proofs.YtmdnlnjapkcanaaDoor
