/- Durations: the reference's list of all values, walked. -/
import Derived.Test.YtoobfcekgfgipaaDoorDr
namespace Go.Proofs.YtoobfcekgfgipaaDoor
open Go.RowKit
set_option linter.unusedVariables false
set_option linter.unusedSimpArgs false

set_option maxRecDepth 100000 in
set_option maxHeartbeats 8000000 in
theorem all_ok (w : World) :
    Calls Tryd.prog 28 #[] w fun e w' => ∃ g cap, e = .returned (.slice (some ⟨g, 0, none⟩) 40 cap) ∧ VlAt w' g 40 ∧ Below w.heap.size w w' := by
  obtain ⟨i0, hi, hz0, hz1, hz2⟩ := info_parts infoV
  go_enter Tryd.func28, Tryd.ntmps28
  go_wp2_with fail
  have HO := Lib.hid (show OV w w (.slice none 0 0) 0 from ⟨Bel.refl w, World.ownsRow_nil _ _ _ _⟩)
  go_loopg [1, 2] 40 (fun gm out n wr => ∃ k : Nat, k ≤ 40 ∧ gm = 40 - k ∧ n = .int .i64 ((k : Int) + 1) ∧ Hid (OV w wr out k))
  case atStart => exact ⟨0, by omega, by omega, rfl, HO⟩
  case round =>
    obtain ⟨k, hk, rfl, rfl, HS⟩ := hrel
    obtain ⟨v, W0, hv, hW0, HS⟩ : ∃ v W0, v = _ ∧ W0 = _ ∧ Hid (OV w W0 v k) := ⟨_, _, rfl, rfl, HS⟩
    subst hv hW0
    clear HO
    by_cases hltk : k < 40
    · have H0 := Lib.hid (AI.start HS.out 99 0)
      have hnk : decide ((k : Int) + 1 ≤ 40) = true := decide_eq_true (by omega)
      go_wp2_with fail
      go_loopg [4] 10 (fun gm lg wr => ∃ i : Nat, i ≤ 10 ∧ gm = 10 - i ∧ lg = .int .i64 ((i : Int) - 1) ∧ Hid (AI w wr v k W0.heap.size (bF k (4 * i))))
      case atStart => exact ⟨0, by omega, by omega, rfl, by rw [show bF k (4 * 0) = (99, 0) from rfl]; exact H0⟩
      case round =>
        clear H0
        obtain ⟨i, hi10, rfl, rfl, HA⟩ := hrel
        by_cases hlti : i < 10
        · have hni : decide ((i : Int) - 1 ≤ 8) = true := decide_eq_true (by omega)
          go_wp2_with fail
          go_loopg [5] 4 (fun gm ds wr => ∃ j : Nat, j ≤ 4 ∧ gm = 4 - j ∧ ds = .int .i64 (j : Int) ∧ Hid (AI w wr v k W0.heap.size (bF k (4 * i + j))))
          case atStart => exact ⟨0, by omega, by omega, rfl, HA⟩
          case round =>
            clear HA
            obtain ⟨j, hj4, rfl, rfl, HA⟩ := hrel
            obtain ⟨W1, hW1, HA⟩ : ∃ W1, W1 = _ ∧ Hid (AI w W1 v k W0.heap.size (bF k (4 * i + j))) := ⟨_, rfl, HA⟩
            subst hW1
            by_cases hltj : j < 4
            · have hnj : decide ((j : Int) ≤ 3) = true := decide_eq_true (by omega)
              go_wp2_with fail
              have hva : Va ((i : Int) - 1) (j : Int) := ⟨by omega, by omega, by omega, by omega⟩
              have KV := Lib.hid (fun u => rticks_ok ((i : Int) - 1) (j : Int) u hva)
              have hpl : plV (4 * i + j) = (i : Int) - 1 := by simp only [plV]; omega
              have hpd : pdV (4 * i + j) = (j : Int) := by simp only [pdV]; omega
              obtain ⟨LV, hLV⟩ : ∃ LV, lenV ((i : Int) - 1) (j : Int) = LV := ⟨_, rfl⟩
              have hLp : lenV (plV (4 * i + j)) (pdV (4 * i + j)) = LV := by rw [hpl, hpd]; exact hLV
              rw [hLV] at KV
              have hbv := bF_va k (4 * i + j) (by omega)
              obtain ⟨⟨b1, b2⟩, hb⟩ : ∃ b, bF k (4 * i + j) = b := ⟨_, rfl⟩
              rw [hb] at hbv HA
              simp only at hbv
              have HLp := Lib.hid hLp
              have Hpl := Lib.hid hpl
              have Hpd := Lib.hid hpd
              have Hb := Lib.hid hb
              clear hva hLV hLp hpl hpd hb
              have HY := Lib.hid (Duo.new W1 (.int .i64 ((i : Int) - 1)) (.int .i64 (j : Int)) 23 W1.heap.size rfl)
              have HA := Lib.hid (HA.out.up ((Below.refl _ _).alloc (Nat.le_refl _) (.cells #[.int .i64 ((i : Int) - 1), .int .i64 (j : Int)] 23)))
              rcases HA.out.ov.at (by omega) with ⟨h0, rfl⟩ | ⟨ga, cap, rfl, hv⟩
              · have H0 := Lib.hid h0
                clear h0
                refine Qt.regionAll (by kernel_rfl) (by kernel_rfl) ?_
                intro T f F hne
                have RA := Lib.hid (fun g => HA.out.up (F.below g))
                have RD0 := fun g => (RA.out g).duo.c0
                have RD1 := fun g => (RA.out g).duo.c1
                simp only at RD0 RD1
                have RY := Lib.hid (fun g => HY.out.up (F.below g))
                have RY0 := fun g => (RY.out g).c0
                have RY1 := fun g => (RY.out g).c1
                repeat (go_big_quiet_step (first | fail))
                refine wpQuiet_nil ?_
                rintro _ ⟨gg, rfl⟩
                have HA2 := Lib.hid (RA.out gg)
                have HY2 := Lib.hid (RY.out gg)
                clear RA RD0 RD1 RY RY0 RY1  F hne HA HY
                generalize f gg = W2 at *
                clear f
                have HA := HA2
                have HY := HY2
                clear HA2 HY2
                go_wp2_with fail
                have hLp := HLp.out
                have hpl := Hpl.out
                have hpd := Hpd.out
                have hb := Hb.out
                rcases hbv with rfl | ⟨hb99, hvb⟩
                · have HN := Lib.hid ((bF_take (k := k) (p := 4 * i + j) (.inl H0.out) (.inl (by rw [hb]))).trans (by rw [hpl, hpd]))
                  refine Qt.regionAll (by kernel_rfl) (by kernel_rfl) ?_
                  intro T f F hne
                  have RA := Lib.hid (fun g => HA.out.up (F.below g))
                  have RD0 := fun g => (RA.out g).duo.c0
                  have RD1 := fun g => (RA.out g).duo.c1
                  simp only at RD0 RD1
                  have RY := Lib.hid (fun g => HY.out.up (F.below g))
                  have RY0 := fun g => (RY.out g).c0
                  have RY1 := fun g => (RY.out g).c1
                  repeat (go_big_quiet_step (first | fail))
                  refine wpQuiet_nil ?_
                  rintro _ ⟨gg, rfl⟩
                  have HA2 := Lib.hid (RA.out gg)
                  have HY2 := Lib.hid (RY.out gg)
                  clear RA RD0 RD1 RY RY0 RY1  F hne HA HY
                  generalize f gg = W3 at *
                  clear f
                  have HA := HA2
                  have HY := HY2
                  clear HA2 HY2
                  obtain ⟨_, d0, d1, g0, g1⟩ := id HA.out.duo
                  obtain ⟨_, y0, y1, _, _⟩ := id HY.out
                  simp only at d0 d1
                  go_wp2_with fail
                  go_roundg (4 - (j + 1))
                  case measure => omega
                  case rel => exact ⟨j + 1, by omega, rfl, by go_num, by rw [show 4 * i + (j + 1) = 4 * i + j + 1 by omega, HN.out]; exact Lib.hid (HA.out.put _ _)⟩
                · have KB := Lib.hid (fun u => rticks_ok b1 b2 u hvb)
                  obtain ⟨LB, hLB⟩ : ∃ LB, lenV b1 b2 = LB := ⟨_, rfl⟩
                  rw [hLB] at KB
                  have e99 : (b1 == 99) = false := by simpa using hb99
                  by_cases hgt : LB < LV
                  · have d14 : decide (LB < LV) = true := decide_eq_true hgt
                    have HN := Lib.hid ((bF_take (k := k) (p := 4 * i + j) (.inl H0.out) (.inr (by rw [hb, hLp]; simp only; rw [hLB]; exact hgt))).trans (by rw [hpl, hpd]))
                    clear hLB hgt hvb hb99
                    refine Qt.regionAll (by kernel_rfl) (by kernel_rfl) ?_
                    intro T f F hne
                    have RA := Lib.hid (fun g => HA.out.up (F.below g))
                    have RD0 := fun g => (RA.out g).duo.c0
                    have RD1 := fun g => (RA.out g).duo.c1
                    simp only at RD0 RD1
                    have RY := Lib.hid (fun g => HY.out.up (F.below g))
                    have RY0 := fun g => (RY.out g).c0
                    have RY1 := fun g => (RY.out g).c1
                    repeat (go_big_quiet_step (first | (go_at_call 14; with_reducible exact F.call (KV.out _)) | (go_at_call 14; with_reducible exact F.call (KB.out _))))
                    refine wpQuiet_nil ?_
                    rintro _ ⟨gg, rfl⟩
                    have HA2 := Lib.hid (RA.out gg)
                    have HY2 := Lib.hid (RY.out gg)
                    clear RA RD0 RD1 RY RY0 RY1  F hne HA HY
                    generalize f gg = W3 at *
                    clear f
                    have HA := HA2
                    have HY := HY2
                    clear HA2 HY2
                    obtain ⟨_, d0, d1, g0, g1⟩ := id HA.out.duo
                    obtain ⟨_, y0, y1, _, _⟩ := id HY.out
                    simp only at d0 d1
                    go_wp2_with fail
                    go_roundg (4 - (j + 1))
                    case measure => omega
                    case rel => exact ⟨j + 1, by omega, rfl, by go_num, by rw [show 4 * i + (j + 1) = 4 * i + j + 1 by omega, HN.out]; exact Lib.hid (HA.out.put _ _)⟩
                  · have d14 : decide (LB < LV) = false := decide_eq_false hgt
                    have HN := Lib.hid ((bF_keep (k := k) (p := 4 * i + j) (.inl H0.out) (by rw [hb, hLp]; simp only; rw [hLB]; rintro (h | h); exact hb99 h; exact hgt h)).trans hb)
                    clear hLB hgt hvb hb99
                    refine Qt.regionAll (by kernel_rfl) (by kernel_rfl) ?_
                    intro T f F hne
                    have RA := Lib.hid (fun g => HA.out.up (F.below g))
                    have RD0 := fun g => (RA.out g).duo.c0
                    have RD1 := fun g => (RA.out g).duo.c1
                    simp only at RD0 RD1
                    have RY := Lib.hid (fun g => HY.out.up (F.below g))
                    have RY0 := fun g => (RY.out g).c0
                    have RY1 := fun g => (RY.out g).c1
                    repeat (go_big_quiet_step (first | (go_at_call 14; with_reducible exact F.call (KV.out _)) | (go_at_call 14; with_reducible exact F.call (KB.out _))))
                    refine wpQuiet_nil ?_
                    rintro _ ⟨gg, rfl⟩
                    have HA2 := Lib.hid (RA.out gg)
                    have HY2 := Lib.hid (RY.out gg)
                    clear RA RD0 RD1 RY RY0 RY1  F hne HA HY
                    generalize f gg = W3 at *
                    clear f
                    have HA := HA2
                    have HY := HY2
                    clear HA2 HY2
                    go_wp2_with fail
                    go_roundg (4 - (j + 1))
                    case measure => omega
                    case rel => exact ⟨j + 1, by omega, rfl, by go_num, by rw [show 4 * i + (j + 1) = 4 * i + j + 1 by omega, HN.out]; exact HA⟩
              · by_cases h0 : k = 0
                · have g13 : decide (0 < (k : Int)) = false := decide_eq_false (by omega)
                  have g13n : decide (0 < k) = false := decide_eq_false (by omega)
                  have H0 := Lib.hid h0
                  clear h0
                  refine Qt.regionAll (by kernel_rfl) (by kernel_rfl) ?_
                  intro T f F hne
                  have RA := Lib.hid (fun g => HA.out.up (F.below g))
                  have RD0 := fun g => (RA.out g).duo.c0
                  have RD1 := fun g => (RA.out g).duo.c1
                  simp only at RD0 RD1
                  have RY := Lib.hid (fun g => HY.out.up (F.below g))
                  have RY0 := fun g => (RY.out g).c0
                  have RY1 := fun g => (RY.out g).c1
                  repeat (go_big_quiet_step (first | fail))
                  refine wpQuiet_nil ?_
                  rintro _ ⟨gg, rfl⟩
                  have HA2 := Lib.hid (RA.out gg)
                  have HY2 := Lib.hid (RY.out gg)
                  clear RA RD0 RD1 RY RY0 RY1  F hne HA HY
                  generalize f gg = W2 at *
                  clear f
                  have HA := HA2
                  have HY := HY2
                  clear HA2 HY2
                  go_wp2_with fail
                  have hLp := HLp.out
                  have hpl := Hpl.out
                  have hpd := Hpd.out
                  have hb := Hb.out
                  rcases hbv with rfl | ⟨hb99, hvb⟩
                  · have HN := Lib.hid ((bF_take (k := k) (p := 4 * i + j) (.inl H0.out) (.inl (by rw [hb]))).trans (by rw [hpl, hpd]))
                    refine Qt.regionAll (by kernel_rfl) (by kernel_rfl) ?_
                    intro T f F hne
                    have RA := Lib.hid (fun g => HA.out.up (F.below g))
                    have RD0 := fun g => (RA.out g).duo.c0
                    have RD1 := fun g => (RA.out g).duo.c1
                    simp only at RD0 RD1
                    have RY := Lib.hid (fun g => HY.out.up (F.below g))
                    have RY0 := fun g => (RY.out g).c0
                    have RY1 := fun g => (RY.out g).c1
                    repeat (go_big_quiet_step (first | fail))
                    refine wpQuiet_nil ?_
                    rintro _ ⟨gg, rfl⟩
                    have HA2 := Lib.hid (RA.out gg)
                    have HY2 := Lib.hid (RY.out gg)
                    clear RA RD0 RD1 RY RY0 RY1  F hne HA HY
                    generalize f gg = W3 at *
                    clear f
                    have HA := HA2
                    have HY := HY2
                    clear HA2 HY2
                    obtain ⟨_, d0, d1, g0, g1⟩ := id HA.out.duo
                    obtain ⟨_, y0, y1, _, _⟩ := id HY.out
                    simp only at d0 d1
                    go_wp2_with fail
                    go_roundg (4 - (j + 1))
                    case measure => omega
                    case rel => exact ⟨j + 1, by omega, rfl, by go_num, by rw [show 4 * i + (j + 1) = 4 * i + j + 1 by omega, HN.out]; exact Lib.hid (HA.out.put _ _)⟩
                  · have KB := Lib.hid (fun u => rticks_ok b1 b2 u hvb)
                    obtain ⟨LB, hLB⟩ : ∃ LB, lenV b1 b2 = LB := ⟨_, rfl⟩
                    rw [hLB] at KB
                    have e99 : (b1 == 99) = false := by simpa using hb99
                    by_cases hgt : LB < LV
                    · have d14 : decide (LB < LV) = true := decide_eq_true hgt
                      have HN := Lib.hid ((bF_take (k := k) (p := 4 * i + j) (.inl H0.out) (.inr (by rw [hb, hLp]; simp only; rw [hLB]; exact hgt))).trans (by rw [hpl, hpd]))
                      clear hLB hgt hvb hb99
                      refine Qt.regionAll (by kernel_rfl) (by kernel_rfl) ?_
                      intro T f F hne
                      have RA := Lib.hid (fun g => HA.out.up (F.below g))
                      have RD0 := fun g => (RA.out g).duo.c0
                      have RD1 := fun g => (RA.out g).duo.c1
                      simp only at RD0 RD1
                      have RY := Lib.hid (fun g => HY.out.up (F.below g))
                      have RY0 := fun g => (RY.out g).c0
                      have RY1 := fun g => (RY.out g).c1
                      repeat (go_big_quiet_step (first | (go_at_call 14; with_reducible exact F.call (KV.out _)) | (go_at_call 14; with_reducible exact F.call (KB.out _))))
                      refine wpQuiet_nil ?_
                      rintro _ ⟨gg, rfl⟩
                      have HA2 := Lib.hid (RA.out gg)
                      have HY2 := Lib.hid (RY.out gg)
                      clear RA RD0 RD1 RY RY0 RY1  F hne HA HY
                      generalize f gg = W3 at *
                      clear f
                      have HA := HA2
                      have HY := HY2
                      clear HA2 HY2
                      obtain ⟨_, d0, d1, g0, g1⟩ := id HA.out.duo
                      obtain ⟨_, y0, y1, _, _⟩ := id HY.out
                      simp only at d0 d1
                      go_wp2_with fail
                      go_roundg (4 - (j + 1))
                      case measure => omega
                      case rel => exact ⟨j + 1, by omega, rfl, by go_num, by rw [show 4 * i + (j + 1) = 4 * i + j + 1 by omega, HN.out]; exact Lib.hid (HA.out.put _ _)⟩
                    · have d14 : decide (LB < LV) = false := decide_eq_false hgt
                      have HN := Lib.hid ((bF_keep (k := k) (p := 4 * i + j) (.inl H0.out) (by rw [hb, hLp]; simp only; rw [hLB]; rintro (h | h); exact hb99 h; exact hgt h)).trans hb)
                      clear hLB hgt hvb hb99
                      refine Qt.regionAll (by kernel_rfl) (by kernel_rfl) ?_
                      intro T f F hne
                      have RA := Lib.hid (fun g => HA.out.up (F.below g))
                      have RD0 := fun g => (RA.out g).duo.c0
                      have RD1 := fun g => (RA.out g).duo.c1
                      simp only at RD0 RD1
                      have RY := Lib.hid (fun g => HY.out.up (F.below g))
                      have RY0 := fun g => (RY.out g).c0
                      have RY1 := fun g => (RY.out g).c1
                      repeat (go_big_quiet_step (first | (go_at_call 14; with_reducible exact F.call (KV.out _)) | (go_at_call 14; with_reducible exact F.call (KB.out _))))
                      refine wpQuiet_nil ?_
                      rintro _ ⟨gg, rfl⟩
                      have HA2 := Lib.hid (RA.out gg)
                      have HY2 := Lib.hid (RY.out gg)
                      clear RA RD0 RD1 RY RY0 RY1  F hne HA HY
                      generalize f gg = W3 at *
                      clear f
                      have HA := HA2
                      have HY := HY2
                      clear HA2 HY2
                      go_wp2_with fail
                      go_roundg (4 - (j + 1))
                      case measure => omega
                      case rel => exact ⟨j + 1, by omega, rfl, by go_num, by rw [show 4 * i + (j + 1) = 4 * i + j + 1 by omega, HN.out]; exact HA⟩
                · obtain ⟨x, hx⟩ : ∃ x : Fin 40, k = x.val + 1 := ⟨⟨k - 1, by omega⟩, by simp only; omega⟩
                  have hix : (k : Int) - 1 = ((x.val : Nat) : Int) := by omega
                  have hmk : x.val < k := by omega
                  have g13 : decide (0 < (k : Int)) = true := decide_eq_true (by omega)
                  have g13n : decide (0 < k) = true := decide_eq_true (by omega)
                  obtain ⟨p0, p1⟩ := hv x hmk
                  have P0 := Lib.hid p0
                  have P1 := Lib.hid p1
                  have KP := Lib.hid (fun u => rticks_ok (lgV x) (dtV x) u (va_at x))
                  have hLP0 : preL k = lenV (lgV x) (dtV x) := by subst hx; rfl
                  generalize lgV x = pl at *
                  generalize dtV x = pd at *
                  generalize x.val = m at *
                  obtain ⟨LP, hLP⟩ : ∃ LP, lenV pl pd = LP := ⟨_, rfl⟩
                  rw [hLP] at KP hLP0
                  have HL0 := Lib.hid hLP0
                  have Hk := Lib.hid h0
                  clear p0 p1 hLP hLP0 hx h0 hv
                  by_cases hge : LP ≤ LV
                  · have d13 : decide (LP ≤ LV) = true := decide_eq_true hge
                    have HN := Lib.hid ((bF_skip (k := k) (p := 4 * i + j) Hk.out (by rw [HL0.out, HLp.out]; exact hge)).trans Hb.out)
                    clear hge
                    refine Qt.regionAll (by kernel_rfl) (by kernel_rfl) ?_
                    intro T f F hne
                    have RA := Lib.hid (fun g => HA.out.up (F.below g))
                    have RD0 := fun g => (RA.out g).duo.c0
                    have RD1 := fun g => (RA.out g).duo.c1
                    simp only at RD0 RD1
                    have RY := Lib.hid (fun g => HY.out.up (F.below g))
                    have RY0 := fun g => (RY.out g).c0
                    have RY1 := fun g => (RY.out g).c1
                    have RP0 := fun g => cell_up (F.below g) P0.out
                    have RP1 := fun g => cell_up (F.below g) P1.out
                    repeat (go_big_quiet_step (first | (go_at_call 14; with_reducible exact F.call (KV.out _)) | (go_at_call 14; with_reducible exact F.call (KP.out _))))
                    refine wpQuiet_nil ?_
                    rintro _ ⟨gg, rfl⟩
                    have HA2 := Lib.hid (RA.out gg)
                    have HY2 := Lib.hid (RY.out gg)
                    clear RA RD0 RD1 RY RY0 RY1 RP0 RP1 P0 P1 F hne HA HY
                    generalize f gg = W2 at *
                    clear f
                    have HA := HA2
                    have HY := HY2
                    clear HA2 HY2
                    go_wp2_with fail
                    go_roundg (4 - (j + 1))
                    case measure => omega
                    case rel => exact ⟨j + 1, by omega, rfl, by go_num, by rw [show 4 * i + (j + 1) = 4 * i + j + 1 by omega, HN.out]; exact HA⟩
                  · have d13 : decide (LP ≤ LV) = false := decide_eq_false hge
                    have HQ := Lib.hid (show ¬ preL k ≤ lenV (plV (4 * i + j)) (pdV (4 * i + j)) by rw [HL0.out, HLp.out]; exact hge)
                    clear hge
                    refine Qt.regionAll (by kernel_rfl) (by kernel_rfl) ?_
                    intro T f F hne
                    have RA := Lib.hid (fun g => HA.out.up (F.below g))
                    have RD0 := fun g => (RA.out g).duo.c0
                    have RD1 := fun g => (RA.out g).duo.c1
                    simp only at RD0 RD1
                    have RY := Lib.hid (fun g => HY.out.up (F.below g))
                    have RY0 := fun g => (RY.out g).c0
                    have RY1 := fun g => (RY.out g).c1
                    have RP0 := fun g => cell_up (F.below g) P0.out
                    have RP1 := fun g => cell_up (F.below g) P1.out
                    repeat (go_big_quiet_step (first | (go_at_call 14; with_reducible exact F.call (KV.out _)) | (go_at_call 14; with_reducible exact F.call (KP.out _))))
                    refine wpQuiet_nil ?_
                    rintro _ ⟨gg, rfl⟩
                    have HA2 := Lib.hid (RA.out gg)
                    have HY2 := Lib.hid (RY.out gg)
                    clear RA RD0 RD1 RY RY0 RY1 RP0 RP1 P0 P1 F hne HA HY
                    generalize f gg = W2 at *
                    clear f
                    have HA := HA2
                    have HY := HY2
                    clear HA2 HY2
                    go_wp2_with fail
                    have hLp := HLp.out
                    have hpl := Hpl.out
                    have hpd := Hpd.out
                    have hb := Hb.out
                    rcases hbv with rfl | ⟨hb99, hvb⟩
                    · have HN := Lib.hid ((bF_take (k := k) (p := 4 * i + j) (.inr (by have := HQ.out; omega)) (.inl (by rw [hb]))).trans (by rw [hpl, hpd]))
                      refine Qt.regionAll (by kernel_rfl) (by kernel_rfl) ?_
                      intro T f F hne
                      have RA := Lib.hid (fun g => HA.out.up (F.below g))
                      have RD0 := fun g => (RA.out g).duo.c0
                      have RD1 := fun g => (RA.out g).duo.c1
                      simp only at RD0 RD1
                      have RY := Lib.hid (fun g => HY.out.up (F.below g))
                      have RY0 := fun g => (RY.out g).c0
                      have RY1 := fun g => (RY.out g).c1
                      repeat (go_big_quiet_step (first | fail))
                      refine wpQuiet_nil ?_
                      rintro _ ⟨gg, rfl⟩
                      have HA2 := Lib.hid (RA.out gg)
                      have HY2 := Lib.hid (RY.out gg)
                      clear RA RD0 RD1 RY RY0 RY1  F hne HA HY
                      generalize f gg = W3 at *
                      clear f
                      have HA := HA2
                      have HY := HY2
                      clear HA2 HY2
                      obtain ⟨_, d0, d1, g0, g1⟩ := id HA.out.duo
                      obtain ⟨_, y0, y1, _, _⟩ := id HY.out
                      simp only at d0 d1
                      go_wp2_with fail
                      go_roundg (4 - (j + 1))
                      case measure => omega
                      case rel => exact ⟨j + 1, by omega, rfl, by go_num, by rw [show 4 * i + (j + 1) = 4 * i + j + 1 by omega, HN.out]; exact Lib.hid (HA.out.put _ _)⟩
                    · have KB := Lib.hid (fun u => rticks_ok b1 b2 u hvb)
                      obtain ⟨LB, hLB⟩ : ∃ LB, lenV b1 b2 = LB := ⟨_, rfl⟩
                      rw [hLB] at KB
                      have e99 : (b1 == 99) = false := by simpa using hb99
                      by_cases hgt : LB < LV
                      · have d14 : decide (LB < LV) = true := decide_eq_true hgt
                        have HN := Lib.hid ((bF_take (k := k) (p := 4 * i + j) (.inr (by have := HQ.out; omega)) (.inr (by rw [hb, hLp]; simp only; rw [hLB]; exact hgt))).trans (by rw [hpl, hpd]))
                        clear hLB hgt hvb hb99
                        refine Qt.regionAll (by kernel_rfl) (by kernel_rfl) ?_
                        intro T f F hne
                        have RA := Lib.hid (fun g => HA.out.up (F.below g))
                        have RD0 := fun g => (RA.out g).duo.c0
                        have RD1 := fun g => (RA.out g).duo.c1
                        simp only at RD0 RD1
                        have RY := Lib.hid (fun g => HY.out.up (F.below g))
                        have RY0 := fun g => (RY.out g).c0
                        have RY1 := fun g => (RY.out g).c1
                        repeat (go_big_quiet_step (first | (go_at_call 14; with_reducible exact F.call (KV.out _)) | (go_at_call 14; with_reducible exact F.call (KB.out _))))
                        refine wpQuiet_nil ?_
                        rintro _ ⟨gg, rfl⟩
                        have HA2 := Lib.hid (RA.out gg)
                        have HY2 := Lib.hid (RY.out gg)
                        clear RA RD0 RD1 RY RY0 RY1  F hne HA HY
                        generalize f gg = W3 at *
                        clear f
                        have HA := HA2
                        have HY := HY2
                        clear HA2 HY2
                        obtain ⟨_, d0, d1, g0, g1⟩ := id HA.out.duo
                        obtain ⟨_, y0, y1, _, _⟩ := id HY.out
                        simp only at d0 d1
                        go_wp2_with fail
                        go_roundg (4 - (j + 1))
                        case measure => omega
                        case rel => exact ⟨j + 1, by omega, rfl, by go_num, by rw [show 4 * i + (j + 1) = 4 * i + j + 1 by omega, HN.out]; exact Lib.hid (HA.out.put _ _)⟩
                      · have d14 : decide (LB < LV) = false := decide_eq_false hgt
                        have HN := Lib.hid ((bF_keep (k := k) (p := 4 * i + j) (.inr (by have := HQ.out; omega)) (by rw [hb, hLp]; simp only; rw [hLB]; rintro (h | h); exact hb99 h; exact hgt h)).trans hb)
                        clear hLB hgt hvb hb99
                        refine Qt.regionAll (by kernel_rfl) (by kernel_rfl) ?_
                        intro T f F hne
                        have RA := Lib.hid (fun g => HA.out.up (F.below g))
                        have RD0 := fun g => (RA.out g).duo.c0
                        have RD1 := fun g => (RA.out g).duo.c1
                        simp only at RD0 RD1
                        have RY := Lib.hid (fun g => HY.out.up (F.below g))
                        have RY0 := fun g => (RY.out g).c0
                        have RY1 := fun g => (RY.out g).c1
                        repeat (go_big_quiet_step (first | (go_at_call 14; with_reducible exact F.call (KV.out _)) | (go_at_call 14; with_reducible exact F.call (KB.out _))))
                        refine wpQuiet_nil ?_
                        rintro _ ⟨gg, rfl⟩
                        have HA2 := Lib.hid (RA.out gg)
                        have HY2 := Lib.hid (RY.out gg)
                        clear RA RD0 RD1 RY RY0 RY1  F hne HA HY
                        generalize f gg = W3 at *
                        clear f
                        have HA := HA2
                        have HY := HY2
                        clear HA2 HY2
                        go_wp2_with fail
                        go_roundg (4 - (j + 1))
                        case measure => omega
                        case rel => exact ⟨j + 1, by omega, rfl, by go_num, by rw [show 4 * i + (j + 1) = 4 * i + j + 1 by omega, HN.out]; exact HA⟩
            · obtain rfl : j = 4 := by omega
              go_wp2_with fail
              go_roundg (10 - (i + 1))
              case measure => omega
              case rel => exact ⟨i + 1, by omega, rfl, by go_num, by rw [show 4 * (i + 1) = 4 * i + 4 by omega]; exact HA⟩
        · obtain rfl : i = 10 := by omega
          have HB := Lib.hid (show AI w _ v k W0.heap.size (lgV ⟨k, hltk⟩, dtV ⟨k, hltk⟩) from by have := HA.out; rwa [show 4 * 10 = 40 from rfl, bF_end ⟨k, hltk⟩] at this)
          clear HA HS
          obtain ⟨W2, hW2, HB⟩ : ∃ W2, W2 = _ ∧ Hid (AI w W2 v k W0.heap.size (lgV ⟨k, hltk⟩, dtV ⟨k, hltk⟩)) := ⟨_, rfl, HB⟩
          subst hW2
          have HC := Lib.hid (cellsV_succ hltk)
          rw [show vC ⟨k, hltk⟩ = [.int .i64 (lgV ⟨k, hltk⟩), .int .i64 (dtV ⟨k, hltk⟩)] from rfl] at HC
          generalize lgV ⟨k, hltk⟩ = lg at *
          generalize dtV ⟨k, hltk⟩ = dt at *
          obtain ⟨_, d0, d1, _, _⟩ := id HB.out.duo
          simp only at d0 d1
          have hw2 : w.heap.size ≤ W2.heap.size := HB.out.ov.bel.size
          go_wp2_with (first | (at_builtin; refine wpList_append_own _ rfl _ _ 36 rfl w.heap.size 23 i0 (.agg #[.int .i64 0, .int .i64 0]) 2 16 Tryd.underlying36 hi hz0 hz1 hz2 rfl (by decide) _ _ _ rfl (HB.out.ov.own.alloc _) ⟨_, 0, none⟩ 1 1 [.int .i64 lg, .int .i64 dt] rfl rfl (cell2_new _ _ _ _ _ (by simp)) (by simp [Value.oneCell']) (by unfold maxLen; omega) (by omega) (by simp; omega) ?_; intro v' w9 hown' hgrow _))
          go_roundg (40 - (k + 1))
          case measure => omega
          case rel =>
            refine ⟨k + 1, by omega, rfl, by go_num, Lib.hid ⟨Below.grown (HB.out.ov.bel.alloc _) hgrow (by simp; omega) (fun r hr => (HB.out.ov.own.lt r hr).1), ?_⟩⟩
            rw [HC.out]
            exact hown'
    · obtain rfl : k = 40 := by omega
      have hnk : decide (((40 : Nat) : Int) + 1 ≤ 40) = false := rfl
      rcases HS.out.at (by omega) with ⟨h0, _⟩ | ⟨g, cap, rfl, hv⟩
      · omega
      have HV := Lib.hid hv
      clear hv
      go_wp2_with fail
      go_ret
      exact ⟨g, cap, rfl, HV.out, HS.out.bel.out⟩
end Go.Proofs.YtoobfcekgfgipaaDoor
