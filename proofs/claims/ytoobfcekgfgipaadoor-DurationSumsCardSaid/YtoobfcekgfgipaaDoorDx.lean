/- Durations: law Sums, the long lists. -/
import Derived.Test.YtoobfcekgfgipaaDoorDw
namespace Go.Proofs.YtoobfcekgfgipaaDoor
open Go.RowKit
set_option linter.unusedVariables false
set_option linter.unusedSimpArgs false

set_option maxRecDepth 100000 in
set_option maxHeartbeats 8000000 in
theorem sums_long (L : List (Int × Int)) (ad : Option Addr) (cap : Nat) (z : Int) (w : World) (hl : 30 < L.length) (h : VsAt w ad L) (hk : KT w) :
    Calls Tryd.prog 5 #[.slice ad L.length cap, .int .u8 z] w fun e w' => e = .returned (.bool true) ∧ Below w.heap.size w w' := by
  have B0 := Lib.hid (Bel.refl w)
  have K0 := Lib.hid hk
  have V0 := Lib.hid h
  clear h hk
  have hd : decide (30 < L.length) = true := decide_eq_true hl
  go_enter Tryd.func5, Tryd.ntmps5
  go_wp2_with fail
  refine (known_ok _ K0.out).mono ?_
  rintro e w1 ⟨rfl, hb⟩
  have B1 := Lib.hid (B0.out.up hb)
  have K1 := Lib.hid (K0.out.below hb)
  have V1 := Lib.hid (V0.out.up hb)
  clear hb B0 K0 V0
  go_wp2_with fail
  refine (known_ok _ K1.out).mono ?_
  rintro e w2 ⟨rfl, hb⟩
  have B2 := Lib.hid (B1.out.up hb)
  have K2 := Lib.hid (K1.out.below hb)
  have V2 := Lib.hid (V1.out.up hb)
  clear hb B1 K1 V1
  go_wp2_with fail
  go_ret
  exact ⟨rfl, B2.out.out⟩
set_option maxRecDepth 100000 in
set_option maxHeartbeats 8000000 in
theorem sums_ext (L : List (Int × Int)) (ad : Option Addr) (cap : Nat) (z : Int) (w : World) (hl : L.length ≤ 30) (hp : 0 < L.length) (z0 : 0 ≤ z) (z1 : z ≤ 255) (hz : z % 8 = 1) (hcap : L.length ≤ cap) (h : VsAt w ad L) (hk : KT w) :
    Calls Tryd.prog 5 #[.slice ad L.length cap, .int .u8 z] w fun e w' => e = .returned (.bool true) ∧ Below w.heap.size w w' := by
  have B0 := Lib.hid (Bel.refl w)
  have K0 := Lib.hid hk
  have V0 := Lib.hid h
  clear h hk
  have hd : decide (30 < L.length) = false := decide_eq_false (by omega)
  have hp2 : decide (0 < L.length) = true := decide_eq_true hp
  have hz2 : (z % 8 == 1) = true := by simpa using hz
  have hdi : decide (30 < (L.length : Int)) = false := decide_eq_false (by omega)
  have hpi : decide (0 < (L.length : Int)) = true := decide_eq_true (by omega)
  have e1 : z.tdiv 8 = z / 8 := Int.tdiv_eq_ediv_of_nonneg z0
  have q0 : 0 ≤ z.tdiv 8 := by omega
  have q1 : z.tdiv 8 ≤ 31 := by omega
  have e2 : (z.tdiv 8).tmod 3 = z.tdiv 8 % 3 := Int.tmod_eq_emod_of_nonneg q0
  have r0 : 0 ≤ (z.tdiv 8).tmod 3 := by omega
  have r1 : (z.tdiv 8).tmod 3 ≤ 2 := by omega
  clear e1 e2 hz
  obtain ⟨i0, hi, hi0, hi1, hi2⟩ := info_parts infoV
  go_enter Tryd.func5, Tryd.ntmps5
  go_wp2_with fail
  refine (known_ok _ K0.out).mono ?_
  rintro e w1 ⟨rfl, hb⟩
  have B1 := Lib.hid (B0.out.up hb)
  have K1 := Lib.hid (K0.out.below hb)
  have V1 := Lib.hid (V0.out.up hb)
  clear hb B0 K0 V0
  go_wp2_with fail
  clear K1
  go_loopg [0] (1025 - L.length) (fun gm v wr => ∃ (M : List (Int × Int)) (ad : Option Addr) (cap : Nat), 0 < M.length ∧ M.length ≤ 1025 ∧ M.length ≤ cap ∧ gm = 1025 - M.length ∧ v = .slice ad M.length cap ∧ Hid (Bel w wr) ∧ Hid (VsAt wr ad M))
  case atStart => exact ⟨L, ad, cap, hp, by omega, hcap, by omega, rfl, B1, V1⟩
  case round =>
    clear B1 V1 hd hp2 hp hl hcap hdi hpi
    obtain ⟨M, ad2, cap2, hp, hM, hcap, rfl, rfl, HB, HV⟩ := hrel
    obtain ⟨W0, hW0, HB, HV⟩ : ∃ W0, W0 = _ ∧ Hid (Bel w W0) ∧ Hid (VsAt W0 ad2 M) := ⟨_, rfl, HB, HV⟩
    subst hW0
    by_cases hlt : (M.length : Int) < 1024 + z.tdiv 8 % 3 - 1
    · have hd : decide ((M.length : Int) < 1024 + z.tdiv 8 % 3 - 1) = true := decide_eq_true hlt
      obtain ⟨x, hx⟩ : ∃ x, M[0]? = some x := ⟨_, List.getElem?_eq_getElem hp⟩
      obtain ⟨b, off, rfl, c0, c1⟩ := HV.out 0 x hx
      simp only [Nat.zero_mul, Nat.add_zero] at c0 c1
      go_wp2_with fail
      refine wp_region_any (by kernel_rfl) ?_
      have HB1 := Lib.hid (show Bel w { W0 with drawn := W0.drawn + 1 } from below_drew HB.out)
      have HV1 := Lib.hid (show VsAt { W0 with drawn := W0.drawn + 1 } (some ⟨b, off, none⟩) M from HV.out)
      have d0 : ({ W0 with drawn := W0.drawn + 1 } : World).cell? ⟨b, off, none⟩ = some (.int .i64 x.1) := c0
      have d1 : ({ W0 with drawn := W0.drawn + 1 } : World).cell? ⟨b, off + 1, none⟩ = some (.int .i64 x.2) := c1
      clear c0 c1 HB HV
      generalize ({ W0 with drawn := W0.drawn + 1 } : World) = W1 at *
      show wpAny _ _ _ _ 12 _ _ _
      refine wpAny_take (i := 0) rfl (by kernel_rfl) (by kernel_rfl) (by kernel_rfl) (fun _ _ _ h => h) (.inl ⟨rfl, fun _ => rfl⟩) ?_
      refine wpAny_take (i := 1) rfl (by kernel_rfl) (by kernel_rfl) (by kernel_rfl) (fun _ _ _ h => h) (.inl ⟨rfl, fun _ => rfl⟩) ?_
      refine wpAny_take (i := 2) (v := .int .i64 (M.length : Int)) rfl (by kernel_rfl) (by kernel_rfl) (by kernel_rfl) (fun _ _ _ h => h) (.inl ⟨by rfl, fun _ => by go_simp⟩) ?_
      refine wpAny_take (i := 3) rfl (by kernel_rfl) (by kernel_rfl) (by kernel_rfl) (fun _ _ _ h => h) (.inl ⟨rfl, fun _ => rfl⟩) ?_
      refine wpAny_take (i := 4) (v := .int .i64 (M.length : Int)) rfl (by kernel_rfl) (by kernel_rfl) (by kernel_rfl) (fun _ _ _ h => h) (.inl ⟨by rfl, fun _ => by go_simp⟩) ?_
      refine wpAny_take (i := 5) (v := .slice (some ⟨b, off, none⟩) M.length M.length) rfl (by kernel_rfl) (by kernel_rfl) (by kernel_rfl) (fun _ _ _ h => h) (.inl ⟨by rfl, fun _ => by go_simp⟩) ?_
      refine Qt.lineTail (k := 6) rfl (by kernel_rfl) ?_
      simp only [List.drop_succ_cons, List.drop_zero]
      go_wp2_with (first | (at_builtin; refine wpList_append_arg _ rfl _ _ 36 rfl 23 i0 (.agg #[.int .i64 0, .int .i64 0]) 2 16 Tryd.underlying36 hi hi0 hi1 hi2 rfl (by decide) b off M.length M.length (flatV M) rfl (flatV_len M) (fun j u hj => cell_up ((Below.refl _ _).alloc (Nat.le_refl _) _) (HV1.out.cells j u hj)) ⟨_, 0, none⟩ 1 1 (pC x) rfl rfl (cell2_new _ _ _ _ _ (by simp)) (by simp [Value.oneCell', pC]) (fun h => absurd h (by omega)) (by unfold maxLen; omega) (by omega) (fun h => absurd h (by omega)) (fun _ v' w9 hown' hgrow => ?_)))
      rw [← flatV_snoc] at hown'
      obtain ⟨ad3, cap3, rfl, hv3, hc3⟩ := VsAt.own (by simp) hown'
      have HB2 := Lib.hid (show Bel w w9 from Below.grown (HB1.out.alloc _) hgrow (by have := HB1.out.size; simp; omega) (fun r e => by cases e))
      have HV2 := Lib.hid hv3
      clear hown' hgrow hv3 HB1 HV1 d0 d1
      have hlen : (M ++ [x]).length = M.length + 1 := by simp
      go_roundg (1025 - (M.length + 1))
      case measure => omega
      case rel => exact ⟨M ++ [x], ad3, cap3, by omega, by omega, by omega, by rw [hlen], rfl, HB2, HV2⟩
    · have hd : decide ((M.length : Int) < 1024 + z.tdiv 8 % 3 - 1) = false := decide_eq_false hlt
      go_wp2_with fail
      by_cases hbig : 1024 < M.length
      · have g1 : decide (1024 < M.length) = true := decide_eq_true hbig
        have g2 : decide (1024 < (M.length : Int)) = true := decide_eq_true (by omega)
        refine (sum_long M ad2 cap2 _ hbig).mono ?_
        rintro e w2 ⟨rfl, hb⟩
        have B2 := Lib.hid (HB.out.up hb)
        clear hb
        go_wp2_with fail
        go_ret
        exact ⟨rfl, B2.out.out⟩
      · have g1 : decide (1024 < M.length) = false := decide_eq_false hbig
        have g2 : decide (1024 < (M.length : Int)) = false := decide_eq_false (by omega)
        rcases okT_or M M.length (Nat.le_refl _) with hok | ⟨m, zz, hm, hn, hok⟩
        · refine (sum_y M ad2 cap2 _ (by omega) hok HV.out).mono ?_
          rintro e w2 ⟨rfl, hb⟩
          have B2 := Lib.hid (HB.out.up hb)
          have V2 := Lib.hid (HV.out.up hb)
          replace hok := Lib.hid hok
          clear hb HB HV
          go_wp2_with fail
          go_loopg [7, 8] M.length (fun gm t i wr => ∃ k : Nat, k ≤ M.length ∧ gm = M.length - k ∧ i = .int .i64 (k : Int) ∧ t = .int .i64 (sumT M k) ∧ Hid (Bel w wr) ∧ Hid (VsAt wr ad2 M))
          case atStart => exact ⟨0, by omega, by omega, rfl, by rfl, B2, V2⟩
          case round =>
            clear B2 V2
            obtain ⟨k, hk, rfl, rfl, rfl, HB, HL⟩ := hrel
            by_cases hlt : k < M.length
            · obtain ⟨x, hx⟩ : ∃ x, M[k]? = some x := ⟨_, List.getElem?_eq_getElem (by omega)⟩
              obtain ⟨b, off, hadd, c0, c1⟩ := HL.out k x hx
              subst hadd
              have hkd : decide ((k : Int) < (M.length : Int)) = true := decide_eq_true (by omega)
              have hv : Va x.1 x.2 := hok.out k x (by omega) hx
              have HW := Lib.hid hv
              have HS := Lib.hid (sumT_succ hx)
              obtain ⟨s0, s1⟩ := sumT_bd (L := M) (k := k) (by omega) (fun j y hj hy => hok.out j y (by omega) hy)
              obtain ⟨t0, t1⟩ := lenV_bd hv
              obtain ⟨X, Y⟩ := x
              simp only at c0 c1 hv HW HS t0 t1
              have HK := Lib.hid (fun u => rticks_ok X Y u HW.out)
              generalize lenV X Y = Z at *
              generalize sumT M k = S at *
              clear hx hv
              go_wp2_with fail
              refine (valid_y X Y _ HW.out).mono ?_
              rintro e w4 ⟨rfl, hb⟩
              have HB4 := Lib.hid (HB.out.up hb)
              have HL4 := Lib.hid (HL.out.up hb)
              have q0 := cell_up hb c0
              have q1 := cell_up hb c1
              clear hb c0 c1 HB HL
              go_wp2_with fail
              refine (HK.out _).mono ?_
              rintro e w5 ⟨rfl, hb⟩
              have HB5 := Lib.hid (HB4.out.up hb)
              have HL5 := Lib.hid (HL4.out.up hb)
              clear hb q0 q1 HB4 HL4
              go_wp2_with fail
              go_roundg (M.length - (k + 1))
              case measure => omega
              case rel => exact ⟨k + 1, by omega, rfl, by go_num, by rw [HS.out], HB5, HL5⟩
            · obtain rfl : k = M.length := by omega
              have hkd : decide ((M.length : Int) < (M.length : Int)) = false := decide_eq_false (by omega)
              go_wp2_with fail
              go_ret
              exact ⟨rfl, HB.out.out⟩
        · have hml : m < M.length := (List.getElem?_eq_some_iff.1 hm).1
          refine (sum_n M ad2 cap2 _ (by omega) m zz hm hn hok HV.out).mono ?_
          rintro e w2 ⟨rfl, hb⟩
          have B2 := Lib.hid (HB.out.up hb)
          have V2 := Lib.hid (HV.out.up hb)
          replace hok := Lib.hid hok
          replace hm := Lib.hid hm
          replace hn := Lib.hid hn
          clear hb HB HV
          go_wp2_with fail
          go_loopg [7, 8] M.length (fun gm t i wr => ∃ k : Nat, k ≤ m ∧ gm = M.length - k ∧ i = .int .i64 (k : Int) ∧ t = .int .i64 (sumT M k) ∧ Hid (Bel w wr) ∧ Hid (VsAt wr ad2 M))
          case atStart => exact ⟨0, by omega, by omega, rfl, by rfl, B2, V2⟩
          case round =>
            clear B2 V2
            obtain ⟨k, hk, rfl, rfl, rfl, HB, HL⟩ := hrel
            by_cases hlt : k < m
            · obtain ⟨x, hx⟩ : ∃ x, M[k]? = some x := ⟨_, List.getElem?_eq_getElem (by omega)⟩
              obtain ⟨b, off, hadd, c0, c1⟩ := HL.out k x hx
              subst hadd
              have hkd : decide ((k : Int) < (M.length : Int)) = true := decide_eq_true (by omega)
              have hv : Va x.1 x.2 := hok.out k x (by omega) hx
              have HW := Lib.hid hv
              have HS := Lib.hid (sumT_succ hx)
              obtain ⟨s0, s1⟩ := sumT_bd (L := M) (k := k) (by omega) (fun j y hj hy => hok.out j y (by omega) hy)
              obtain ⟨t0, t1⟩ := lenV_bd hv
              obtain ⟨X, Y⟩ := x
              simp only at c0 c1 hv HW HS t0 t1
              have HK := Lib.hid (fun u => rticks_ok X Y u HW.out)
              generalize lenV X Y = Z at *
              generalize sumT M k = S at *
              clear hx hv
              go_wp2_with fail
              refine (valid_y X Y _ HW.out).mono ?_
              rintro e w4 ⟨rfl, hb⟩
              have HB4 := Lib.hid (HB.out.up hb)
              have HL4 := Lib.hid (HL.out.up hb)
              have q0 := cell_up hb c0
              have q1 := cell_up hb c1
              clear hb c0 c1 HB HL
              go_wp2_with fail
              refine (HK.out _).mono ?_
              rintro e w5 ⟨rfl, hb⟩
              have HB5 := Lib.hid (HB4.out.up hb)
              have HL5 := Lib.hid (HL4.out.up hb)
              clear hb q0 q1 HB4 HL4
              go_wp2_with fail
              go_roundg (M.length - (k + 1))
              case measure => omega
              case rel => exact ⟨k + 1, by omega, rfl, by go_num, by rw [HS.out], HB5, HL5⟩
            · obtain rfl : k = m := by omega
              obtain ⟨x, hx⟩ : ∃ x, M[k]? = some x := ⟨_, List.getElem?_eq_getElem (by omega)⟩
              obtain ⟨b, off, hadd, c0, c1⟩ := HL.out k x hx
              subst hadd
              have hkd : decide ((k : Int) < (M.length : Int)) = true := decide_eq_true (by omega)
              obtain rfl : x = zz := Option.some.inj (hx.symm.trans hm.out)
              have HN := hn
              obtain ⟨X, Y⟩ := x
              simp only at c0 c1 HN
              clear hx hm hn
              go_wp2_with fail
              refine (valid_n X Y _ HN.out).mono ?_
              rintro e w4 ⟨rfl, hb⟩
              have HB4 := Lib.hid (HB.out.up hb)
              clear hb c0 c1
              go_wp2_with fail
              go_ret
              exact ⟨rfl, HB4.out.out⟩
end Go.Proofs.YtoobfcekgfgipaaDoor
