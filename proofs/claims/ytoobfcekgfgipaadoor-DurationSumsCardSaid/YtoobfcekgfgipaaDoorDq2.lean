/- Durations: law Sums. -/
import Derived.Test.YtoobfcekgfgipaaDoorDx
import Derived.Test.YtoobfcekgfgipaaDoorDy
namespace Go.Proofs.YtoobfcekgfgipaaDoor
open Go.RowKit
set_option linter.unusedVariables false
set_option linter.unusedSimpArgs false

set_option maxRecDepth 100000 in
set_option maxHeartbeats 8000000 in
theorem sums_b (L : List (Int × Int)) (ad : Option Addr) (cap : Nat) (z : Int) (w : World) (hl : L.length ≤ 30) (z0 : 0 ≤ z) (z1 : z ≤ 255) (hz : z % 8 = 1) (hp : L.length = 0) (h : VsAt w ad L) (hk : KT w) :
    Calls Tryd.prog 5 #[.slice ad L.length cap, .int .u8 z] w fun e w' => e = .returned (.bool true) ∧ Below w.heap.size w w' := by
  have B0 := Lib.hid (Bel.refl w)
  have K0 := Lib.hid hk
  have V0 := Lib.hid h
  clear h hk
  have hd : decide (30 < L.length) = false := decide_eq_false (by omega)
  have hdi : decide (30 < (L.length : Int)) = false := decide_eq_false (by omega)
  have hz2 : (z % 8 == 1) = true := by simpa using hz
  have hp2 : decide (0 < L.length) = false := decide_eq_false (by omega)
  have hpi : decide (0 < (L.length : Int)) = false := decide_eq_false (by omega)
  clear hp hz
  go_enter Tryd.func5, Tryd.ntmps5
  go_wp2_with fail
  refine (known_ok _ K0.out).mono ?_
  rintro e w1 ⟨rfl, hb⟩
  have B1 := Lib.hid (B0.out.up hb)
  have K1 := Lib.hid (K0.out.below hb)
  have V1 := Lib.hid (V0.out.up hb)
  clear hb B0 K0 V0
  go_wp2_with fail
  clear K1 hd hdi
  by_cases hbig : 1024 < L.length
  · have g1 : decide (1024 < L.length) = true := decide_eq_true hbig
    have g2 : decide (1024 < (L.length : Int)) = true := decide_eq_true (by omega)
    refine (sum_long L ad cap _ hbig).mono ?_
    rintro e w2 ⟨rfl, hb⟩
    have B2 := Lib.hid (B1.out.up hb)
    clear hb
    go_wp2_with fail
    go_ret
    exact ⟨rfl, B2.out.out⟩
  · have g1 : decide (1024 < L.length) = false := decide_eq_false hbig
    have g2 : decide (1024 < (L.length : Int)) = false := decide_eq_false (by omega)
    rcases okT_or L L.length (Nat.le_refl _) with hok | ⟨m, zz, hm, hn, hok⟩
    · refine (sum_y L ad cap _ (by omega) hok V1.out).mono ?_
      rintro e w2 ⟨rfl, hb⟩
      have B2 := Lib.hid (B1.out.up hb)
      have V2 := Lib.hid (V1.out.up hb)
      replace hok := Lib.hid hok
      clear hb B1 V1
      go_wp2_with fail
      go_loopg [7, 8] L.length (fun gm t i wr => ∃ k : Nat, k ≤ L.length ∧ gm = L.length - k ∧ i = .int .i64 (k : Int) ∧ t = .int .i64 (sumT L k) ∧ Hid (Bel w wr) ∧ Hid (VsAt wr ad L))
      case atStart => exact ⟨0, by omega, by omega, rfl, by rfl, B2, V2⟩
      case round =>
        clear B2 V2
        obtain ⟨k, hk, rfl, rfl, rfl, HB, HL⟩ := hrel
        by_cases hlt : k < L.length
        · obtain ⟨x, hx⟩ : ∃ x, L[k]? = some x := ⟨_, List.getElem?_eq_getElem (by omega)⟩
          obtain ⟨b, off, hadd, c0, c1⟩ := HL.out k x hx
          subst hadd
          have hkd : decide ((k : Int) < (L.length : Int)) = true := decide_eq_true (by omega)
          have hv : Va x.1 x.2 := hok.out k x (by omega) hx
          have HW := Lib.hid hv
          have HS := Lib.hid (sumT_succ hx)
          obtain ⟨s0, s1⟩ := sumT_bd (L := L) (k := k) (by omega) (fun j y hj hy => hok.out j y (by omega) hy)
          obtain ⟨t0, t1⟩ := lenV_bd hv
          obtain ⟨X, Y⟩ := x
          simp only at c0 c1 hv HW HS t0 t1
          have HK := Lib.hid (fun u => rticks_ok X Y u HW.out)
          generalize lenV X Y = Z at *
          generalize sumT L k = S at *
          clear hx hv
          go_wp2_with fail
          refine (valid_y X Y _ HW.out).mono ?_
          rintro e w4 ⟨rfl, hb⟩
          have HB4 := Lib.hid (HB.out.up hb)
          have HL4 := Lib.hid (HL.out.up hb)
          have q0 := cell_up hb c0
          have q1 := cell_up hb c1
          clear hb c0 c1 HB HL
          go_wp2_with fail
          refine (HK.out _).mono ?_
          rintro e w5 ⟨rfl, hb⟩
          have HB5 := Lib.hid (HB4.out.up hb)
          have HL5 := Lib.hid (HL4.out.up hb)
          clear hb q0 q1 HB4 HL4
          go_wp2_with fail
          go_roundg (L.length - (k + 1))
          case measure => omega
          case rel => exact ⟨k + 1, by omega, rfl, by go_num, by rw [HS.out], HB5, HL5⟩
        · obtain rfl : k = L.length := by omega
          have hkd : decide ((L.length : Int) < (L.length : Int)) = false := decide_eq_false (by omega)
          go_wp2_with fail
          go_ret
          exact ⟨rfl, HB.out.out⟩
    · have hml : m < L.length := (List.getElem?_eq_some_iff.1 hm).1
      refine (sum_n L ad cap _ (by omega) m zz hm hn hok V1.out).mono ?_
      rintro e w2 ⟨rfl, hb⟩
      have B2 := Lib.hid (B1.out.up hb)
      have V2 := Lib.hid (V1.out.up hb)
      replace hok := Lib.hid hok
      replace hm := Lib.hid hm
      replace hn := Lib.hid hn
      clear hb B1 V1
      go_wp2_with fail
      go_loopg [7, 8] L.length (fun gm t i wr => ∃ k : Nat, k ≤ m ∧ gm = L.length - k ∧ i = .int .i64 (k : Int) ∧ t = .int .i64 (sumT L k) ∧ Hid (Bel w wr) ∧ Hid (VsAt wr ad L))
      case atStart => exact ⟨0, by omega, by omega, rfl, by rfl, B2, V2⟩
      case round =>
        clear B2 V2
        obtain ⟨k, hk, rfl, rfl, rfl, HB, HL⟩ := hrel
        by_cases hlt : k < m
        · obtain ⟨x, hx⟩ : ∃ x, L[k]? = some x := ⟨_, List.getElem?_eq_getElem (by omega)⟩
          obtain ⟨b, off, hadd, c0, c1⟩ := HL.out k x hx
          subst hadd
          have hkd : decide ((k : Int) < (L.length : Int)) = true := decide_eq_true (by omega)
          have hv : Va x.1 x.2 := hok.out k x (by omega) hx
          have HW := Lib.hid hv
          have HS := Lib.hid (sumT_succ hx)
          obtain ⟨s0, s1⟩ := sumT_bd (L := L) (k := k) (by omega) (fun j y hj hy => hok.out j y (by omega) hy)
          obtain ⟨t0, t1⟩ := lenV_bd hv
          obtain ⟨X, Y⟩ := x
          simp only at c0 c1 hv HW HS t0 t1
          have HK := Lib.hid (fun u => rticks_ok X Y u HW.out)
          generalize lenV X Y = Z at *
          generalize sumT L k = S at *
          clear hx hv
          go_wp2_with fail
          refine (valid_y X Y _ HW.out).mono ?_
          rintro e w4 ⟨rfl, hb⟩
          have HB4 := Lib.hid (HB.out.up hb)
          have HL4 := Lib.hid (HL.out.up hb)
          have q0 := cell_up hb c0
          have q1 := cell_up hb c1
          clear hb c0 c1 HB HL
          go_wp2_with fail
          refine (HK.out _).mono ?_
          rintro e w5 ⟨rfl, hb⟩
          have HB5 := Lib.hid (HB4.out.up hb)
          have HL5 := Lib.hid (HL4.out.up hb)
          clear hb q0 q1 HB4 HL4
          go_wp2_with fail
          go_roundg (L.length - (k + 1))
          case measure => omega
          case rel => exact ⟨k + 1, by omega, rfl, by go_num, by rw [HS.out], HB5, HL5⟩
        · obtain rfl : k = m := by omega
          obtain ⟨x, hx⟩ : ∃ x, L[k]? = some x := ⟨_, List.getElem?_eq_getElem (by omega)⟩
          obtain ⟨b, off, hadd, c0, c1⟩ := HL.out k x hx
          subst hadd
          have hkd : decide ((k : Int) < (L.length : Int)) = true := decide_eq_true (by omega)
          obtain rfl : x = zz := Option.some.inj (hx.symm.trans hm.out)
          have HN := hn
          obtain ⟨X, Y⟩ := x
          simp only at c0 c1 HN
          clear hx hm hn
          go_wp2_with fail
          refine (valid_n X Y _ HN.out).mono ?_
          rintro e w4 ⟨rfl, hb⟩
          have HB4 := Lib.hid (HB.out.up hb)
          clear hb c0 c1
          go_wp2_with fail
          go_ret
          exact ⟨rfl, HB4.out.out⟩
theorem law_DurationSums (L : List (Int × Int)) (ad : Option Addr) (cap : Nat) (z : Int) (w : World) (hcap : L.length ≤ cap) (z0 : 0 ≤ z) (z1 : z ≤ 255) (h : VsAt w ad L) (hk : KT w) :
    Calls Tryd.prog 5 #[.slice ad L.length cap, .int .u8 z] w fun e w' => e = .returned (.bool true) ∧ Below w.heap.size w w' := by
  by_cases hl : 30 < L.length
  · exact sums_long L ad cap z w hl h hk
  · by_cases hz : z % 8 = 1
    · by_cases hp : L.length = 0
      · exact sums_b L ad cap z w (by omega) z0 z1 hz hp h hk
      · exact sums_ext L ad cap z w (by omega) (by omega) z0 z1 hz hcap h hk
    · exact sums_a L ad cap z w (by omega) z0 z1 hz h hk
end Go.Proofs.YtoobfcekgfgipaaDoor
