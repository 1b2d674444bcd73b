/- Keys: the scale in the highest octave. -/
import Derived.Test.YthdkfeehabpikaaDoorMm
namespace Go.Proofs.YthdkfeehabpikaaDoor
open Go.RowKit
set_option linter.unusedVariables false
set_option linter.unusedSimpArgs false

set_option maxRecDepth 100000 in
set_option maxHeartbeats 2000000 in
theorem mscale_top (f T : Int) (w : World) (h : Sg f) (hTT : shI ((f + 3 + 1) % 7) = T) (h0 : T ≤ 0) (hk : KT w) :
    Calls Tryd.prog 7 #[.int .i64 f, .bool true, .int .i64 9] w fun e w' => ∃ b, e = .returned (.tuple #[.slice (some ⟨b, 0, none⟩) 7 7, .int .i64 0]) ∧ Cel w' b (tgt f T 9) ∧ Below w.heap.size w w' := by
  have B0 := Lib.hid (Bel.refl w)
  have K0 := Lib.hid hk
  have HP := Lib.hid h
  obtain ⟨sb0, sb1⟩ := shI_bd ((f + 3 + 1) % 7)
  have KT1 := fun v hv => tonic_y f v HP.out hv
  have hT := hTT
  obtain ⟨D, hD⟩ : ∃ D, (f + 3 + 1) / 7 = D := ⟨_, rfl⟩
  simp only [hT, hD] at sb0 sb1 KT1
  clear hT hD hTT h
  replace KT1 := Lib.hid KT1
  have HK := Lib.hid hk
  obtain ⟨i0, hi, hz0, hz1, hz2⟩ := info_parts infoP
  go_enter Tryd.func7, Tryd.ntmps7
  go_wp2_with fail
  refine (checkK_ok f _ HP.out).mono ?_
  rintro e w1 ⟨rfl, hb⟩
  have B1 := Lib.hid (B0.out.up hb)
  have K1 := Lib.hid (K0.out.below hb)
  clear hb B0 K0 
  go_wp2_with fail
  refine (KT1.out _ K1.out).mono ?_
  rintro e w2 ⟨rfl, hb⟩
  have B2 := Lib.hid (B1.out.up hb)
  have K2 := Lib.hid (K1.out.below hb)
  clear hb B1 K1 
  have hsz : w.heap.size ≤ w2.heap.size := B2.out.size
  go_wp2_with (first | (at_make; refine wpList_make_full _ rfl _ _ 22 rfl w.heap.size 33 i0 (.agg #[.int .i64 0, .int .i64 0, .int .i64 0]) 3 Tryd.underlying22 hi hz0 hz1 .i64 .i64 7 7 7 rfl rfl rfl rfl (by rw [hz2]; omega) (by unfold maxLen; omega) hsz ?_; intro w3 hown hgrow))
  have C3 := Lib.hid (show Cel w3 w2.heap.size (fun j => ((madeCells (Value.agg #[Value.int IntKind.i64 0, Value.int IntKind.i64 0, Value.int IntKind.i64 0]).cells (7 * 3)).toList[j]?).getD undef) from fun j hj => ⟨by rw [hown.cellAt j (by omega)]; exact getD_some (by rw [hown.1]; omega), hown.frozenAt j⟩)
  have B3 := Lib.hid (show Bel w w3 from Below.grown B2.out hgrow hsz (fun k hk => by cases hk))
  have hwz : w.heap.size ≤ w2.heap.size := hsz
  clear hown hgrow hsz B2 K2 hi hz0 hz1 hz2
  go_loopg [43] 7 (fun gm i wr => ∃ k : Nat, k ≤ 7 ∧ gm = 7 - k ∧ i = .int .i64 (k : Int) ∧ ∃ vs : Nat → Value, Hid (∀ j, j < k * 3 → vs j = tgt f T 9 j) ∧ Hid (Cel wr w2.heap.size vs) ∧ Hid (Bel w wr))
  case atStart => exact ⟨0, by omega, by omega, rfl, _, Lib.hid (fun j h => absurd h (by omega)), C3, B3⟩
  case round =>
    obtain ⟨k, hk7, rfl, rfl, vs, HV, HC, HB⟩ := hrel
    clear C3 B3
    by_cases hlt : k < 7
    · obtain ⟨c0, g0⟩ := HC.out (k * 3) (by omega)
      obtain ⟨c1, g1⟩ := HC.out (k * 3 + 1) (by omega)
      obtain ⟨c2, g2⟩ := HC.out (k * 3 + 2) (by omega)
      go_wp2_with fail
      refine (alter_ok f ((T + (k : Int)) % 7) _ HP.out (HK.out.below HB.out.out)).mono ?_
      rintro e w4 ⟨rfl, hb⟩
      have C4 := HC.out.up hb
      have B4 := HB.out.up hb
      clear hb HC HB c0 c1 c2 g0 g1 g2
      obtain ⟨c0, g0⟩ := C4 (k * 3) (by omega)
      obtain ⟨c1, g1⟩ := C4 (k * 3 + 1) (by omega)
      obtain ⟨c2, g2⟩ := C4 (k * 3 + 2) (by omega)
      have q0 : 0 ≤ (T + (k : Int)) / 7 ∧ (T + (k : Int)) / 7 ≤ 1 := by omega
      obtain ⟨q0, q1⟩ := q0
      obtain ⟨A, hA⟩ : ∃ A, alI f ((T + (k : Int)) % 7) = A := ⟨_, rfl⟩
      have HT1 := Lib.hid (show tgt f T 9 (k * 3 + 1) = .int .i64 A by rw [tgt1, hA])
      rw [hA]
      clear hA
      have C5 := Lib.hid (((C4.set (k * 3) (by omega) (.int .i64 ((T + (k : Int)) % 7))).set (k * 3 + 1) (by omega) (.int .i64 A)).set (k * 3 + 2) (by omega) (.int .i64 (9 + (T + (k : Int)) / 7)))
      have B5 := Lib.hid (((B4.set hwz (k * 3) (.int .i64 ((T + (k : Int)) % 7))).set hwz (k * 3 + 1) (.int .i64 A)).set hwz (k * 3 + 2) (.int .i64 (9 + (T + (k : Int)) / 7)))
      clear C4 B4
      go_wp2_with fail
      go_roundg (7 - (k + 1))
      case measure => omega
      case rel => exact ⟨k + 1, by omega, rfl, by go_num, _, Lib.hid (fun j h => by
        by_cases e2 : j = k * 3 + 2
        · subst e2; rw [if_pos rfl, tgt2]
        · rw [if_neg e2]
          by_cases e1 : j = k * 3 + 1
          · subst e1; rw [if_pos rfl, HT1.out]
          · rw [if_neg e1]
            by_cases e0 : j = k * 3
            · subst e0; rw [if_pos rfl, tgt0]
            · rw [if_neg e0]; exact HV.out j (by omega)), C5, B5⟩
    · obtain rfl : k = 7 := by omega
      go_wp2_with fail
      go_ret2
      exact ⟨w2.heap.size, rfl, HC.out.eq (fun j hj => HV.out j (by omega)), HB.out.out⟩
end Go.Proofs.YthdkfeehabpikaaDoor
