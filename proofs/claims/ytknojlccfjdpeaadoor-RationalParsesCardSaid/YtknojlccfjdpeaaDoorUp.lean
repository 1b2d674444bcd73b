/- The walk of the law on texts that are read. -/
import Derived.Test.YtknojlccfjdpeaaDoorTg
namespace Go.Proofs.YtknojlccfjdpeaaDoor
open Go.RowKit
set_option linter.unusedVariables false
set_option linter.unusedSimpArgs false

set_option maxRecDepth 100000 in
set_option maxHeartbeats 2000000 in
theorem law_RationalParses (s : ByteArray) (w : World) (hs : s.size ≤ 9223372036854775807) (ht : Tab w) :
    Calls Tryd.prog 4 #[.string s] w fun e w' => e = .returned (.bool true) ∧ Below w.heap.size w w' := by
  have HT := Lib.hid ht
  clear ht
  have hz : (s.extract 0 (min (s.size : Int) 60).toNat).size ≤ 60 := by rw [ByteArray.size_extract]; omega
  rcases Rat1.parseQ_cases (s.extract 0 (min (s.size : Int) 60).toNat).data.toList with ⟨n, d, hE, hP⟩ | ⟨A, X, hX, hP⟩
  · have LO := low_of n d
    have C1 : ∀ w : World, Tab w → Calls Tryd.prog 7 #[.string (s.extract 0 (min (s.size : Int) 60).toNat)] w fun e w' => e = .returned (.tuple #[.agg #[.int .i64 (Rat1.ofN n d), .int .i64 (Rat1.ofD n d - 1)], .int .i64 0, .int .i64 0]) ∧ Below w.heap.size w w' := by
      intro w h
      have k := parse_any (s.extract 0 (min (s.size : Int) 60).toNat) w (by omega) h
      rw [hP] at k
      exact k
    replace C1 := Lib.hid C1
    have C2 : ∀ w : World, Tab w → Calls Tryd.prog 11 #[.string (s.extract 0 (min (s.size : Int) 60).toNat)] w fun e w' => e = .returned (.tuple #[.agg #[.int .i64 (Rat1.ofN n d), .int .i64 (Rat1.ofD n d)], .int .i64 0, .int .i64 0]) ∧ Below w.heap.size w w' := by
      intro w h
      have k := refParse_any (s.extract 0 (min (s.size : Int) 60).toNat) w (by omega)
      rw [hP] at k
      exact k
    replace C2 := Lib.hid C2
    clear hP hE hz
    go_enter Tryd.func4, Tryd.ntmps4
    go_wp2_with fail
    refine (C1.out _ HT.out).mono ?_
    rintro e w1 ⟨rfl, hb⟩
    have B1 := Lib.hid ((Bel.refl w).up hb)
    clear hb
    go_wp2_with fail
    refine (C2.out _ (HT.out.below (B1.out.alloc _).out)).mono ?_
    rintro e w2 ⟨rfl, hb⟩
    have B2 := Lib.hid (((B1.out).alloc _).up hb)
    have Tx2 := (Two.new _ _ _ _ (w1.heap.size) (by simp)).up hb
    clear hb
    obtain ⟨x02, x12, x22, x32, x42⟩ := id Tx2
    go_wp2_with fail
    refine (known_any _ (HT.out.below (B2.out.alloc _).out)).mono ?_
    rintro e w3 ⟨rfl, hb⟩
    have B3 := Lib.hid (((B2.out).alloc _).up hb)
    have Tx3 := ((Tx2).alloc _).up hb
    have Tq3 := (Two.new _ _ _ _ (w2.heap.size) (by simp)).up hb
    clear hb Tx2 x02 x12 x22 x32 x42
    obtain ⟨x03, x13, x23, x33, x43⟩ := id Tx3
    obtain ⟨q03, q13, q23, q33, q43⟩ := id Tq3
    go_wp2_with fail
    refine (same_okD _ _ _ LO).mono ?_
    rintro e w4 ⟨rfl, hb⟩
    have B4 := Lib.hid ((B3.out).up hb)
    have Tx4 := (Tx3).up hb
    have Tq4 := (Tq3).up hb
    clear hb Tx3 Tq3 x03 x13 x23 x33 x43 q03 q13 q23 q33 q43
    obtain ⟨x04, x14, x24, x34, x44⟩ := id Tx4
    obtain ⟨q04, q14, q24, q34, q44⟩ := id Tq4
    go_wp2
    go_ret
    exact ⟨rfl, (show Bel w _ by repeat (first | exact B4.out | refine Bel.alloc ?_ _))⟩
  · have C1 : ∀ w : World, Tab w → Calls Tryd.prog 7 #[.string (s.extract 0 (min (s.size : Int) 60).toNat)] w fun e w' => e = .returned (.tuple #[.agg #[.int .i64 0, .int .i64 0], .int .i64 A, .int .i64 X]) ∧ Below w.heap.size w w' := by
      intro w h
      have k := parse_any (s.extract 0 (min (s.size : Int) 60).toNat) w (by omega) h
      rw [hP] at k
      exact k
    replace C1 := Lib.hid C1
    have C2 : ∀ w : World, Tab w → Calls Tryd.prog 11 #[.string (s.extract 0 (min (s.size : Int) 60).toNat)] w fun e w' => e = .returned (.tuple #[.agg #[.int .i64 0, .int .i64 1], .int .i64 A, .int .i64 X]) ∧ Below w.heap.size w w' := by
      intro w h
      have k := refParse_any (s.extract 0 (min (s.size : Int) 60).toNat) w (by omega)
      rw [hP] at k
      exact k
    replace C2 := Lib.hid C2
    have hX' : (X == 0) = false := by simpa using hX
    clear hP hX hz
    go_enter Tryd.func4, Tryd.ntmps4
    go_wp2_with fail
    refine (C1.out _ HT.out).mono ?_
    rintro e w1 ⟨rfl, hb⟩
    have B1 := Lib.hid ((Bel.refl w).up hb)
    clear hb
    go_wp2_with fail
    refine (C2.out _ (HT.out.below (B1.out.alloc _).out)).mono ?_
    rintro e w2 ⟨rfl, hb⟩
    have B2 := Lib.hid (((B1.out).alloc _).up hb)
    have Tx2 := (Two.new _ _ _ _ (w1.heap.size) (by simp)).up hb
    clear hb
    obtain ⟨x02, x12, x22, x32, x42⟩ := id Tx2
    go_wp2_with fail
    refine (known_any _ (HT.out.below (B2.out.alloc _).out)).mono ?_
    rintro e w3 ⟨rfl, hb⟩
    have B3 := Lib.hid (((B2.out).alloc _).up hb)
    have Tx3 := ((Tx2).alloc _).up hb
    have Tq3 := (Two.new _ _ _ _ (w2.heap.size) (by simp)).up hb
    clear hb Tx2 x02 x12 x22 x32 x42
    obtain ⟨x03, x13, x23, x33, x43⟩ := id Tx3
    obtain ⟨q03, q13, q23, q33, q43⟩ := id Tq3
    go_wp2_with fail
    refine (same_err X X 0 1 _ hX' rfl).mono ?_
    rintro e w4 ⟨rfl, hb⟩
    have B4 := Lib.hid ((B3.out).up hb)
    have Tx4 := (Tx3).up hb
    have Tq4 := (Tq3).up hb
    clear hb Tx3 Tq3 x03 x13 x23 x33 x43 q03 q13 q23 q33 q43
    obtain ⟨x04, x14, x24, x34, x44⟩ := id Tx4
    obtain ⟨q04, q14, q24, q34, q44⟩ := id Tq4
    go_wp2
    go_ret
    exact ⟨rfl, (show Bel w _ by repeat (first | exact B4.out | refine Bel.alloc ?_ _))⟩
end Go.Proofs.YtknojlccfjdpeaaDoor
