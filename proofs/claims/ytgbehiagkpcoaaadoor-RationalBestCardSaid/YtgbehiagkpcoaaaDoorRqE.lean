/- The walk of the law on best approximations. -/
import Derived.Test.YtgbehiagkpcoaaaDoorRt
namespace Go.Proofs.YtgbehiagkpcoaaaDoor
open Go.RowKit
set_option linter.unusedVariables false
set_option linter.unusedSimpArgs false

set_option maxRecDepth 100000 in
set_option maxHeartbeats 4000000 in
theorem law_RationalBest (a0 a1 most : Int) (w : World) (ht : Tab w) :
    Calls Tryd.prog 9 #[.agg #[.int .i64 a0, .int .i64 a1], .int .i64 most] w fun e w' => e = .returned (.bool true) ∧ Below w.heap.size w w' := by
  have HT := Lib.hid ht
  clear ht
  go_enter Tryd.func9, Tryd.ntmps9
  go_wp2_with fail
  refine (of_fr a0 a1 _).mono ?_
  rintro e w1 ⟨N1, D1, L1, rfl, hb⟩
  have B1 := Lib.hid (((Bel.refl w).alloc _).up hb)
  have Ta1 := (Two.new _ _ _ _ (w.heap.size) (by simp)).up hb
  clear hb
  obtain ⟨a01, a11, a21, a31, a41⟩ := id Ta1
  have p1 := L1.pos
  have l1 := L1.le
  have m1 := L1.num
  unfold Rat1.mx at l1 m1
  by_cases h60 : 60 < most
  · skip
    by_cases hM : most ≤ 1073741824
    · have t1 : 0 ≤ most % 60 := Int.emod_nonneg _ (by omega)
      have t2 : most % 60 < 60 := Int.emod_lt_of_pos _ (by omega)
      by_cases h0 : most % 60 < 1
      · skip
        go_wp2_with fail
        refine (best_range _ _ (most % 60) _ (by omega)).mono ?_
        rintro e w2 ⟨rfl, hb⟩
        have B2 := Lib.hid ((((B1.out).alloc _).alloc _).up hb)
        have Ta2 := (((Ta1).alloc _).alloc _).up hb
        have Tx2 := ((Two.new _ _ _ _ (w1.heap.size) (by simp)).alloc _).up hb
        have Tp2 := (Two.new _ _ _ _ (w1.heap.size + 1) (by simp)).up hb
        clear hb Ta1 a01 a11 a21 a31 a41
        obtain ⟨a02, a12, a22, a32, a42⟩ := id Ta2
        obtain ⟨x02, x12, x22, x32, x42⟩ := id Tx2
        obtain ⟨p02, p12, p22, p32, p42⟩ := id Tp2
        go_wp2_with fail
        refine (known_any _ (HT.out.below (B2.out.alloc _).out)).mono ?_
        rintro e w3 ⟨rfl, hb⟩
        have B3 := Lib.hid (((B2.out).alloc _).up hb)
        have Ta3 := ((Ta2).alloc _).up hb
        have Tx3 := ((Tx2).alloc _).up hb
        have Tp3 := ((Tp2).alloc _).up hb
        have Tb3 := (Two.new _ _ _ _ (w2.heap.size) (by simp)).up hb
        clear hb Ta2 Tx2 Tp2 a02 a12 a22 a32 a42 x02 x12 x22 x32 x42 p02 p12 p22 p32 p42
        obtain ⟨a03, a13, a23, a33, a43⟩ := id Ta3
        obtain ⟨x03, x13, x23, x33, x43⟩ := id Tx3
        obtain ⟨p03, p13, p23, p33, p43⟩ := id Tp3
        obtain ⟨b03, b13, b23, b33, b43⟩ := id Tb3
        go_wp2
        go_ret
        exact ⟨rfl, (show Bel w _ by repeat (first | exact B3.out | refine Bel.alloc ?_ _))⟩
      · skip
        go_wp2_with fail
        refine (best_B N1 D1 (most % 60) _ L1 (by omega) (by omega)).mono ?_
        rintro e w2 ⟨P, Q, HP, rfl, hb⟩
        have B2 := Lib.hid ((((B1.out).alloc _).alloc _).up hb)
        have Ta2 := (((Ta1).alloc _).alloc _).up hb
        have Tx2 := ((Two.new _ _ _ _ (w1.heap.size) (by simp)).alloc _).up hb
        have Tp2 := (Two.new _ _ _ _ (w1.heap.size + 1) (by simp)).up hb
        clear hb Ta1 a01 a11 a21 a31 a41
        obtain ⟨a02, a12, a22, a32, a42⟩ := id Ta2
        obtain ⟨x02, x12, x22, x32, x42⟩ := id Tx2
        obtain ⟨p02, p12, p22, p32, p42⟩ := id Tp2
        have q1 := HP.out.2.pos
        have q2 := HP.out.2.le
        have q3 := HP.out.2.num
        unfold Rat1.mx at q2 q3
        go_wp2_with fail
        refine Qt.regionAll (by kernel_rfl) (by kernel_rfl) ?_
        intro T3 g3 F3 hne3
        have HB3 := Lib.hid (fun t => ((B2.out).alloc _).up (F3.below t))
        have Ta3 := fun t => ((Ta2).alloc _).up (F3.below t)
        have Tx3 := fun t => ((Tx2).alloc _).up (F3.below t)
        have Tp3 := fun t => ((Tp2).alloc _).up (F3.below t)
        have Tb3 := fun t => (Two.new _ _ _ _ (w2.heap.size) (by simp)).up (F3.below t)
        have a13 := fun t => (Ta3 t).c0
        have a23 := fun t => (Ta3 t).c1
        have x13 := fun t => (Tx3 t).c0
        have x23 := fun t => (Tx3 t).c1
        have p13 := fun t => (Tp3 t).c0
        have p23 := fun t => (Tp3 t).c1
        have b13 := fun t => (Tb3 t).c0
        have b23 := fun t => (Tb3 t).c1
        clear a02 a12 a22 a32 a42 x02 x12 x22 x32 x42 p02 p12 p22 p32 p42 Ta2 Tx2 Tp2
        repeat (go_big_quiet_step (first | (go_at_call 18; with_reducible exact F3.call (known_any _ (HT.out.below (HB3.out _).out))) | (go_at_call 38; with_reducible exact F3.call (bestR_any N1 D1 (most % 60) P Q _ (by omega) (by omega) (by omega) (by omega) (by omega) (by omega) HP)) | (go_at_call 19; with_reducible exact F3.call (same_okD P Q _ HP.out.2))))
        refine wpQuiet_nil ?_
        rintro _ ⟨t3, rfl⟩
        have B3 := Lib.hid (HB3.out t3)
        replace Ta3 := Ta3 t3
        replace Tx3 := Tx3 t3
        replace Tp3 := Tp3 t3
        replace Tb3 := Tb3 t3
        clear F3 HB3 hne3 a13 a23 x13 x23 p13 p23 b13 b23
        generalize g3 t3 = w3 at *
        clear g3
        obtain ⟨a03, a13, a23, a33, a43⟩ := id Ta3
        obtain ⟨x03, x13, x23, x33, x43⟩ := id Tx3
        obtain ⟨p03, p13, p23, p33, p43⟩ := id Tp3
        obtain ⟨b03, b13, b23, b33, b43⟩ := id Tb3
        go_wp2
        go_ret
        exact ⟨rfl, (show Bel w _ by repeat (first | exact B3.out | refine Bel.alloc ?_ _))⟩
    · skip
      go_wp2_with fail
      refine (best_range _ _ (most) _ (by omega)).mono ?_
      rintro e w2 ⟨rfl, hb⟩
      have B2 := Lib.hid ((((B1.out).alloc _).alloc _).up hb)
      have Ta2 := (((Ta1).alloc _).alloc _).up hb
      have Tx2 := ((Two.new _ _ _ _ (w1.heap.size) (by simp)).alloc _).up hb
      have Tp2 := (Two.new _ _ _ _ (w1.heap.size + 1) (by simp)).up hb
      clear hb Ta1 a01 a11 a21 a31 a41
      obtain ⟨a02, a12, a22, a32, a42⟩ := id Ta2
      obtain ⟨x02, x12, x22, x32, x42⟩ := id Tx2
      obtain ⟨p02, p12, p22, p32, p42⟩ := id Tp2
      go_wp2_with fail
      refine (known_any _ (HT.out.below (B2.out.alloc _).out)).mono ?_
      rintro e w3 ⟨rfl, hb⟩
      have B3 := Lib.hid (((B2.out).alloc _).up hb)
      have Ta3 := ((Ta2).alloc _).up hb
      have Tx3 := ((Tx2).alloc _).up hb
      have Tp3 := ((Tp2).alloc _).up hb
      have Tb3 := (Two.new _ _ _ _ (w2.heap.size) (by simp)).up hb
      clear hb Ta2 Tx2 Tp2 a02 a12 a22 a32 a42 x02 x12 x22 x32 x42 p02 p12 p22 p32 p42
      obtain ⟨a03, a13, a23, a33, a43⟩ := id Ta3
      obtain ⟨x03, x13, x23, x33, x43⟩ := id Tx3
      obtain ⟨p03, p13, p23, p33, p43⟩ := id Tp3
      obtain ⟨b03, b13, b23, b33, b43⟩ := id Tb3
      go_wp2
      go_ret
      exact ⟨rfl, (show Bel w _ by repeat (first | exact B3.out | refine Bel.alloc ?_ _))⟩
  · skip
    by_cases h0 : most < 1
    · skip
      go_wp2_with fail
      refine (best_range _ _ (most) _ (by omega)).mono ?_
      rintro e w2 ⟨rfl, hb⟩
      have B2 := Lib.hid ((((B1.out).alloc _).alloc _).up hb)
      have Ta2 := (((Ta1).alloc _).alloc _).up hb
      have Tx2 := ((Two.new _ _ _ _ (w1.heap.size) (by simp)).alloc _).up hb
      have Tp2 := (Two.new _ _ _ _ (w1.heap.size + 1) (by simp)).up hb
      clear hb Ta1 a01 a11 a21 a31 a41
      obtain ⟨a02, a12, a22, a32, a42⟩ := id Ta2
      obtain ⟨x02, x12, x22, x32, x42⟩ := id Tx2
      obtain ⟨p02, p12, p22, p32, p42⟩ := id Tp2
      go_wp2_with fail
      refine (known_any _ (HT.out.below (B2.out.alloc _).out)).mono ?_
      rintro e w3 ⟨rfl, hb⟩
      have B3 := Lib.hid (((B2.out).alloc _).up hb)
      have Ta3 := ((Ta2).alloc _).up hb
      have Tx3 := ((Tx2).alloc _).up hb
      have Tp3 := ((Tp2).alloc _).up hb
      have Tb3 := (Two.new _ _ _ _ (w2.heap.size) (by simp)).up hb
      clear hb Ta2 Tx2 Tp2 a02 a12 a22 a32 a42 x02 x12 x22 x32 x42 p02 p12 p22 p32 p42
      obtain ⟨a03, a13, a23, a33, a43⟩ := id Ta3
      obtain ⟨x03, x13, x23, x33, x43⟩ := id Tx3
      obtain ⟨p03, p13, p23, p33, p43⟩ := id Tp3
      obtain ⟨b03, b13, b23, b33, b43⟩ := id Tb3
      go_wp2
      go_ret
      exact ⟨rfl, (show Bel w _ by repeat (first | exact B3.out | refine Bel.alloc ?_ _))⟩
    · skip
      go_wp2_with fail
      refine (best_B N1 D1 (most) _ L1 (by omega) (by omega)).mono ?_
      rintro e w2 ⟨P, Q, HP, rfl, hb⟩
      have B2 := Lib.hid ((((B1.out).alloc _).alloc _).up hb)
      have Ta2 := (((Ta1).alloc _).alloc _).up hb
      have Tx2 := ((Two.new _ _ _ _ (w1.heap.size) (by simp)).alloc _).up hb
      have Tp2 := (Two.new _ _ _ _ (w1.heap.size + 1) (by simp)).up hb
      clear hb Ta1 a01 a11 a21 a31 a41
      obtain ⟨a02, a12, a22, a32, a42⟩ := id Ta2
      obtain ⟨x02, x12, x22, x32, x42⟩ := id Tx2
      obtain ⟨p02, p12, p22, p32, p42⟩ := id Tp2
      have q1 := HP.out.2.pos
      have q2 := HP.out.2.le
      have q3 := HP.out.2.num
      unfold Rat1.mx at q2 q3
      go_wp2_with fail
      refine Qt.regionAll (by kernel_rfl) (by kernel_rfl) ?_
      intro T3 g3 F3 hne3
      have HB3 := Lib.hid (fun t => ((B2.out).alloc _).up (F3.below t))
      have Ta3 := fun t => ((Ta2).alloc _).up (F3.below t)
      have Tx3 := fun t => ((Tx2).alloc _).up (F3.below t)
      have Tp3 := fun t => ((Tp2).alloc _).up (F3.below t)
      have Tb3 := fun t => (Two.new _ _ _ _ (w2.heap.size) (by simp)).up (F3.below t)
      have a13 := fun t => (Ta3 t).c0
      have a23 := fun t => (Ta3 t).c1
      have x13 := fun t => (Tx3 t).c0
      have x23 := fun t => (Tx3 t).c1
      have p13 := fun t => (Tp3 t).c0
      have p23 := fun t => (Tp3 t).c1
      have b13 := fun t => (Tb3 t).c0
      have b23 := fun t => (Tb3 t).c1
      clear a02 a12 a22 a32 a42 x02 x12 x22 x32 x42 p02 p12 p22 p32 p42 Ta2 Tx2 Tp2
      repeat (go_big_quiet_step (first | (go_at_call 18; with_reducible exact F3.call (known_any _ (HT.out.below (HB3.out _).out))) | (go_at_call 38; with_reducible exact F3.call (bestR_any N1 D1 (most) P Q _ (by omega) (by omega) (by omega) (by omega) (by omega) (by omega) HP)) | (go_at_call 19; with_reducible exact F3.call (same_okD P Q _ HP.out.2))))
      refine wpQuiet_nil ?_
      rintro _ ⟨t3, rfl⟩
      have B3 := Lib.hid (HB3.out t3)
      replace Ta3 := Ta3 t3
      replace Tx3 := Tx3 t3
      replace Tp3 := Tp3 t3
      replace Tb3 := Tb3 t3
      clear F3 HB3 hne3 a13 a23 x13 x23 p13 p23 b13 b23
      generalize g3 t3 = w3 at *
      clear g3
      obtain ⟨a03, a13, a23, a33, a43⟩ := id Ta3
      obtain ⟨x03, x13, x23, x33, x43⟩ := id Tx3
      obtain ⟨p03, p13, p23, p33, p43⟩ := id Tp3
      obtain ⟨b03, b13, b23, b33, b43⟩ := id Tb3
      go_wp2
      go_ret
      exact ⟨rfl, (show Bel w _ by repeat (first | exact B3.out | refine Bel.alloc ?_ _))⟩
end Go.Proofs.YtgbehiagkpcoaaaDoor
