/- Durations: Flags, Stemmed, law Flags. -/
import Derived.Test.YtoobfcekgfgipaaDoorDm
namespace Go.Proofs.YtoobfcekgfgipaaDoor
open Go.RowKit
set_option linter.unusedVariables false
set_option linter.unusedSimpArgs false

set_option maxRecDepth 100000 in
set_option maxHeartbeats 2000000 in
theorem flags_n (l d : Int) (w : World) (h : ¬ Va l d) :
    Calls Tryd.prog 23 #[.agg #[.int .i64 l, .int .i64 d]] w fun e w' => e = .returned (.int .i64 0) ∧ Below w.heap.size w w' := by
  have H := Lib.hid h
  have B0 := Lib.hid ((Bel.refl w).alloc (.cells #[.int .i64 l, .int .i64 d] 23))
  have X0 := Duo.new w (.int .i64 l) (.int .i64 d) 23 (w.heap.size) (by simp)
  clear h
  go_enter Tryd.func23, Tryd.ntmps23
  obtain ⟨xf0, xf1, xf2, xf3, xf4⟩ := id X0
  go_wp2_with fail
  clear xf0 xf1 xf2 xf3 xf4
  refine (check_n l d _ H.out).mono ?_
  rintro e w1 ⟨rfl, hb⟩
  have B1 := Lib.hid (B0.out.up hb)
  have X1 := X0.up hb
  clear hb B0  X0
  obtain ⟨xf0, xf1, xf2, xf3, xf4⟩ := id X1
  go_wp2_with fail
  go_ret
  exact ⟨rfl, B1.out.out⟩
set_option maxRecDepth 100000 in
set_option maxHeartbeats 2000000 in
theorem flags_lo (l d : Int) (w : World) (h : Va l d) (hl : l < 3) :
    Calls Tryd.prog 23 #[.agg #[.int .i64 l, .int .i64 d]] w fun e w' => e = .returned (.int .i64 0) ∧ Below w.heap.size w w' := by
  have H := Lib.hid h
  obtain ⟨l0, l1, d0, d1⟩ := h
  have a0 : decide (l < 3) = true := decide_eq_true hl
  have B0 := Lib.hid ((Bel.refl w).alloc (.cells #[.int .i64 l, .int .i64 d] 23))
  have X0 := Duo.new w (.int .i64 l) (.int .i64 d) 23 (w.heap.size) (by simp)
  go_enter Tryd.func23, Tryd.ntmps23
  obtain ⟨xf0, xf1, xf2, xf3, xf4⟩ := id X0
  go_wp2_with fail
  clear xf0 xf1 xf2 xf3 xf4
  refine (check_y l d _ H.out).mono ?_
  rintro e w1 ⟨rfl, hb⟩
  have B1 := Lib.hid (B0.out.up hb)
  have X1 := X0.up hb
  clear hb B0  X0
  obtain ⟨xf0, xf1, xf2, xf3, xf4⟩ := id X1
  go_wp2_with fail
  go_ret
  exact ⟨rfl, B1.out.out⟩
set_option maxRecDepth 100000 in
set_option maxHeartbeats 2000000 in
theorem flags_hi (l d : Int) (w : World) (h : Va l d) (hl : 3 ≤ l) :
    Calls Tryd.prog 23 #[.agg #[.int .i64 l, .int .i64 d]] w fun e w' => e = .returned (.int .i64 (l - 2)) ∧ Below w.heap.size w w' := by
  have H := Lib.hid h
  obtain ⟨l0, l1, d0, d1⟩ := h
  have a0 : decide (l < 3) = false := decide_eq_false (by omega)
  have B0 := Lib.hid ((Bel.refl w).alloc (.cells #[.int .i64 l, .int .i64 d] 23))
  have X0 := Duo.new w (.int .i64 l) (.int .i64 d) 23 (w.heap.size) (by simp)
  go_enter Tryd.func23, Tryd.ntmps23
  obtain ⟨xf0, xf1, xf2, xf3, xf4⟩ := id X0
  go_wp2_with fail
  clear xf0 xf1 xf2 xf3 xf4
  refine (check_y l d _ H.out).mono ?_
  rintro e w1 ⟨rfl, hb⟩
  have B1 := Lib.hid (B0.out.up hb)
  have X1 := X0.up hb
  clear hb B0  X0
  obtain ⟨xf0, xf1, xf2, xf3, xf4⟩ := id X1
  go_wp2_with fail
  go_ret
  exact ⟨rfl, B1.out.out⟩
set_option maxRecDepth 100000 in
set_option maxHeartbeats 2000000 in
theorem stem_n (l d : Int) (w : World) (h : ¬ Va l d) :
    Calls Tryd.prog 24 #[.agg #[.int .i64 l, .int .i64 d]] w fun e w' => e = .returned (.bool false) ∧ Below w.heap.size w w' := by
  have H := Lib.hid h
  have B0 := Lib.hid ((Bel.refl w).alloc (.cells #[.int .i64 l, .int .i64 d] 23))
  have X0 := Duo.new w (.int .i64 l) (.int .i64 d) 23 (w.heap.size) (by simp)
  clear h
  go_enter Tryd.func24, Tryd.ntmps24
  obtain ⟨xf0, xf1, xf2, xf3, xf4⟩ := id X0
  go_wp2_with fail
  clear xf0 xf1 xf2 xf3 xf4
  refine (check_n l d _ H.out).mono ?_
  rintro e w1 ⟨rfl, hb⟩
  have B1 := Lib.hid (B0.out.up hb)
  have X1 := X0.up hb
  clear hb B0  X0
  obtain ⟨xf0, xf1, xf2, xf3, xf4⟩ := id X1
  go_wp2_with fail
  go_ret
  exact ⟨rfl, B1.out.out⟩
set_option maxRecDepth 100000 in
set_option maxHeartbeats 2000000 in
theorem stem_lo (l d : Int) (w : World) (h : Va l d) (hl : l < 1) :
    Calls Tryd.prog 24 #[.agg #[.int .i64 l, .int .i64 d]] w fun e w' => e = .returned (.bool false) ∧ Below w.heap.size w w' := by
  have H := Lib.hid h
  obtain ⟨l0, l1, d0, d1⟩ := h
  have a0 : decide (1 ≤ l) = false := decide_eq_false (by omega)
  have B0 := Lib.hid ((Bel.refl w).alloc (.cells #[.int .i64 l, .int .i64 d] 23))
  have X0 := Duo.new w (.int .i64 l) (.int .i64 d) 23 (w.heap.size) (by simp)
  go_enter Tryd.func24, Tryd.ntmps24
  obtain ⟨xf0, xf1, xf2, xf3, xf4⟩ := id X0
  go_wp2_with fail
  clear xf0 xf1 xf2 xf3 xf4
  refine (check_y l d _ H.out).mono ?_
  rintro e w1 ⟨rfl, hb⟩
  have B1 := Lib.hid (B0.out.up hb)
  have X1 := X0.up hb
  clear hb B0  X0
  obtain ⟨xf0, xf1, xf2, xf3, xf4⟩ := id X1
  go_wp2_with fail
  go_ret
  exact ⟨rfl, B1.out.out⟩
set_option maxRecDepth 100000 in
set_option maxHeartbeats 2000000 in
theorem stem_hi (l d : Int) (w : World) (h : Va l d) (hl : 1 ≤ l) :
    Calls Tryd.prog 24 #[.agg #[.int .i64 l, .int .i64 d]] w fun e w' => e = .returned (.bool true) ∧ Below w.heap.size w w' := by
  have H := Lib.hid h
  obtain ⟨l0, l1, d0, d1⟩ := h
  have a0 : decide (1 ≤ l) = true := decide_eq_true hl
  have B0 := Lib.hid ((Bel.refl w).alloc (.cells #[.int .i64 l, .int .i64 d] 23))
  have X0 := Duo.new w (.int .i64 l) (.int .i64 d) 23 (w.heap.size) (by simp)
  go_enter Tryd.func24, Tryd.ntmps24
  obtain ⟨xf0, xf1, xf2, xf3, xf4⟩ := id X0
  go_wp2_with fail
  clear xf0 xf1 xf2 xf3 xf4
  refine (check_y l d _ H.out).mono ?_
  rintro e w1 ⟨rfl, hb⟩
  have B1 := Lib.hid (B0.out.up hb)
  have X1 := X0.up hb
  clear hb B0  X0
  obtain ⟨xf0, xf1, xf2, xf3, xf4⟩ := id X1
  go_wp2_with fail
  go_ret
  exact ⟨rfl, B1.out.out⟩
set_option maxRecDepth 100000 in
set_option maxHeartbeats 2000000 in
theorem flagsL_n (l d : Int) (w : World) (h : ¬ Va l d) (hk : KT w) :
    Calls Tryd.prog 8 #[.agg #[.int .i64 l, .int .i64 d]] w fun e w' => e = .returned (.bool true) ∧ Below w.heap.size w w' := by
  have H := Lib.hid h
  have B0 := Lib.hid ((Bel.refl w).alloc (.cells #[.int .i64 l, .int .i64 d] 23))
  have K0 := Lib.hid ((Lib.hid hk).out.below ((Below.refl _ _).alloc (Nat.le_refl _) (.cells #[.int .i64 l, .int .i64 d] 23)))
  have X0 := Duo.new w (.int .i64 l) (.int .i64 d) 23 (w.heap.size) (by simp)
  clear hk
  go_enter Tryd.func8, Tryd.ntmps8
  obtain ⟨xf0, xf1, xf2, xf3, xf4⟩ := id X0
  go_wp2_with fail
  clear xf0 xf1 xf2 xf3 xf4
  refine (valid_n l d _ H.out).mono ?_
  rintro e w1 ⟨rfl, hb⟩
  have B1 := Lib.hid (B0.out.up hb)
  have K1 := Lib.hid (K0.out.below hb)
  have X1 := X0.up hb
  clear hb B0 K0 X0
  obtain ⟨xf0, xf1, xf2, xf3, xf4⟩ := id X1
  go_wp2_with fail
  clear xf0 xf1 xf2 xf3 xf4
  refine Qt.regionAll (by kernel_rfl) (by kernel_rfl) ?_
  intro T f F hne
  have RB := Lib.hid (fun g => B1.out.up (F.below g))
  have RK := Lib.hid (fun g => K1.out.below (F.below g))
  have RX := fun g => X1.up (F.below g)
  have RX0 := fun g => (RX g).c0
  have RX1 := fun g => (RX g).c1
  repeat (go_big_quiet_step (first | (go_at_call 10; with_reducible exact F.call (known_ok _ (RK.out _))) | (go_at_call 23; with_reducible exact F.call (flags_n l d _ H.out)) | (go_at_call 24; with_reducible exact F.call (stem_n l d _ H.out)) | (go_at_call 12; with_reducible exact F.call (valid_n l d _ H.out))))
  refine wpQuiet_nil ?_
  rintro _ ⟨g, rfl⟩
  have B2 := Lib.hid (RB.out g)
  have K2 := Lib.hid (RK.out g)
  have X2 := RX g
  clear F RB hne RK RX RX0 RX1 B1 K1 X1
  generalize f g = w2 at *
  clear f
  obtain ⟨xf0, xf1, xf2, xf3, xf4⟩ := id X2
  go_wp2_with fail
  go_ret
  exact ⟨rfl, B2.out.out⟩
set_option maxRecDepth 100000 in
set_option maxHeartbeats 2000000 in
theorem flagsL_a (l d : Int) (w : World) (h : Va l d) (hl : l < 1) (hk : KT w) :
    Calls Tryd.prog 8 #[.agg #[.int .i64 l, .int .i64 d]] w fun e w' => e = .returned (.bool true) ∧ Below w.heap.size w w' := by
  have H := Lib.hid h
  obtain ⟨l0, l1, d0, d1⟩ := h
  have L1 := Lib.hid hl
  have L2 := Lib.hid (show l < 3 by omega)
  have a0 : decide (3 ≤ l) = false := decide_eq_false (by omega)
  have a1 : decide (1 ≤ l) = false := decide_eq_false (by omega)
  have B0 := Lib.hid ((Bel.refl w).alloc (.cells #[.int .i64 l, .int .i64 d] 23))
  have K0 := Lib.hid ((Lib.hid hk).out.below ((Below.refl _ _).alloc (Nat.le_refl _) (.cells #[.int .i64 l, .int .i64 d] 23)))
  have X0 := Duo.new w (.int .i64 l) (.int .i64 d) 23 (w.heap.size) (by simp)
  clear hk
  go_enter Tryd.func8, Tryd.ntmps8
  obtain ⟨xf0, xf1, xf2, xf3, xf4⟩ := id X0
  go_wp2_with fail
  clear xf0 xf1 xf2 xf3 xf4
  refine (valid_y l d _ H.out).mono ?_
  rintro e w1 ⟨rfl, hb⟩
  have B1 := Lib.hid (B0.out.up hb)
  have K1 := Lib.hid (K0.out.below hb)
  have X1 := X0.up hb
  clear hb B0 K0 X0
  obtain ⟨xf0, xf1, xf2, xf3, xf4⟩ := id X1
  go_wp2_with fail
  clear xf0 xf1 xf2 xf3 xf4
  refine Qt.regionAll (by kernel_rfl) (by kernel_rfl) ?_
  intro T f F hne
  have RB := Lib.hid (fun g => B1.out.up (F.below g))
  have RK := Lib.hid (fun g => K1.out.below (F.below g))
  have RX := fun g => X1.up (F.below g)
  have RX0 := fun g => (RX g).c0
  have RX1 := fun g => (RX g).c1
  repeat (go_big_quiet_step (first | (go_at_call 10; with_reducible exact F.call (known_ok _ (RK.out _))) | (go_at_call 23; with_reducible exact F.call (flags_lo l d _ H.out L2.out)) | (go_at_call 24; with_reducible exact F.call (stem_lo l d _ H.out L1.out)) | (go_at_call 12; with_reducible exact F.call (valid_y l d _ H.out))))
  refine wpQuiet_nil ?_
  rintro _ ⟨g, rfl⟩
  have B2 := Lib.hid (RB.out g)
  have K2 := Lib.hid (RK.out g)
  have X2 := RX g
  clear F RB hne RK RX RX0 RX1 B1 K1 X1
  generalize f g = w2 at *
  clear f
  obtain ⟨xf0, xf1, xf2, xf3, xf4⟩ := id X2
  go_wp2_with fail
  go_ret
  exact ⟨rfl, B2.out.out⟩
set_option maxRecDepth 100000 in
set_option maxHeartbeats 2000000 in
theorem flagsL_b (l d : Int) (w : World) (h : Va l d) (hl : 1 ≤ l) (hm : l < 3) (hk : KT w) :
    Calls Tryd.prog 8 #[.agg #[.int .i64 l, .int .i64 d]] w fun e w' => e = .returned (.bool true) ∧ Below w.heap.size w w' := by
  have H := Lib.hid h
  obtain ⟨l0, l1, d0, d1⟩ := h
  have L1 := Lib.hid hl
  have L2 := Lib.hid hm
  have a0 : decide (3 ≤ l) = false := decide_eq_false (by omega)
  have a1 : decide (1 ≤ l) = true := decide_eq_true hl
  have B0 := Lib.hid ((Bel.refl w).alloc (.cells #[.int .i64 l, .int .i64 d] 23))
  have K0 := Lib.hid ((Lib.hid hk).out.below ((Below.refl _ _).alloc (Nat.le_refl _) (.cells #[.int .i64 l, .int .i64 d] 23)))
  have X0 := Duo.new w (.int .i64 l) (.int .i64 d) 23 (w.heap.size) (by simp)
  clear hk
  go_enter Tryd.func8, Tryd.ntmps8
  obtain ⟨xf0, xf1, xf2, xf3, xf4⟩ := id X0
  go_wp2_with fail
  clear xf0 xf1 xf2 xf3 xf4
  refine (valid_y l d _ H.out).mono ?_
  rintro e w1 ⟨rfl, hb⟩
  have B1 := Lib.hid (B0.out.up hb)
  have K1 := Lib.hid (K0.out.below hb)
  have X1 := X0.up hb
  clear hb B0 K0 X0
  obtain ⟨xf0, xf1, xf2, xf3, xf4⟩ := id X1
  go_wp2_with fail
  clear xf0 xf1 xf2 xf3 xf4
  refine Qt.regionAll (by kernel_rfl) (by kernel_rfl) ?_
  intro T f F hne
  have RB := Lib.hid (fun g => B1.out.up (F.below g))
  have RK := Lib.hid (fun g => K1.out.below (F.below g))
  have RX := fun g => X1.up (F.below g)
  have RX0 := fun g => (RX g).c0
  have RX1 := fun g => (RX g).c1
  repeat (go_big_quiet_step (first | (go_at_call 10; with_reducible exact F.call (known_ok _ (RK.out _))) | (go_at_call 23; with_reducible exact F.call (flags_lo l d _ H.out L2.out)) | (go_at_call 24; with_reducible exact F.call (stem_hi l d _ H.out L1.out)) | (go_at_call 12; with_reducible exact F.call (valid_y l d _ H.out))))
  refine wpQuiet_nil ?_
  rintro _ ⟨g, rfl⟩
  have B2 := Lib.hid (RB.out g)
  have K2 := Lib.hid (RK.out g)
  have X2 := RX g
  clear F RB hne RK RX RX0 RX1 B1 K1 X1
  generalize f g = w2 at *
  clear f
  obtain ⟨xf0, xf1, xf2, xf3, xf4⟩ := id X2
  go_wp2_with fail
  go_ret
  exact ⟨rfl, B2.out.out⟩
set_option maxRecDepth 100000 in
set_option maxHeartbeats 2000000 in
theorem flagsL_c (l d : Int) (w : World) (h : Va l d) (hl : 3 ≤ l) (hk : KT w) :
    Calls Tryd.prog 8 #[.agg #[.int .i64 l, .int .i64 d]] w fun e w' => e = .returned (.bool true) ∧ Below w.heap.size w w' := by
  have H := Lib.hid h
  obtain ⟨l0, l1, d0, d1⟩ := h
  have L1 := Lib.hid (show 1 ≤ l by omega)
  have L2 := Lib.hid hl
  have a0 : decide (3 ≤ l) = true := decide_eq_true hl
  have a1 : decide (1 ≤ l) = true := decide_eq_true (by omega)
  have B0 := Lib.hid ((Bel.refl w).alloc (.cells #[.int .i64 l, .int .i64 d] 23))
  have K0 := Lib.hid ((Lib.hid hk).out.below ((Below.refl _ _).alloc (Nat.le_refl _) (.cells #[.int .i64 l, .int .i64 d] 23)))
  have X0 := Duo.new w (.int .i64 l) (.int .i64 d) 23 (w.heap.size) (by simp)
  clear hk
  go_enter Tryd.func8, Tryd.ntmps8
  obtain ⟨xf0, xf1, xf2, xf3, xf4⟩ := id X0
  go_wp2_with fail
  clear xf0 xf1 xf2 xf3 xf4
  refine (valid_y l d _ H.out).mono ?_
  rintro e w1 ⟨rfl, hb⟩
  have B1 := Lib.hid (B0.out.up hb)
  have K1 := Lib.hid (K0.out.below hb)
  have X1 := X0.up hb
  clear hb B0 K0 X0
  obtain ⟨xf0, xf1, xf2, xf3, xf4⟩ := id X1
  go_wp2_with fail
  clear xf0 xf1 xf2 xf3 xf4
  refine Qt.regionAll (by kernel_rfl) (by kernel_rfl) ?_
  intro T f F hne
  have RB := Lib.hid (fun g => B1.out.up (F.below g))
  have RK := Lib.hid (fun g => K1.out.below (F.below g))
  have RX := fun g => X1.up (F.below g)
  have RX0 := fun g => (RX g).c0
  have RX1 := fun g => (RX g).c1
  repeat (go_big_quiet_step (first | (go_at_call 10; with_reducible exact F.call (known_ok _ (RK.out _))) | (go_at_call 23; with_reducible exact F.call (flags_hi l d _ H.out L2.out)) | (go_at_call 24; with_reducible exact F.call (stem_hi l d _ H.out L1.out)) | (go_at_call 12; with_reducible exact F.call (valid_y l d _ H.out))))
  refine wpQuiet_nil ?_
  rintro _ ⟨g, rfl⟩
  have B2 := Lib.hid (RB.out g)
  have K2 := Lib.hid (RK.out g)
  have X2 := RX g
  clear F RB hne RK RX RX0 RX1 B1 K1 X1
  generalize f g = w2 at *
  clear f
  obtain ⟨xf0, xf1, xf2, xf3, xf4⟩ := id X2
  go_wp2_with fail
  go_ret
  exact ⟨rfl, B2.out.out⟩
theorem law_DurationFlags (l d : Int) (w : World) (hk : KT w) : Calls Tryd.prog 8 #[.agg #[.int .i64 l, .int .i64 d]] w fun e w' => e = .returned (.bool true) ∧ Below w.heap.size w w' := by
  by_cases h : Va l d
  · by_cases h1 : l < 1
    · exact flagsL_a l d w h h1 hk
    · by_cases h2 : l < 3
      · exact flagsL_b l d w h (by omega) h2 hk
      · exact flagsL_c l d w h (by omega) hk
  · exact flagsL_n l d w h hk
end Go.Proofs.YtoobfcekgfgipaaDoor
