/- The walks of Parse. -/
import Derived.Test.YtknojlccfjdpeaaDoorTd
import Derived.Test.YtknojlccfjdpeaaDoorTb
namespace Go.Proofs.YtknojlccfjdpeaaDoor
open Go.RowKit Go.Sort
set_option linter.unusedVariables false
set_option linter.unusedSimpArgs false

theorem text_D (a D : Int) (w : World) (h1 : Rat1.Low a D) (ht : Tab w) :
    Calls Tryd.prog 8 #[.agg #[.int .i64 a, .int .i64 (D - 1)]] w fun e w' => e = .returned (.string (textB a D)) ∧ Below w.heap.size w w' := by
  have p1 := h1.pos; have l1 := h1.le; have m1 := h1.num
  unfold Rat1.mx at l1 m1
  by_cases hD : D = 1
  · subst hD
    have h := text_int a w (by omega) (by omega) ht
    rwa [show (⟨(Lib.itoa a).toArray⟩ : ByteArray) = textB a 1 from by simp [textB, Rat1.textQ]] at h
  · have h := text_frac a (D - 1) w (by omega) (by omega) (by omega) (by omega) ht
    rwa [show (⟨(Lib.itoa a ++ 47 :: Lib.itoa (D - 1 + 1)).toArray⟩ : ByteArray) = textB a D from by rw [Int.sub_add_cancel]; simp [textB, Rat1.textQ, hD]] at h

theorem textB_eq {a D : Int} {s : ByteArray} (h : Rat1.textQ a D = s.data.toList) : textB a D = s := by
  refine ByteArray.ext ?_
  unfold textB
  simp [h]
theorem textB_ne {a D : Int} {s : ByteArray} (h : Rat1.textQ a D ≠ s.data.toList) : textB a D ≠ s := by
  intro e
  apply h
  rw [← e]
  simp [textB]
theorem text_beq_ne {a D : Int} {s : ByteArray} (h : Rat1.textQ a D ≠ s.data.toList) : ((textB a D).toList == s.toList) = false := by
  simp only [beq_eq_false_iff_ne, ne_eq]
  intro e
  rw [Go.ByteArray.toList_eq, Go.ByteArray.toList_eq] at e
  exact textB_ne h (ByteArray.ext (Array.toList_inj.1 e))
theorem text_beq_eq {a D : Int} {s : ByteArray} (h : Rat1.textQ a D = s.data.toList) : ((textB a D).toList == s.toList) = true := by
  rw [textB_eq h]; simp
set_option maxRecDepth 100000 in
set_option maxHeartbeats 1000000 in
/-- a text whose numbers are no fraction in range -/
theorem parse_bad (s : ByteArray) (n d : Int) (w : World) (n0 : -9223372036854775808 ≤ n) (n1 : n ≤ 9223372036854775807) (d0 : -9223372036854775808 ≤ d) (d1 : d ≤ 9223372036854775807) (hE : Rat1.ofE n d ≠ 0)
    (h : ∀ w : World, Calls Tryd.prog 17 #[.string s] w fun e w' => e = .returned (.tuple #[.int .i64 n, .int .i64 d, .int .i64 0, .int .i64 0]) ∧ Below w.heap.size w w') :
    Calls Tryd.prog 7 #[.string s] w fun e w' => e = .returned (.tuple #[.agg #[.int .i64 0, .int .i64 0], .int .i64 0, .int .i64 3]) ∧ Below w.heap.size w w' := by
  have H := Lib.hid h
  clear h
  have hE' : (Rat1.ofE n d != 0) = true := by simpa using hE
  clear hE
  go_enter Tryd.func7, Tryd.ntmps7
  go_wp2_with fail
  refine (H.out _).mono ?_
  rintro e w1 ⟨rfl, hb⟩
  have B1 := Lib.hid (((Bel.refl w).alloc _).up hb)
  have Tx1 := (Two.new _ (.int .i64 0) (.int .i64 0) 24 w.heap.size rfl).up hb
  clear hb
  obtain ⟨x01, x11, x21, x31, x41⟩ := id Tx1
  go_wp2_with fail
  refine (of_call n d _ n0 n1 d0 d1).mono ?_
  rintro e w2 ⟨rfl, hb⟩
  have B2 := Lib.hid ((B1.out).up hb)
  have Tx2 := (Tx1).up hb
  clear hb Tx1 x01 x11 x21 x31 x41
  obtain ⟨x02, x12, x22, x32, x42⟩ := id Tx2
  go_wp2_with fail
  have Tf := (Tx2.store (u := .int .i64 (Rat1.ofN n d)) (v := .int .i64 (Rat1.ofD n d - 1))).store (u := .int .i64 0) (v := .int .i64 0)
  exact bodyPost_ret (v := .tuple #[.agg #[.int .i64 0, .int .i64 0], .int .i64 0, .int .i64 3]) (by simp [results, Tryd.results7, go_sem, Tf.c0, Tf.c1]) rfl ⟨rfl, (show Bel w _ by repeat (first | exact B2.out | refine Bel.set ?_ (by simp) _ _))⟩
set_option maxRecDepth 100000 in
set_option maxHeartbeats 1000000 in
/-- .. whose fraction has another text -/
theorem parse_other (s : ByteArray) (n d : Int) (w : World) (n0 : -9223372036854775808 ≤ n) (n1 : n ≤ 9223372036854775807) (d0 : -9223372036854775808 ≤ d) (d1 : d ≤ 9223372036854775807) (ht : Tab w) (hE : Rat1.ofE n d = 0) (hT : Rat1.textQ (Rat1.ofN n d) (Rat1.ofD n d) ≠ s.data.toList)
    (h : ∀ w : World, Calls Tryd.prog 17 #[.string s] w fun e w' => e = .returned (.tuple #[.int .i64 n, .int .i64 d, .int .i64 0, .int .i64 0]) ∧ Below w.heap.size w w') :
    Calls Tryd.prog 7 #[.string s] w fun e w' => e = .returned (.tuple #[.agg #[.int .i64 0, .int .i64 0], .int .i64 0, .int .i64 3]) ∧ Below w.heap.size w w' := by
  have H := Lib.hid h
  clear h
  have HT := Lib.hid ht
  have hE' : (Rat1.ofE n d != 0) = false := by simpa using hE
  have hN := text_beq_ne hT
  clear hE ht hT
  go_enter Tryd.func7, Tryd.ntmps7
  go_wp2_with fail
  refine (H.out _).mono ?_
  rintro e w1 ⟨rfl, hb⟩
  have B1 := Lib.hid (((Bel.refl w).alloc _).up hb)
  have Tx1 := (Two.new _ (.int .i64 0) (.int .i64 0) 24 w.heap.size rfl).up hb
  clear hb
  obtain ⟨x01, x11, x21, x31, x41⟩ := id Tx1
  go_wp2_with fail
  refine (of_call n d _ n0 n1 d0 d1).mono ?_
  rintro e w2 ⟨rfl, hb⟩
  have B2 := Lib.hid ((B1.out).up hb)
  have Tx2 := (Tx1).up hb
  clear hb Tx1 x01 x11 x21 x31 x41
  obtain ⟨x02, x12, x22, x32, x42⟩ := id Tx2
  go_wp2_with fail
  refine (text_D _ _ _ (low_of n d) (HT.out.below (show Bel w _ from (B2.out.set (by simp) _ _).set (by simp) _ _).out)).mono ?_
  rintro e w3 ⟨rfl, hb⟩
  have B3 := Lib.hid ((show Bel w _ from (B2.out.set (Nat.le_refl _) _ _).set (Nat.le_refl _) _ _).up hb)
  have Tx3 := (Tx2.store (u := .int .i64 (Rat1.ofN n d)) (v := .int .i64 (Rat1.ofD n d - 1))).up hb
  clear hb Tx2 x02 x12 x22 x32 x42
  obtain ⟨x03, x13, x23, x33, x43⟩ := id Tx3
  go_wp2_with fail
  have Tf := Tx3.store (u := .int .i64 0) (v := .int .i64 0)
  exact bodyPost_ret (v := .tuple #[.agg #[.int .i64 0, .int .i64 0], .int .i64 0, .int .i64 3]) (by simp [results, Tryd.results7, go_sem, Tf.c0, Tf.c1]) rfl ⟨rfl, (show Bel w _ by repeat (first | exact B3.out | refine Bel.set ?_ (Nat.le_refl _) _ _))⟩
set_option maxRecDepth 100000 in
set_option maxHeartbeats 1000000 in
/-- a text that is read -/
theorem parse_same (s : ByteArray) (n d : Int) (w : World) (n0 : -9223372036854775808 ≤ n) (n1 : n ≤ 9223372036854775807) (d0 : -9223372036854775808 ≤ d) (d1 : d ≤ 9223372036854775807) (ht : Tab w) (hE : Rat1.ofE n d = 0) (hT : Rat1.textQ (Rat1.ofN n d) (Rat1.ofD n d) = s.data.toList)
    (h : ∀ w : World, Calls Tryd.prog 17 #[.string s] w fun e w' => e = .returned (.tuple #[.int .i64 n, .int .i64 d, .int .i64 0, .int .i64 0]) ∧ Below w.heap.size w w') :
    Calls Tryd.prog 7 #[.string s] w fun e w' => e = .returned (.tuple #[.agg #[.int .i64 (Rat1.ofN n d), .int .i64 (Rat1.ofD n d - 1)], .int .i64 0, .int .i64 0]) ∧ Below w.heap.size w w' := by
  have H := Lib.hid h
  clear h
  have HT := Lib.hid ht
  have hE' : (Rat1.ofE n d != 0) = false := by simpa using hE
  have hN := text_beq_eq hT
  clear hE ht hT
  go_enter Tryd.func7, Tryd.ntmps7
  go_wp2_with fail
  refine (H.out _).mono ?_
  rintro e w1 ⟨rfl, hb⟩
  have B1 := Lib.hid (((Bel.refl w).alloc _).up hb)
  have Tx1 := (Two.new _ (.int .i64 0) (.int .i64 0) 24 w.heap.size rfl).up hb
  clear hb
  obtain ⟨x01, x11, x21, x31, x41⟩ := id Tx1
  go_wp2_with fail
  refine (of_call n d _ n0 n1 d0 d1).mono ?_
  rintro e w2 ⟨rfl, hb⟩
  have B2 := Lib.hid ((B1.out).up hb)
  have Tx2 := (Tx1).up hb
  clear hb Tx1 x01 x11 x21 x31 x41
  obtain ⟨x02, x12, x22, x32, x42⟩ := id Tx2
  go_wp2_with fail
  refine (text_D _ _ _ (low_of n d) (HT.out.below (show Bel w _ from (B2.out.set (by simp) _ _).set (by simp) _ _).out)).mono ?_
  rintro e w3 ⟨rfl, hb⟩
  have B3 := Lib.hid ((show Bel w _ from (B2.out.set (Nat.le_refl _) _ _).set (Nat.le_refl _) _ _).up hb)
  have Tx3 := (Tx2.store (u := .int .i64 (Rat1.ofN n d)) (v := .int .i64 (Rat1.ofD n d - 1))).up hb
  clear hb Tx2 x02 x12 x22 x32 x42
  obtain ⟨x03, x13, x23, x33, x43⟩ := id Tx3
  go_wp2_with fail
  have Tf := Tx3.store (u := .int .i64 (Rat1.ofN n d)) (v := .int .i64 (Rat1.ofD n d - 1))
  exact bodyPost_ret (v := .tuple #[.agg #[.int .i64 (Rat1.ofN n d), .int .i64 (Rat1.ofD n d - 1)], .int .i64 0, .int .i64 0]) (by simp [results, Tryd.results7, go_sem, Tf.c0, Tf.c1]) rfl ⟨rfl, (show Bel w _ by repeat (first | exact B3.out | refine Bel.set ?_ (Nat.le_refl _) _ _))⟩
end Go.Proofs.YtknojlccfjdpeaaDoor
