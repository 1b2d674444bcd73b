/- Intervals: where an interval leads; Exact, Transpose, Between, Enharmonics. -/
import Derived.Test.YtfbogakmhaiddaaDoorIe
namespace Go.Proofs.YtfbogakmhaiddaaDoor
open Go.RowKit
set_option linter.unusedVariables false
set_option linter.unusedSimpArgs false

theorem enhL_fin : ∀ n : Fin 128, enhL (n.val : Int) ≠ [] := by decide +kernel
theorem enhL_some {n : Int} (n0 : 0 ≤ n) (n1 : n ≤ 127) : enhL n ≠ [] := by
  have := enhL_fin ⟨n.toNat, by omega⟩
  have e : ((n.toNat : Nat) : Int) = n := by omega
  simpa [e] using this
theorem enhL_len (n : Int) : (enhL n).length ≤ 5 := by
  unfold enhL
  have := pitL_len n (upF 5)
  rw [upF_len (Nat.le_refl _)] at this
  exact this
set_option maxHeartbeats 400000 in
theorem enh_bad (n : Int) (w : World) (h : n < 0 ∨ 127 < n) :
    Calls Tryd.prog 51 #[.int .i64 n] w fun e w' => e = .returned (.tuple #[.slice none 0 0, .int .i64 2]) ∧ Below w.heap.size w w' := by
  have H := Lib.hid h
  clear h
  go_enter Tryd.func51, Tryd.ntmps51
  go_wp2_with fail
  refine (checkNumber_bad n _ H.out).mono ?_
  rintro e w1 ⟨rfl, rfl⟩
  go_wp2_with fail
  go_ret2
  exact ⟨rfl, Below.refl _ _⟩
theorem tmp_idx (x : Int) : x + 0 = x := Int.add_zero x
set_option maxRecDepth 100000 in
set_option maxHeartbeats 2000000 in
theorem reach_b1 (s a o t m : Int) (w : World) (h : ¬ Pit s a o) (ht : PT w) :
    Calls Tryd.prog 40 #[.agg #[.int .i64 s, .int .i64 a, .int .i64 o], .agg #[.int .i64 t, .int .i64 m]] w fun e w' => e = .returned (.tuple #[.int .i64 0, .slice none 0 0, .int .i64 18]) ∧ Below w.heap.size w w' := by
  have B0 := Lib.hid (((Bel.refl w).alloc (.cells #[.int .i64 s, .int .i64 a, .int .i64 o] 41)).alloc (.cells #[.int .i64 t, .int .i64 m] 23))
  have T0 := Lib.hid ((ht.below ((Below.refl _ _).alloc (Nat.le_refl _) (.cells #[.int .i64 s, .int .i64 a, .int .i64 o] 41))).below ((Below.refl _ _).alloc (Nat.le_refl _) (.cells #[.int .i64 t, .int .i64 m] 23)))
  have X0 := (Tri.new w (.int .i64 s) (.int .i64 a) (.int .i64 o) 41 (w.heap.size) (by simp)).alloc (.cells #[.int .i64 t, .int .i64 m] 23)
  have Y0 := Duo.new (w.alloc (.cells #[.int .i64 s, .int .i64 a, .int .i64 o] 41)) (.int .i64 t) (.int .i64 m) 23 (w.heap.size + 1) (by simp)
  have HP := Lib.hid h
  go_enter Tryd.func40, Tryd.ntmps40
  obtain ⟨xf0, xf1, xf2, xf3, xf4, xf5, xf6⟩ := id X0
  obtain ⟨yf0, yf1, yf2, yf3, yf4⟩ := id Y0
  go_wp2_with fail
  clear xf0 xf1 xf2 xf3 xf4 xf5 xf6 yf0 yf1 yf2 yf3 yf4
  refine (place_bad s a o _ HP.out T0.out).mono ?_
  rintro e w1 ⟨rfl, hb⟩
  have B1 := Lib.hid ((B0.out.up hb).alloc (.cells #[.int .i64 0, .int .i64 0] 68))
  have T1 := Lib.hid ((T0.out.below hb).below ((Below.refl _ _).alloc (Nat.le_refl _) (.cells #[.int .i64 0, .int .i64 0] 68)))
  have X1 := (X0.up hb).alloc (.cells #[.int .i64 0, .int .i64 0] 68)
  have Y1 := (Y0.up hb).alloc (.cells #[.int .i64 0, .int .i64 0] 68)
  have Z1 := Duo.new w1 (.int .i64 0) (.int .i64 0) 68 (w1.heap.size) (by simp)
  clear hb B0 T0 X0 Y0
  obtain ⟨xf0, xf1, xf2, xf3, xf4, xf5, xf6⟩ := id X1
  obtain ⟨yf0, yf1, yf2, yf3, yf4⟩ := id Y1
  obtain ⟨zf0, zf1, zf2, zf3, zf4⟩ := id Z1
  go_wp2_with fail
  exact bodyPost_ret (v := .tuple #[.int .i64 0, .slice none 0 0, .int .i64 18]) (by first | (simp [results, Tryd.results40, go_sem]; done) | (simp [results, Tryd.results40, go_sem]; omega)) rfl ⟨rfl, B1.out.out⟩
set_option maxRecDepth 100000 in
set_option maxHeartbeats 2000000 in
theorem reach_b2 (s a o t m : Int) (w : World) (h : Pit s a o) (k : ¬ Iv t m) (ht : PT w) :
    Calls Tryd.prog 40 #[.agg #[.int .i64 s, .int .i64 a, .int .i64 o], .agg #[.int .i64 t, .int .i64 m]] w fun e w' => e = .returned (.tuple #[.int .i64 0, .slice none 0 0, .int .i64 2]) ∧ Below w.heap.size w w' := by
  have B0 := Lib.hid (((Bel.refl w).alloc (.cells #[.int .i64 s, .int .i64 a, .int .i64 o] 41)).alloc (.cells #[.int .i64 t, .int .i64 m] 23))
  have T0 := Lib.hid ((ht.below ((Below.refl _ _).alloc (Nat.le_refl _) (.cells #[.int .i64 s, .int .i64 a, .int .i64 o] 41))).below ((Below.refl _ _).alloc (Nat.le_refl _) (.cells #[.int .i64 t, .int .i64 m] 23)))
  have X0 := (Tri.new w (.int .i64 s) (.int .i64 a) (.int .i64 o) 41 (w.heap.size) (by simp)).alloc (.cells #[.int .i64 t, .int .i64 m] 23)
  have Y0 := Duo.new (w.alloc (.cells #[.int .i64 s, .int .i64 a, .int .i64 o] 41)) (.int .i64 t) (.int .i64 m) 23 (w.heap.size + 1) (by simp)
  have HP := Lib.hid h
  have HQ := Lib.hid k
  go_enter Tryd.func40, Tryd.ntmps40
  obtain ⟨xf0, xf1, xf2, xf3, xf4, xf5, xf6⟩ := id X0
  obtain ⟨yf0, yf1, yf2, yf3, yf4⟩ := id Y0
  go_wp2_with fail
  clear xf0 xf1 xf2 xf3 xf4 xf5 xf6 yf0 yf1 yf2 yf3 yf4
  refine (place_ok s a o _ HP.out T0.out).mono ?_
  rintro e w1 ⟨rfl, hb⟩
  have B1 := Lib.hid ((B0.out.up hb).alloc (.cells #[.int .i64 (diaP s o), .int .i64 (numP s a o)] 68))
  have T1 := Lib.hid ((T0.out.below hb).below ((Below.refl _ _).alloc (Nat.le_refl _) (.cells #[.int .i64 (diaP s o), .int .i64 (numP s a o)] 68)))
  have X1 := (X0.up hb).alloc (.cells #[.int .i64 (diaP s o), .int .i64 (numP s a o)] 68)
  have Y1 := (Y0.up hb).alloc (.cells #[.int .i64 (diaP s o), .int .i64 (numP s a o)] 68)
  have Z1 := Duo.new w1 (.int .i64 (diaP s o)) (.int .i64 (numP s a o)) 68 (w1.heap.size) (by simp)
  clear hb B0 T0 X0 Y0
  obtain ⟨xf0, xf1, xf2, xf3, xf4, xf5, xf6⟩ := id X1
  obtain ⟨yf0, yf1, yf2, yf3, yf4⟩ := id Y1
  obtain ⟨zf0, zf1, zf2, zf3, zf4⟩ := id Z1
  go_wp2_with fail
  clear xf0 xf1 xf2 xf3 xf4 xf5 xf6 yf0 yf1 yf2 yf3 yf4 zf0 zf1 zf2 zf3 zf4
  refine (checkI_bad t m _ HQ.out).mono ?_
  rintro e w2 ⟨rfl, hb⟩
  have B2 := Lib.hid (B1.out.up hb)
  have T2 := Lib.hid (T1.out.below hb)
  have X2 := X1.up hb
  have Y2 := Y1.up hb
  have Z2 := Z1.up hb
  clear hb B1 T1 X1 Y1 Z1
  obtain ⟨xf0, xf1, xf2, xf3, xf4, xf5, xf6⟩ := id X2
  obtain ⟨yf0, yf1, yf2, yf3, yf4⟩ := id Y2
  obtain ⟨zf0, zf1, zf2, zf3, zf4⟩ := id Z2
  go_wp2_with fail
  exact bodyPost_ret (v := .tuple #[.int .i64 0, .slice none 0 0, .int .i64 2]) (by first | (simp [results, Tryd.results40, go_sem]; done) | (simp [results, Tryd.results40, go_sem]; omega)) rfl ⟨rfl, B2.out.out⟩
set_option maxRecDepth 100000 in
set_option maxHeartbeats 2000000 in
theorem reach_b3 (s a o t m : Int) (w : World) (h : Pit s a o) (k : Iv t m) (l : numP s a o + m < 0 ∨ 127 < numP s a o + m) (ht : PT w) :
    Calls Tryd.prog 40 #[.agg #[.int .i64 s, .int .i64 a, .int .i64 o], .agg #[.int .i64 t, .int .i64 m]] w fun e w' => e = .returned (.tuple #[.int .i64 0, .slice none 0 0, .int .i64 18]) ∧ Below w.heap.size w w' := by
  have B0 := Lib.hid (((Bel.refl w).alloc (.cells #[.int .i64 s, .int .i64 a, .int .i64 o] 41)).alloc (.cells #[.int .i64 t, .int .i64 m] 23))
  have T0 := Lib.hid ((ht.below ((Below.refl _ _).alloc (Nat.le_refl _) (.cells #[.int .i64 s, .int .i64 a, .int .i64 o] 41))).below ((Below.refl _ _).alloc (Nat.le_refl _) (.cells #[.int .i64 t, .int .i64 m] 23)))
  have X0 := (Tri.new w (.int .i64 s) (.int .i64 a) (.int .i64 o) 41 (w.heap.size) (by simp)).alloc (.cells #[.int .i64 t, .int .i64 m] 23)
  have Y0 := Duo.new (w.alloc (.cells #[.int .i64 s, .int .i64 a, .int .i64 o] 41)) (.int .i64 t) (.int .i64 m) 23 (w.heap.size + 1) (by simp)
  have HP := Lib.hid h
  have HQ := Lib.hid k
  have HL := Lib.hid l
  have N0 := h.n0; have N1 := h.n1; have M0 := k.m0; have M1 := k.m1; have T0' := k.t0; have T1' := k.t1
  obtain ⟨D0, D1⟩ := dia_bd h
  go_enter Tryd.func40, Tryd.ntmps40
  obtain ⟨xf0, xf1, xf2, xf3, xf4, xf5, xf6⟩ := id X0
  obtain ⟨yf0, yf1, yf2, yf3, yf4⟩ := id Y0
  go_wp2_with fail
  clear xf0 xf1 xf2 xf3 xf4 xf5 xf6 yf0 yf1 yf2 yf3 yf4
  refine (place_ok s a o _ HP.out T0.out).mono ?_
  rintro e w1 ⟨rfl, hb⟩
  have B1 := Lib.hid ((B0.out.up hb).alloc (.cells #[.int .i64 (diaP s o), .int .i64 (numP s a o)] 68))
  have T1 := Lib.hid ((T0.out.below hb).below ((Below.refl _ _).alloc (Nat.le_refl _) (.cells #[.int .i64 (diaP s o), .int .i64 (numP s a o)] 68)))
  have X1 := (X0.up hb).alloc (.cells #[.int .i64 (diaP s o), .int .i64 (numP s a o)] 68)
  have Y1 := (Y0.up hb).alloc (.cells #[.int .i64 (diaP s o), .int .i64 (numP s a o)] 68)
  have Z1 := Duo.new w1 (.int .i64 (diaP s o)) (.int .i64 (numP s a o)) 68 (w1.heap.size) (by simp)
  clear hb B0 T0 X0 Y0
  obtain ⟨xf0, xf1, xf2, xf3, xf4, xf5, xf6⟩ := id X1
  obtain ⟨yf0, yf1, yf2, yf3, yf4⟩ := id Y1
  obtain ⟨zf0, zf1, zf2, zf3, zf4⟩ := id Z1
  go_wp2_with fail
  clear xf0 xf1 xf2 xf3 xf4 xf5 xf6 yf0 yf1 yf2 yf3 yf4 zf0 zf1 zf2 zf3 zf4
  refine (checkI_ok t m _ HQ.out).mono ?_
  rintro e w2 ⟨rfl, hb⟩
  have B2 := Lib.hid (B1.out.up hb)
  have T2 := Lib.hid (T1.out.below hb)
  have X2 := X1.up hb
  have Y2 := Y1.up hb
  have Z2 := Z1.up hb
  clear hb B1 T1 X1 Y1 Z1
  obtain ⟨xf0, xf1, xf2, xf3, xf4, xf5, xf6⟩ := id X2
  obtain ⟨yf0, yf1, yf2, yf3, yf4⟩ := id Y2
  obtain ⟨zf0, zf1, zf2, zf3, zf4⟩ := id Z2
  go_wp2_with fail
  clear xf0 xf1 xf2 xf3 xf4 xf5 xf6 yf0 yf1 yf2 yf3 yf4 zf0 zf1 zf2 zf3 zf4
  refine (enh_bad (numP s a o + m) _ HL.out).mono ?_
  rintro e w3 ⟨rfl, hb⟩
  have B3 := Lib.hid (B2.out.up hb)
  have T3 := Lib.hid (T2.out.below hb)
  have X3 := X2.up hb
  have Y3 := Y2.up hb
  have Z3 := Z2.up hb
  clear hb B2 T2 X2 Y2 Z2
  obtain ⟨xf0, xf1, xf2, xf3, xf4, xf5, xf6⟩ := id X3
  obtain ⟨yf0, yf1, yf2, yf3, yf4⟩ := id Y3
  obtain ⟨zf0, zf1, zf2, zf3, zf4⟩ := id Z3
  go_wp2_with fail
  exact bodyPost_ret (v := .tuple #[.int .i64 0, .slice none 0 0, .int .i64 18]) (by first | (simp [results, Tryd.results40, go_sem]; done) | (simp [results, Tryd.results40, go_sem]; omega)) rfl ⟨rfl, B3.out.out⟩
set_option maxRecDepth 100000 in
set_option maxHeartbeats 2000000 in
theorem reach_ok (s a o t m : Int) (w : World) (h : Pit s a o) (k : Iv t m) (n0 : 0 ≤ numP s a o + m) (n1 : numP s a o + m ≤ 127) (ht : PT w) :
    Calls Tryd.prog 40 #[.agg #[.int .i64 s, .int .i64 a, .int .i64 o], .agg #[.int .i64 t, .int .i64 m]] w fun e w' => ∃ g cap, e = .returned (.tuple #[.int .i64 (diaP s o + t), .slice (some ⟨g, 0, none⟩) (enhL (numP s a o + m)).length cap, .int .i64 0]) ∧ Row3 w' g (enhL (numP s a o + m)) ∧ Below w.heap.size w w' := by
  have B0 := Lib.hid (((Bel.refl w).alloc (.cells #[.int .i64 s, .int .i64 a, .int .i64 o] 41)).alloc (.cells #[.int .i64 t, .int .i64 m] 23))
  have T0 := Lib.hid ((ht.below ((Below.refl _ _).alloc (Nat.le_refl _) (.cells #[.int .i64 s, .int .i64 a, .int .i64 o] 41))).below ((Below.refl _ _).alloc (Nat.le_refl _) (.cells #[.int .i64 t, .int .i64 m] 23)))
  have X0 := (Tri.new w (.int .i64 s) (.int .i64 a) (.int .i64 o) 41 (w.heap.size) (by simp)).alloc (.cells #[.int .i64 t, .int .i64 m] 23)
  have Y0 := Duo.new (w.alloc (.cells #[.int .i64 s, .int .i64 a, .int .i64 o] 41)) (.int .i64 t) (.int .i64 m) 23 (w.heap.size + 1) (by simp)
  have HP := Lib.hid h
  have HQ := Lib.hid k
  have hne := enhL_some n0 n1
  have hlen := enhL_len (numP s a o + m)
  have hpos := List.length_pos_iff.2 hne
  have N0 := h.n0; have N1 := h.n1; have M0 := k.m0; have M1 := k.m1; have T0' := k.t0; have T1' := k.t1
  obtain ⟨D0, D1⟩ := dia_bd h
  go_enter Tryd.func40, Tryd.ntmps40
  obtain ⟨xf0, xf1, xf2, xf3, xf4, xf5, xf6⟩ := id X0
  obtain ⟨yf0, yf1, yf2, yf3, yf4⟩ := id Y0
  go_wp2_with fail
  clear xf0 xf1 xf2 xf3 xf4 xf5 xf6 yf0 yf1 yf2 yf3 yf4
  refine (place_ok s a o _ HP.out T0.out).mono ?_
  rintro e w1 ⟨rfl, hb⟩
  have B1 := Lib.hid ((B0.out.up hb).alloc (.cells #[.int .i64 (diaP s o), .int .i64 (numP s a o)] 68))
  have T1 := Lib.hid ((T0.out.below hb).below ((Below.refl _ _).alloc (Nat.le_refl _) (.cells #[.int .i64 (diaP s o), .int .i64 (numP s a o)] 68)))
  have X1 := (X0.up hb).alloc (.cells #[.int .i64 (diaP s o), .int .i64 (numP s a o)] 68)
  have Y1 := (Y0.up hb).alloc (.cells #[.int .i64 (diaP s o), .int .i64 (numP s a o)] 68)
  have Z1 := Duo.new w1 (.int .i64 (diaP s o)) (.int .i64 (numP s a o)) 68 (w1.heap.size) (by simp)
  clear hb B0 T0 X0 Y0
  obtain ⟨xf0, xf1, xf2, xf3, xf4, xf5, xf6⟩ := id X1
  obtain ⟨yf0, yf1, yf2, yf3, yf4⟩ := id Y1
  obtain ⟨zf0, zf1, zf2, zf3, zf4⟩ := id Z1
  go_wp2_with fail
  clear xf0 xf1 xf2 xf3 xf4 xf5 xf6 yf0 yf1 yf2 yf3 yf4 zf0 zf1 zf2 zf3 zf4
  refine (checkI_ok t m _ HQ.out).mono ?_
  rintro e w2 ⟨rfl, hb⟩
  have B2 := Lib.hid (B1.out.up hb)
  have T2 := Lib.hid (T1.out.below hb)
  have X2 := X1.up hb
  have Y2 := Y1.up hb
  have Z2 := Z1.up hb
  clear hb B1 T1 X1 Y1 Z1
  obtain ⟨xf0, xf1, xf2, xf3, xf4, xf5, xf6⟩ := id X2
  obtain ⟨yf0, yf1, yf2, yf3, yf4⟩ := id Y2
  obtain ⟨zf0, zf1, zf2, zf3, zf4⟩ := id Z2
  go_wp2_with fail
  clear xf0 xf1 xf2 xf3 xf4 xf5 xf6 yf0 yf1 yf2 yf3 yf4 zf0 zf1 zf2 zf3 zf4
  refine (enh_ok (numP s a o + m) _ n0 n1 T2.out).mono ?_
  rintro e w3 ⟨v, rfl, hown, -, hb⟩
  obtain ⟨g, cap, rfl, hg, hrow⟩ := rows_of_own hown hne
  have G3 := Lib.hid (show Row3 w3 g (enhL (numP s a o + m)) from hrow)
  clear hown hg hrow
  have B3 := Lib.hid (B2.out.up hb)
  have T3 := Lib.hid (T2.out.below hb)
  have X3 := X2.up hb
  have Y3 := Y2.up hb
  have Z3 := Z2.up hb
  clear hb B2 T2 X2 Y2 Z2
  obtain ⟨xf0, xf1, xf2, xf3, xf4, xf5, xf6⟩ := id X3
  obtain ⟨yf0, yf1, yf2, yf3, yf4⟩ := id Y3
  obtain ⟨zf0, zf1, zf2, zf3, zf4⟩ := id Z3
  obtain ⟨L, hL⟩ : ∃ L, enhL (numP s a o + m) = L := ⟨_, rfl⟩
  have HL := Lib.hid hL
  rw [hL] at hlen hpos G3 ⊢
  clear hL hne
  go_wp2_with fail
  try (go_quiet (fail); go_wp2_with fail)
  exact bodyPost_ret (v := .tuple #[.int .i64 (diaP s o + t), .slice (some ⟨g, 0, none⟩) L.length cap, .int .i64 0]) (by simp [results, Tryd.results40, go_sem]) rfl ⟨g, cap, by rw [HL.out], by rw [HL.out]; first | exact G3.out | exact G3.out.up (below_drewN (Below.refl _ _) _), by first | exact B3.out.out | exact below_drewN B3.out.out _⟩
end Go.Proofs.YtfbogakmhaiddaaDoor
