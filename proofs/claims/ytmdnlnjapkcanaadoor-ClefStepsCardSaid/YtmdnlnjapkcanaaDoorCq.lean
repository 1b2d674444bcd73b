/- Clefs: law ClefSteps. -/
import Derived.Test.YtmdnlnjapkcanaaDoorCj
import Derived.Deep.RegionWith
import Derived.Deep.DeepCutAuto
namespace Go.Proofs.YtmdnlnjapkcanaaDoor
open Go.RowKit
set_option linter.unusedVariables false
set_option linter.unusedSimpArgs false

theorem cl_mod {x : Int} (h0 : 0 ≤ x) : Cl (1 + x % 9) := ⟨by omega, by omega⟩
set_option maxRecDepth 100000 in
set_option maxHeartbeats 2000000 in
theorem stLaw1 (p0 p1 p2 q0 q1 q2 x y : Int) (w : World) (hp : ¬ Pit p0 p1 p2) (hc : CW w) :
    Calls Tryd.prog 5 #[.agg #[.int .i64 p0, .int .i64 p1, .int .i64 p2], .agg #[.int .i64 q0, .int .i64 q1, .int .i64 q2], .agg #[.int .u8 x, .int .u8 y]] w fun e w' => e = .returned (.bool true) ∧ Below w.heap.size w w' := by
  have HP := Lib.hid hp
  have B0 := Lib.hid ((((Bel.refl w).alloc (.cells #[.int .i64 p0, .int .i64 p1, .int .i64 p2] 23)).alloc (.cells #[.int .i64 q0, .int .i64 q1, .int .i64 q2] 23)).alloc (.cells #[.int .u8 x, .int .u8 y] 38))
  have C0 := Lib.hid (((hc.below ((Below.refl _ _).alloc (Nat.le_refl _) (.cells #[.int .i64 p0, .int .i64 p1, .int .i64 p2] 23))).below ((Below.refl _ _).alloc (Nat.le_refl _) (.cells #[.int .i64 q0, .int .i64 q1, .int .i64 q2] 23))).below ((Below.refl _ _).alloc (Nat.le_refl _) (.cells #[.int .u8 x, .int .u8 y] 38)))
  have X0 := ((Tri.new w (.int .i64 p0) (.int .i64 p1) (.int .i64 p2) 23 (w.heap.size) (by simp)).alloc (.cells #[.int .i64 q0, .int .i64 q1, .int .i64 q2] 23)).alloc (.cells #[.int .u8 x, .int .u8 y] 38)
  have Y0 := (Tri.new (w.alloc (.cells #[.int .i64 p0, .int .i64 p1, .int .i64 p2] 23)) (.int .i64 q0) (.int .i64 q1) (.int .i64 q2) 23 (w.heap.size + 1) (by simp)).alloc (.cells #[.int .u8 x, .int .u8 y] 38)
  have Z0 := Duo.new ((w.alloc (.cells #[.int .i64 p0, .int .i64 p1, .int .i64 p2] 23)).alloc (.cells #[.int .i64 q0, .int .i64 q1, .int .i64 q2] 23)) (.int .u8 x) (.int .u8 y) 38 (w.heap.size + 1 + 1) (by simp)
  go_enter Tryd.func5, Tryd.ntmps5
  obtain ⟨xf0, xf1, xf2, xf3, xf4, xf5, xf6⟩ := id X0
  obtain ⟨yf0, yf1, yf2, yf3, yf4, yf5, yf6⟩ := id Y0
  obtain ⟨zf0, zf1, zf2, zf3, zf4⟩ := id Z0
  go_wp2_with fail
  clear xf0 xf1 xf2 xf3 xf4 xf5 xf6 yf0 yf1 yf2 yf3 yf4 yf5 yf6 zf0 zf1 zf2 zf3 zf4
  refine (known_ok _ C0.out).mono ?_
  rintro e w1 ⟨rfl, hb⟩
  have B1 := Lib.hid (B0.out.up hb)
  have C1 := Lib.hid (C0.out.below hb)
  have X1 := X0.up hb
  have Y1 := Y0.up hb
  have Z1 := Z0.up hb
  clear hb B0 C0 X0 Y0 Z0
  obtain ⟨xf0, xf1, xf2, xf3, xf4, xf5, xf6⟩ := id X1
  obtain ⟨yf0, yf1, yf2, yf3, yf4, yf5, yf6⟩ := id Y1
  obtain ⟨zf0, zf1, zf2, zf3, zf4⟩ := id Z1
  go_wp2_with fail
  clear xf0 xf1 xf2 xf3 xf4 xf5 xf6 yf0 yf1 yf2 yf3 yf4 yf5 yf6 zf0 zf1 zf2 zf3 zf4
  refine (exists_no p0 p1 p2 _ HP.out).mono ?_
  rintro e w2 ⟨rfl, hb⟩
  have B2 := Lib.hid (B1.out.up hb)
  have C2 := Lib.hid (C1.out.below hb)
  have X2 := X1.up hb
  have Y2 := Y1.up hb
  have Z2 := Z1.up hb
  clear hb B1 C1 X1 Y1 Z1
  obtain ⟨xf0, xf1, xf2, xf3, xf4, xf5, xf6⟩ := id X2
  obtain ⟨yf0, yf1, yf2, yf3, yf4, yf5, yf6⟩ := id Y2
  obtain ⟨zf0, zf1, zf2, zf3, zf4⟩ := id Z2
  go_wp2_with fail
  clear xf0 xf1 xf2 xf3 xf4 xf5 xf6 yf0 yf1 yf2 yf3 yf4 yf5 yf6 zf0 zf1 zf2 zf3 zf4
  refine (known_ok _ C2.out).mono ?_
  rintro e w3 ⟨rfl, hb⟩
  have B3 := Lib.hid (B2.out.up hb)
  have C3 := Lib.hid (C2.out.below hb)
  have X3 := X2.up hb
  have Y3 := Y2.up hb
  have Z3 := Z2.up hb
  clear hb B2 C2 X2 Y2 Z2
  obtain ⟨xf0, xf1, xf2, xf3, xf4, xf5, xf6⟩ := id X3
  obtain ⟨yf0, yf1, yf2, yf3, yf4, yf5, yf6⟩ := id Y3
  obtain ⟨zf0, zf1, zf2, zf3, zf4⟩ := id Z3
  go_wp2_with fail
  go_ret
  exact ⟨rfl, B3.out.out⟩
set_option maxRecDepth 100000 in
set_option maxHeartbeats 2000000 in
theorem stLaw2 (p0 p1 p2 q0 q1 q2 x y : Int) (w : World) (hp : Pit p0 p1 p2) (hq : ¬ Pit q0 q1 q2) (hc : CW w) :
    Calls Tryd.prog 5 #[.agg #[.int .i64 p0, .int .i64 p1, .int .i64 p2], .agg #[.int .i64 q0, .int .i64 q1, .int .i64 q2], .agg #[.int .u8 x, .int .u8 y]] w fun e w' => e = .returned (.bool true) ∧ Below w.heap.size w w' := by
  have HP := Lib.hid hp
  have HQ := Lib.hid hq
  have B0 := Lib.hid ((((Bel.refl w).alloc (.cells #[.int .i64 p0, .int .i64 p1, .int .i64 p2] 23)).alloc (.cells #[.int .i64 q0, .int .i64 q1, .int .i64 q2] 23)).alloc (.cells #[.int .u8 x, .int .u8 y] 38))
  have C0 := Lib.hid (((hc.below ((Below.refl _ _).alloc (Nat.le_refl _) (.cells #[.int .i64 p0, .int .i64 p1, .int .i64 p2] 23))).below ((Below.refl _ _).alloc (Nat.le_refl _) (.cells #[.int .i64 q0, .int .i64 q1, .int .i64 q2] 23))).below ((Below.refl _ _).alloc (Nat.le_refl _) (.cells #[.int .u8 x, .int .u8 y] 38)))
  have X0 := ((Tri.new w (.int .i64 p0) (.int .i64 p1) (.int .i64 p2) 23 (w.heap.size) (by simp)).alloc (.cells #[.int .i64 q0, .int .i64 q1, .int .i64 q2] 23)).alloc (.cells #[.int .u8 x, .int .u8 y] 38)
  have Y0 := (Tri.new (w.alloc (.cells #[.int .i64 p0, .int .i64 p1, .int .i64 p2] 23)) (.int .i64 q0) (.int .i64 q1) (.int .i64 q2) 23 (w.heap.size + 1) (by simp)).alloc (.cells #[.int .u8 x, .int .u8 y] 38)
  have Z0 := Duo.new ((w.alloc (.cells #[.int .i64 p0, .int .i64 p1, .int .i64 p2] 23)).alloc (.cells #[.int .i64 q0, .int .i64 q1, .int .i64 q2] 23)) (.int .u8 x) (.int .u8 y) 38 (w.heap.size + 1 + 1) (by simp)
  go_enter Tryd.func5, Tryd.ntmps5
  obtain ⟨xf0, xf1, xf2, xf3, xf4, xf5, xf6⟩ := id X0
  obtain ⟨yf0, yf1, yf2, yf3, yf4, yf5, yf6⟩ := id Y0
  obtain ⟨zf0, zf1, zf2, zf3, zf4⟩ := id Z0
  go_wp2_with fail
  clear xf0 xf1 xf2 xf3 xf4 xf5 xf6 yf0 yf1 yf2 yf3 yf4 yf5 yf6 zf0 zf1 zf2 zf3 zf4
  refine (known_ok _ C0.out).mono ?_
  rintro e w1 ⟨rfl, hb⟩
  have B1 := Lib.hid (B0.out.up hb)
  have C1 := Lib.hid (C0.out.below hb)
  have X1 := X0.up hb
  have Y1 := Y0.up hb
  have Z1 := Z0.up hb
  clear hb B0 C0 X0 Y0 Z0
  obtain ⟨xf0, xf1, xf2, xf3, xf4, xf5, xf6⟩ := id X1
  obtain ⟨yf0, yf1, yf2, yf3, yf4, yf5, yf6⟩ := id Y1
  obtain ⟨zf0, zf1, zf2, zf3, zf4⟩ := id Z1
  go_wp2_with fail
  clear xf0 xf1 xf2 xf3 xf4 xf5 xf6 yf0 yf1 yf2 yf3 yf4 yf5 yf6 zf0 zf1 zf2 zf3 zf4
  refine (exists_yes p0 p1 p2 _ HP.out).mono ?_
  rintro e w2 ⟨rfl, hb⟩
  have B2 := Lib.hid (B1.out.up hb)
  have C2 := Lib.hid (C1.out.below hb)
  have X2 := X1.up hb
  have Y2 := Y1.up hb
  have Z2 := Z1.up hb
  clear hb B1 C1 X1 Y1 Z1
  obtain ⟨xf0, xf1, xf2, xf3, xf4, xf5, xf6⟩ := id X2
  obtain ⟨yf0, yf1, yf2, yf3, yf4, yf5, yf6⟩ := id Y2
  obtain ⟨zf0, zf1, zf2, zf3, zf4⟩ := id Z2
  go_wp2_with fail
  clear xf0 xf1 xf2 xf3 xf4 xf5 xf6 yf0 yf1 yf2 yf3 yf4 yf5 yf6 zf0 zf1 zf2 zf3 zf4
  refine (exists_no q0 q1 q2 _ HQ.out).mono ?_
  rintro e w3 ⟨rfl, hb⟩
  have B3 := Lib.hid (B2.out.up hb)
  have C3 := Lib.hid (C2.out.below hb)
  have X3 := X2.up hb
  have Y3 := Y2.up hb
  have Z3 := Z2.up hb
  clear hb B2 C2 X2 Y2 Z2
  obtain ⟨xf0, xf1, xf2, xf3, xf4, xf5, xf6⟩ := id X3
  obtain ⟨yf0, yf1, yf2, yf3, yf4, yf5, yf6⟩ := id Y3
  obtain ⟨zf0, zf1, zf2, zf3, zf4⟩ := id Z3
  go_wp2_with fail
  clear xf0 xf1 xf2 xf3 xf4 xf5 xf6 yf0 yf1 yf2 yf3 yf4 yf5 yf6 zf0 zf1 zf2 zf3 zf4
  refine (known_ok _ C3.out).mono ?_
  rintro e w4 ⟨rfl, hb⟩
  have B4 := Lib.hid (B3.out.up hb)
  have C4 := Lib.hid (C3.out.below hb)
  have X4 := X3.up hb
  have Y4 := Y3.up hb
  have Z4 := Z3.up hb
  clear hb B3 C3 X3 Y3 Z3
  obtain ⟨xf0, xf1, xf2, xf3, xf4, xf5, xf6⟩ := id X4
  obtain ⟨yf0, yf1, yf2, yf3, yf4, yf5, yf6⟩ := id Y4
  obtain ⟨zf0, zf1, zf2, zf3, zf4⟩ := id Z4
  go_wp2_with fail
  go_ret
  exact ⟨rfl, B4.out.out⟩
theorem Tri.put1 {w : World} {b : Nat} {x y z u : Value} (h : Tri w b x y z) : Tri (w.setCell ⟨b, 1, none⟩ u) b x u z := by
  obtain ⟨h0, h1, h2, h3, h4, h5, h6⟩ := h
  exact ⟨by simpa [go_sem] using h0, by simp [go_sem, *], by simp [go_sem, *], by simp [go_sem, *], by simp [go_sem, *], by simp [go_sem, *], by simp [go_sem, *]⟩
theorem Tri.put2 {w : World} {b : Nat} {x y z u : Value} (h : Tri w b x y z) : Tri (w.setCell ⟨b, 2, none⟩ u) b x y u := by
  obtain ⟨h0, h1, h2, h3, h4, h5, h6⟩ := h
  exact ⟨by simpa [go_sem] using h0, by simp [go_sem, *], by simp [go_sem, *], by simp [go_sem, *], by simp [go_sem, *], by simp [go_sem, *], by simp [go_sem, *]⟩
theorem Tri.other {w : World} {b c i : Nat} {x y z u : Value} (h : Tri w b x y z) (hn : c ≠ b) : Tri (w.setCell ⟨c, i, none⟩ u) b x y z := by
  obtain ⟨h0, h1, h2, h3, h4, h5, h6⟩ := h
  have hn' : b ≠ c := fun e => hn e.symm
  exact ⟨by simpa [go_sem] using h0, by simp [go_sem, *], by simp [go_sem, *], by simp [go_sem, *], by simp [go_sem, *], by simp [go_sem, *], by simp [go_sem, *]⟩
theorem Duo.other {w : World} {b c i : Nat} {x y u : Value} (h : Duo w b x y) (hn : c ≠ b) : Duo (w.setCell ⟨c, i, none⟩ u) b x y := by
  obtain ⟨h0, h1, h2, h3, h4⟩ := h
  have hn' : b ≠ c := fun e => hn e.symm
  exact ⟨by simpa [go_sem] using h0, by simp [go_sem, *], by simp [go_sem, *], by simp [go_sem, *], by simp [go_sem, *]⟩
theorem dist (P Q M N : Int) : (P - M - (Q - M) != P - N - (Q - N)) = false := by
  simp
  omega
set_option maxRecDepth 100000 in
set_option maxHeartbeats 2000000 in
theorem stLaw_z_nine (p0 p1 q0 q1 q2 x y : Int) (w : World) (x0 : 0 ≤ x) (x1 : x ≤ 255) (y0 : 0 ≤ y) (y1 : y ≤ 255) (hp : Pit p0 p1 9) (hq : Pit q0 q1 q2) (hz : Pit q0 0 q2) (hc : CW w) :
    Calls Tryd.prog 5 #[.agg #[.int .i64 p0, .int .i64 p1, .int .i64 9], .agg #[.int .i64 q0, .int .i64 q1, .int .i64 q2], .agg #[.int .u8 x, .int .u8 y]] w fun e w' => e = .returned (.bool true) ∧ Below w.heap.size w w' := by
  have HP := Lib.hid hp
  have HQ := Lib.hid hq
  have HC := Lib.hid (cl_mod x0)
  have HD := Lib.hid (cl_mod y0)
  have H0 := Lib.hid hc
  have x9 : x.tmod 9 = x % 9 := Int.tmod_eq_emod_of_nonneg x0
  have y9 : y.tmod 9 = y % 9 := Int.tmod_eq_emod_of_nonneg y0
  obtain ⟨c, hcc⟩ : ∃ c, 1 + x % 9 = c := ⟨_, rfl⟩
  obtain ⟨d, hdd⟩ : ∃ d, 1 + y % 9 = d := ⟨_, rfl⟩
  have wx : IntKind.i64.wrap x = x := (IntWalk.i64_left _).trans (IntWalk.wrap64_in _ ⟨by omega, by omega⟩)
  have wy : IntKind.i64.wrap y = y := (IntWalk.i64_left _).trans (IntWalk.wrap64_in _ ⟨by omega, by omega⟩)
  have vx : IntKind.i64.wrap (1 + (IntKind.i64.wrap x).tmod 9) = c := by rw [wx, x9, ← hcc]; exact (IntWalk.i64_left _).trans (IntWalk.wrap64_in _ ⟨by omega, by omega⟩)
  have vy : IntKind.i64.wrap (1 + (IntKind.i64.wrap y).tmod 9) = d := by rw [wy, y9, ← hdd]; exact (IntWalk.i64_left _).trans (IntWalk.wrap64_in _ ⟨by omega, by omega⟩)
  replace vx := Lib.hid vx
  replace vy := Lib.hid vy
  clear wx wy
  rw [hcc] at HC
  rw [hdd] at HD
  obtain ⟨DP, hDP⟩ : ∃ z, diaP p0 9 = z := ⟨_, rfl⟩
  obtain ⟨DQ, hDQ⟩ : ∃ z, diaP q0 q2 = z := ⟨_, rfl⟩
  have bp := dia_bd hp
  have bq := dia_bd hq
  rw [hDP] at bp
  rw [hDQ] at bq
  obtain ⟨bp0, bp1⟩ := bp
  obtain ⟨bq0, bq1⟩ := bq
  have hC := Lib.hid (mid_bd c)
  have hD := Lib.hid (mid_bd d)
  obtain ⟨mc0, mc1⟩ := hC.out
  obtain ⟨md0, md1⟩ := hD.out
  have KP := fun (e : Int) (he : Cl e) v hv => pos_ok e p0 p1 9 v he hp hv
  have KQ := fun (e : Int) (he : Cl e) v hv => pos_ok e q0 q1 q2 v he hq hv
  have KZ := fun (h0 : Pit q0 0 q2) v hv => pos_ok c q0 0 q2 v HC.out h0 hv
  have KO := fun (h0 : Pit p0 p1 (9 + 1)) v hv => pos_ok c p0 p1 (9 + 1) v HC.out h0 hv
  rw [show diaP p0 (9 + 1) = DP + 7 by rw [← hDP]; unfold diaP; omega] at KO
  simp only [hDP] at KP
  simp only [hDQ] at KQ KZ
  have p2a := hp.o0
  have p2b := hp.o1
  clear hDP hDQ
  have hdist := dist DP DQ (midI c) (midI d)
  have hoct : (DP + 7 - midI c == DP - midI c + 7) = true := by simp; omega
  replace KP := Lib.hid KP
  replace KQ := Lib.hid KQ
  replace KZ := Lib.hid KZ
  replace KO := Lib.hid KO
  have HZ := Lib.hid hz
  have B0 := Lib.hid ((((Bel.refl w).alloc (.cells #[.int .i64 p0, .int .i64 p1, .int .i64 9] 23)).alloc (.cells #[.int .i64 q0, .int .i64 q1, .int .i64 q2] 23)).alloc (.cells #[.int .u8 x, .int .u8 y] 38))
  have C0 := Lib.hid (((hc.below ((Below.refl _ _).alloc (Nat.le_refl _) (.cells #[.int .i64 p0, .int .i64 p1, .int .i64 9] 23))).below ((Below.refl _ _).alloc (Nat.le_refl _) (.cells #[.int .i64 q0, .int .i64 q1, .int .i64 q2] 23))).below ((Below.refl _ _).alloc (Nat.le_refl _) (.cells #[.int .u8 x, .int .u8 y] 38)))
  have X0 := ((Tri.new w (.int .i64 p0) (.int .i64 p1) (.int .i64 9) 23 (w.heap.size) (by simp)).alloc (.cells #[.int .i64 q0, .int .i64 q1, .int .i64 q2] 23)).alloc (.cells #[.int .u8 x, .int .u8 y] 38)
  have Y0 := (Tri.new (w.alloc (.cells #[.int .i64 p0, .int .i64 p1, .int .i64 9] 23)) (.int .i64 q0) (.int .i64 q1) (.int .i64 q2) 23 (w.heap.size + 1) (by simp)).alloc (.cells #[.int .u8 x, .int .u8 y] 38)
  have Z0 := Duo.new ((w.alloc (.cells #[.int .i64 p0, .int .i64 p1, .int .i64 9] 23)).alloc (.cells #[.int .i64 q0, .int .i64 q1, .int .i64 q2] 23)) (.int .u8 x) (.int .u8 y) 38 (w.heap.size + 1 + 1) (by simp)
  go_enter Tryd.func5, Tryd.ntmps5
  obtain ⟨xf0, xf1, xf2, xf3, xf4, xf5, xf6⟩ := id X0
  obtain ⟨yf0, yf1, yf2, yf3, yf4, yf5, yf6⟩ := id Y0
  obtain ⟨zf0, zf1, zf2, zf3, zf4⟩ := id Z0
  go_wp2_with fail
  clear xf0 xf1 xf2 xf3 xf4 xf5 xf6 yf0 yf1 yf2 yf3 yf4 yf5 yf6 zf0 zf1 zf2 zf3 zf4
  refine (known_ok _ C0.out).mono ?_
  rintro e w1 ⟨rfl, hb⟩
  have B1 := Lib.hid (B0.out.up hb)
  have C1 := Lib.hid (C0.out.below hb)
  have X1 := X0.up hb
  have Y1 := Y0.up hb
  have Z1 := Z0.up hb
  clear hb B0 C0 X0 Y0 Z0
  obtain ⟨xf0, xf1, xf2, xf3, xf4, xf5, xf6⟩ := id X1
  obtain ⟨yf0, yf1, yf2, yf3, yf4, yf5, yf6⟩ := id Y1
  obtain ⟨zf0, zf1, zf2, zf3, zf4⟩ := id Z1
  go_wp2_with fail
  clear xf0 xf1 xf2 xf3 xf4 xf5 xf6 yf0 yf1 yf2 yf3 yf4 yf5 yf6 zf0 zf1 zf2 zf3 zf4
  refine (exists_yes p0 p1 9 _ HP.out).mono ?_
  rintro e w2 ⟨rfl, hb⟩
  have B2 := Lib.hid (B1.out.up hb)
  have C2 := Lib.hid (C1.out.below hb)
  have X2 := X1.up hb
  have Y2 := Y1.up hb
  have Z2 := Z1.up hb
  clear hb B1 C1 X1 Y1 Z1
  obtain ⟨xf0, xf1, xf2, xf3, xf4, xf5, xf6⟩ := id X2
  obtain ⟨yf0, yf1, yf2, yf3, yf4, yf5, yf6⟩ := id Y2
  obtain ⟨zf0, zf1, zf2, zf3, zf4⟩ := id Z2
  go_wp2_with fail
  clear xf0 xf1 xf2 xf3 xf4 xf5 xf6 yf0 yf1 yf2 yf3 yf4 yf5 yf6 zf0 zf1 zf2 zf3 zf4
  refine (exists_yes q0 q1 q2 _ HQ.out).mono ?_
  rintro e w3 ⟨rfl, hb⟩
  have B3 := Lib.hid (B2.out.up hb)
  have C3 := Lib.hid (C2.out.below hb)
  have X3 := X2.up hb
  have Y3 := Y2.up hb
  have Z3 := Z2.up hb
  clear hb B2 C2 X2 Y2 Z2
  obtain ⟨xf0, xf1, xf2, xf3, xf4, xf5, xf6⟩ := id X3
  obtain ⟨yf0, yf1, yf2, yf3, yf4, yf5, yf6⟩ := id Y3
  obtain ⟨zf0, zf1, zf2, zf3, zf4⟩ := id Z3
  go_wp2_with fail
  go_cut [7, 8] (fun va vb wx => va = .int .i64 c ∧ vb = .int .i64 d ∧ Below w3.heap.size w3 wx)
  case first =>
    go_region_with (fail)
    all_goals (go_wp2_with fail; go_meet)
    all_goals exact ⟨by rw [vx.out], by rw [vy.out], Below.drew (Below.refl _ _)⟩
  case rest =>
  obtain ⟨rfl, rfl, hb⟩ := hcut
  clear hcc hdd x9 y9 vx vy
  clear xf0 xf1 xf2 xf3 xf4 xf5 xf6 yf0 yf1 yf2 yf3 yf4 yf5 yf6 zf0 zf1 zf2 zf3 zf4
  have B4 := Lib.hid (B3.out.up hb)
  have C4 := Lib.hid (C3.out.below hb)
  have X4 := X3.up hb
  have Y4 := Y3.up hb
  have Z4 := Z3.up hb
  clear hb B3 C3 X3 Y3 Z3
  obtain ⟨xf0, xf1, xf2, xf3, xf4, xf5, xf6⟩ := id X4
  obtain ⟨yf0, yf1, yf2, yf3, yf4, yf5, yf6⟩ := id Y4
  obtain ⟨zf0, zf1, zf2, zf3, zf4⟩ := id Z4
  go_wp2_with fail
  clear xf0 xf1 xf2 xf3 xf4 xf5 xf6 yf0 yf1 yf2 yf3 yf4 yf5 yf6 zf0 zf1 zf2 zf3 zf4
  refine (KP.out c HC.out _ C4.out).mono ?_
  rintro e w5 ⟨rfl, hb⟩
  have B5 := Lib.hid (B4.out.up hb)
  have C5 := Lib.hid (C4.out.below hb)
  have X5 := X4.up hb
  have Y5 := Y4.up hb
  have Z5 := Z4.up hb
  clear hb B4 C4 X4 Y4 Z4
  obtain ⟨xf0, xf1, xf2, xf3, xf4, xf5, xf6⟩ := id X5
  obtain ⟨yf0, yf1, yf2, yf3, yf4, yf5, yf6⟩ := id Y5
  obtain ⟨zf0, zf1, zf2, zf3, zf4⟩ := id Z5
  go_wp2_with fail
  clear xf0 xf1 xf2 xf3 xf4 xf5 xf6 yf0 yf1 yf2 yf3 yf4 yf5 yf6 zf0 zf1 zf2 zf3 zf4
  refine (KQ.out c HC.out _ C5.out).mono ?_
  rintro e w6 ⟨rfl, hb⟩
  have B6 := Lib.hid (B5.out.up hb)
  have C6 := Lib.hid (C5.out.below hb)
  have X6 := X5.up hb
  have Y6 := Y5.up hb
  have Z6 := Z5.up hb
  clear hb B5 C5 X5 Y5 Z5
  obtain ⟨xf0, xf1, xf2, xf3, xf4, xf5, xf6⟩ := id X6
  obtain ⟨yf0, yf1, yf2, yf3, yf4, yf5, yf6⟩ := id Y6
  obtain ⟨zf0, zf1, zf2, zf3, zf4⟩ := id Z6
  go_wp2_with fail
  clear xf0 xf1 xf2 xf3 xf4 xf5 xf6 yf0 yf1 yf2 yf3 yf4 yf5 yf6 zf0 zf1 zf2 zf3 zf4
  refine (KP.out d HD.out _ C6.out).mono ?_
  rintro e w7 ⟨rfl, hb⟩
  have B7 := Lib.hid (B6.out.up hb)
  have C7 := Lib.hid (C6.out.below hb)
  have X7 := X6.up hb
  have Y7 := Y6.up hb
  have Z7 := Z6.up hb
  clear hb B6 C6 X6 Y6 Z6
  obtain ⟨xf0, xf1, xf2, xf3, xf4, xf5, xf6⟩ := id X7
  obtain ⟨yf0, yf1, yf2, yf3, yf4, yf5, yf6⟩ := id Y7
  obtain ⟨zf0, zf1, zf2, zf3, zf4⟩ := id Z7
  go_wp2_with fail
  clear xf0 xf1 xf2 xf3 xf4 xf5 xf6 yf0 yf1 yf2 yf3 yf4 yf5 yf6 zf0 zf1 zf2 zf3 zf4
  refine (KQ.out d HD.out _ C7.out).mono ?_
  rintro e w8 ⟨rfl, hb⟩
  have B8 := Lib.hid (B7.out.up hb)
  have C8 := Lib.hid (C7.out.below hb)
  have X8 := X7.up hb
  have Y8 := Y7.up hb
  have Z8 := Z7.up hb
  clear hb B7 C7 X7 Y7 Z7
  obtain ⟨xf0, xf1, xf2, xf3, xf4, xf5, xf6⟩ := id X8
  obtain ⟨yf0, yf1, yf2, yf3, yf4, yf5, yf6⟩ := id Y8
  obtain ⟨zf0, zf1, zf2, zf3, zf4⟩ := id Z8
  have B9 := Lib.hid (B8.out.set (b := w.heap.size + 1) (by omega) 1 (.int .i64 0))
  have C9 := Lib.hid (H0.out.below B9.out.out)
  have X9 := X8.other (c := w.heap.size + 1) (i := 1) (u := .int .i64 0) (by omega)
  obtain ⟨xk0, xk1, xk2, xk3, xk4, xk5, xk6⟩ := id X9
  have Y9 := Y8.put1 (u := .int .i64 0)
  obtain ⟨yk0, yk1, yk2, yk3, yk4, yk5, yk6⟩ := id Y9
  have Z9 := Z8.other (c := w.heap.size + 1) (i := 1) (u := .int .i64 0) (by omega)
  obtain ⟨zk0, zk1, zk2, zk3, zk4⟩ := id Z9
  go_wp2_with fail
  clear B8 C8 X8 Y8 Z8
  clear xf0 xf1 xf2 xf3 xf4 xf5 xf6 yf0 yf1 yf2 yf3 yf4 yf5 yf6 zf0 zf1 zf2 zf3 zf4 xk0 xk1 xk2 xk3 xk4 xk5 xk6 yk0 yk1 yk2 yk3 yk4 yk5 yk6 zk0 zk1 zk2 zk3 zk4
  refine (KZ.out HZ.out _ C9.out).mono ?_
  rintro e w10 ⟨rfl, hb⟩
  have B10 := Lib.hid (B9.out.up hb)
  have C10 := Lib.hid (C9.out.below hb)
  have X10 := X9.up hb
  have Y10 := Y9.up hb
  have Z10 := Z9.up hb
  clear hb B9 C9 X9 Y9 Z9
  obtain ⟨xf0, xf1, xf2, xf3, xf4, xf5, xf6⟩ := id X10
  obtain ⟨yf0, yf1, yf2, yf3, yf4, yf5, yf6⟩ := id Y10
  obtain ⟨zf0, zf1, zf2, zf3, zf4⟩ := id Z10
  go_wp2_with fail
  clear xf0 xf1 xf2 xf3 xf4 xf5 xf6 yf0 yf1 yf2 yf3 yf4 yf5 yf6 zf0 zf1 zf2 zf3 zf4
  refine (exists_yes q0 0 q2 _ HZ.out).mono ?_
  rintro e w11 ⟨rfl, hb⟩
  have B11 := Lib.hid (B10.out.up hb)
  have C11 := Lib.hid (C10.out.below hb)
  have X11 := X10.up hb
  have Y11 := Y10.up hb
  have Z11 := Z10.up hb
  clear hb B10 C10 X10 Y10 Z10
  obtain ⟨xf0, xf1, xf2, xf3, xf4, xf5, xf6⟩ := id X11
  obtain ⟨yf0, yf1, yf2, yf3, yf4, yf5, yf6⟩ := id Y11
  obtain ⟨zf0, zf1, zf2, zf3, zf4⟩ := id Z11
  go_wp2_with fail
  go_ret
  exact ⟨rfl, B11.out.out⟩
set_option maxRecDepth 100000 in
set_option maxHeartbeats 2000000 in
theorem stLaw_z_yes (p0 p1 p2 q0 q1 q2 x y : Int) (w : World) (x0 : 0 ≤ x) (x1 : x ≤ 255) (y0 : 0 ≤ y) (y1 : y ≤ 255) (hp : Pit p0 p1 p2) (hq : Pit q0 q1 q2) (hz : Pit q0 0 q2) (hn : p2 ≠ 9) (ho : Pit p0 p1 (p2 + 1)) (hc : CW w) :
    Calls Tryd.prog 5 #[.agg #[.int .i64 p0, .int .i64 p1, .int .i64 p2], .agg #[.int .i64 q0, .int .i64 q1, .int .i64 q2], .agg #[.int .u8 x, .int .u8 y]] w fun e w' => e = .returned (.bool true) ∧ Below w.heap.size w w' := by
  have HP := Lib.hid hp
  have HQ := Lib.hid hq
  have HC := Lib.hid (cl_mod x0)
  have HD := Lib.hid (cl_mod y0)
  have H0 := Lib.hid hc
  have x9 : x.tmod 9 = x % 9 := Int.tmod_eq_emod_of_nonneg x0
  have y9 : y.tmod 9 = y % 9 := Int.tmod_eq_emod_of_nonneg y0
  obtain ⟨c, hcc⟩ : ∃ c, 1 + x % 9 = c := ⟨_, rfl⟩
  obtain ⟨d, hdd⟩ : ∃ d, 1 + y % 9 = d := ⟨_, rfl⟩
  have wx : IntKind.i64.wrap x = x := (IntWalk.i64_left _).trans (IntWalk.wrap64_in _ ⟨by omega, by omega⟩)
  have wy : IntKind.i64.wrap y = y := (IntWalk.i64_left _).trans (IntWalk.wrap64_in _ ⟨by omega, by omega⟩)
  have vx : IntKind.i64.wrap (1 + (IntKind.i64.wrap x).tmod 9) = c := by rw [wx, x9, ← hcc]; exact (IntWalk.i64_left _).trans (IntWalk.wrap64_in _ ⟨by omega, by omega⟩)
  have vy : IntKind.i64.wrap (1 + (IntKind.i64.wrap y).tmod 9) = d := by rw [wy, y9, ← hdd]; exact (IntWalk.i64_left _).trans (IntWalk.wrap64_in _ ⟨by omega, by omega⟩)
  replace vx := Lib.hid vx
  replace vy := Lib.hid vy
  clear wx wy
  rw [hcc] at HC
  rw [hdd] at HD
  obtain ⟨DP, hDP⟩ : ∃ z, diaP p0 p2 = z := ⟨_, rfl⟩
  obtain ⟨DQ, hDQ⟩ : ∃ z, diaP q0 q2 = z := ⟨_, rfl⟩
  have bp := dia_bd hp
  have bq := dia_bd hq
  rw [hDP] at bp
  rw [hDQ] at bq
  obtain ⟨bp0, bp1⟩ := bp
  obtain ⟨bq0, bq1⟩ := bq
  have hC := Lib.hid (mid_bd c)
  have hD := Lib.hid (mid_bd d)
  obtain ⟨mc0, mc1⟩ := hC.out
  obtain ⟨md0, md1⟩ := hD.out
  have KP := fun (e : Int) (he : Cl e) v hv => pos_ok e p0 p1 p2 v he hp hv
  have KQ := fun (e : Int) (he : Cl e) v hv => pos_ok e q0 q1 q2 v he hq hv
  have KZ := fun (h0 : Pit q0 0 q2) v hv => pos_ok c q0 0 q2 v HC.out h0 hv
  have KO := fun (h0 : Pit p0 p1 (p2 + 1)) v hv => pos_ok c p0 p1 (p2 + 1) v HC.out h0 hv
  rw [show diaP p0 (p2 + 1) = DP + 7 by rw [← hDP]; unfold diaP; omega] at KO
  simp only [hDP] at KP
  simp only [hDQ] at KQ KZ
  have p2a := hp.o0
  have p2b := hp.o1
  clear hDP hDQ
  have hdist := dist DP DQ (midI c) (midI d)
  have hoct : (DP + 7 - midI c == DP - midI c + 7) = true := by simp; omega
  replace KP := Lib.hid KP
  replace KQ := Lib.hid KQ
  replace KZ := Lib.hid KZ
  replace KO := Lib.hid KO
  have HZ := Lib.hid hz
  have HO := Lib.hid ho
  have B0 := Lib.hid ((((Bel.refl w).alloc (.cells #[.int .i64 p0, .int .i64 p1, .int .i64 p2] 23)).alloc (.cells #[.int .i64 q0, .int .i64 q1, .int .i64 q2] 23)).alloc (.cells #[.int .u8 x, .int .u8 y] 38))
  have C0 := Lib.hid (((hc.below ((Below.refl _ _).alloc (Nat.le_refl _) (.cells #[.int .i64 p0, .int .i64 p1, .int .i64 p2] 23))).below ((Below.refl _ _).alloc (Nat.le_refl _) (.cells #[.int .i64 q0, .int .i64 q1, .int .i64 q2] 23))).below ((Below.refl _ _).alloc (Nat.le_refl _) (.cells #[.int .u8 x, .int .u8 y] 38)))
  have X0 := ((Tri.new w (.int .i64 p0) (.int .i64 p1) (.int .i64 p2) 23 (w.heap.size) (by simp)).alloc (.cells #[.int .i64 q0, .int .i64 q1, .int .i64 q2] 23)).alloc (.cells #[.int .u8 x, .int .u8 y] 38)
  have Y0 := (Tri.new (w.alloc (.cells #[.int .i64 p0, .int .i64 p1, .int .i64 p2] 23)) (.int .i64 q0) (.int .i64 q1) (.int .i64 q2) 23 (w.heap.size + 1) (by simp)).alloc (.cells #[.int .u8 x, .int .u8 y] 38)
  have Z0 := Duo.new ((w.alloc (.cells #[.int .i64 p0, .int .i64 p1, .int .i64 p2] 23)).alloc (.cells #[.int .i64 q0, .int .i64 q1, .int .i64 q2] 23)) (.int .u8 x) (.int .u8 y) 38 (w.heap.size + 1 + 1) (by simp)
  go_enter Tryd.func5, Tryd.ntmps5
  obtain ⟨xf0, xf1, xf2, xf3, xf4, xf5, xf6⟩ := id X0
  obtain ⟨yf0, yf1, yf2, yf3, yf4, yf5, yf6⟩ := id Y0
  obtain ⟨zf0, zf1, zf2, zf3, zf4⟩ := id Z0
  go_wp2_with fail
  clear xf0 xf1 xf2 xf3 xf4 xf5 xf6 yf0 yf1 yf2 yf3 yf4 yf5 yf6 zf0 zf1 zf2 zf3 zf4
  refine (known_ok _ C0.out).mono ?_
  rintro e w1 ⟨rfl, hb⟩
  have B1 := Lib.hid (B0.out.up hb)
  have C1 := Lib.hid (C0.out.below hb)
  have X1 := X0.up hb
  have Y1 := Y0.up hb
  have Z1 := Z0.up hb
  clear hb B0 C0 X0 Y0 Z0
  obtain ⟨xf0, xf1, xf2, xf3, xf4, xf5, xf6⟩ := id X1
  obtain ⟨yf0, yf1, yf2, yf3, yf4, yf5, yf6⟩ := id Y1
  obtain ⟨zf0, zf1, zf2, zf3, zf4⟩ := id Z1
  go_wp2_with fail
  clear xf0 xf1 xf2 xf3 xf4 xf5 xf6 yf0 yf1 yf2 yf3 yf4 yf5 yf6 zf0 zf1 zf2 zf3 zf4
  refine (exists_yes p0 p1 p2 _ HP.out).mono ?_
  rintro e w2 ⟨rfl, hb⟩
  have B2 := Lib.hid (B1.out.up hb)
  have C2 := Lib.hid (C1.out.below hb)
  have X2 := X1.up hb
  have Y2 := Y1.up hb
  have Z2 := Z1.up hb
  clear hb B1 C1 X1 Y1 Z1
  obtain ⟨xf0, xf1, xf2, xf3, xf4, xf5, xf6⟩ := id X2
  obtain ⟨yf0, yf1, yf2, yf3, yf4, yf5, yf6⟩ := id Y2
  obtain ⟨zf0, zf1, zf2, zf3, zf4⟩ := id Z2
  go_wp2_with fail
  clear xf0 xf1 xf2 xf3 xf4 xf5 xf6 yf0 yf1 yf2 yf3 yf4 yf5 yf6 zf0 zf1 zf2 zf3 zf4
  refine (exists_yes q0 q1 q2 _ HQ.out).mono ?_
  rintro e w3 ⟨rfl, hb⟩
  have B3 := Lib.hid (B2.out.up hb)
  have C3 := Lib.hid (C2.out.below hb)
  have X3 := X2.up hb
  have Y3 := Y2.up hb
  have Z3 := Z2.up hb
  clear hb B2 C2 X2 Y2 Z2
  obtain ⟨xf0, xf1, xf2, xf3, xf4, xf5, xf6⟩ := id X3
  obtain ⟨yf0, yf1, yf2, yf3, yf4, yf5, yf6⟩ := id Y3
  obtain ⟨zf0, zf1, zf2, zf3, zf4⟩ := id Z3
  go_wp2_with fail
  go_cut [7, 8] (fun va vb wx => va = .int .i64 c ∧ vb = .int .i64 d ∧ Below w3.heap.size w3 wx)
  case first =>
    go_region_with (fail)
    all_goals (go_wp2_with fail; go_meet)
    all_goals exact ⟨by rw [vx.out], by rw [vy.out], Below.drew (Below.refl _ _)⟩
  case rest =>
  obtain ⟨rfl, rfl, hb⟩ := hcut
  clear hcc hdd x9 y9 vx vy
  clear xf0 xf1 xf2 xf3 xf4 xf5 xf6 yf0 yf1 yf2 yf3 yf4 yf5 yf6 zf0 zf1 zf2 zf3 zf4
  have B4 := Lib.hid (B3.out.up hb)
  have C4 := Lib.hid (C3.out.below hb)
  have X4 := X3.up hb
  have Y4 := Y3.up hb
  have Z4 := Z3.up hb
  clear hb B3 C3 X3 Y3 Z3
  obtain ⟨xf0, xf1, xf2, xf3, xf4, xf5, xf6⟩ := id X4
  obtain ⟨yf0, yf1, yf2, yf3, yf4, yf5, yf6⟩ := id Y4
  obtain ⟨zf0, zf1, zf2, zf3, zf4⟩ := id Z4
  go_wp2_with fail
  clear xf0 xf1 xf2 xf3 xf4 xf5 xf6 yf0 yf1 yf2 yf3 yf4 yf5 yf6 zf0 zf1 zf2 zf3 zf4
  refine (KP.out c HC.out _ C4.out).mono ?_
  rintro e w5 ⟨rfl, hb⟩
  have B5 := Lib.hid (B4.out.up hb)
  have C5 := Lib.hid (C4.out.below hb)
  have X5 := X4.up hb
  have Y5 := Y4.up hb
  have Z5 := Z4.up hb
  clear hb B4 C4 X4 Y4 Z4
  obtain ⟨xf0, xf1, xf2, xf3, xf4, xf5, xf6⟩ := id X5
  obtain ⟨yf0, yf1, yf2, yf3, yf4, yf5, yf6⟩ := id Y5
  obtain ⟨zf0, zf1, zf2, zf3, zf4⟩ := id Z5
  go_wp2_with fail
  clear xf0 xf1 xf2 xf3 xf4 xf5 xf6 yf0 yf1 yf2 yf3 yf4 yf5 yf6 zf0 zf1 zf2 zf3 zf4
  refine (KQ.out c HC.out _ C5.out).mono ?_
  rintro e w6 ⟨rfl, hb⟩
  have B6 := Lib.hid (B5.out.up hb)
  have C6 := Lib.hid (C5.out.below hb)
  have X6 := X5.up hb
  have Y6 := Y5.up hb
  have Z6 := Z5.up hb
  clear hb B5 C5 X5 Y5 Z5
  obtain ⟨xf0, xf1, xf2, xf3, xf4, xf5, xf6⟩ := id X6
  obtain ⟨yf0, yf1, yf2, yf3, yf4, yf5, yf6⟩ := id Y6
  obtain ⟨zf0, zf1, zf2, zf3, zf4⟩ := id Z6
  go_wp2_with fail
  clear xf0 xf1 xf2 xf3 xf4 xf5 xf6 yf0 yf1 yf2 yf3 yf4 yf5 yf6 zf0 zf1 zf2 zf3 zf4
  refine (KP.out d HD.out _ C6.out).mono ?_
  rintro e w7 ⟨rfl, hb⟩
  have B7 := Lib.hid (B6.out.up hb)
  have C7 := Lib.hid (C6.out.below hb)
  have X7 := X6.up hb
  have Y7 := Y6.up hb
  have Z7 := Z6.up hb
  clear hb B6 C6 X6 Y6 Z6
  obtain ⟨xf0, xf1, xf2, xf3, xf4, xf5, xf6⟩ := id X7
  obtain ⟨yf0, yf1, yf2, yf3, yf4, yf5, yf6⟩ := id Y7
  obtain ⟨zf0, zf1, zf2, zf3, zf4⟩ := id Z7
  go_wp2_with fail
  clear xf0 xf1 xf2 xf3 xf4 xf5 xf6 yf0 yf1 yf2 yf3 yf4 yf5 yf6 zf0 zf1 zf2 zf3 zf4
  refine (KQ.out d HD.out _ C7.out).mono ?_
  rintro e w8 ⟨rfl, hb⟩
  have B8 := Lib.hid (B7.out.up hb)
  have C8 := Lib.hid (C7.out.below hb)
  have X8 := X7.up hb
  have Y8 := Y7.up hb
  have Z8 := Z7.up hb
  clear hb B7 C7 X7 Y7 Z7
  obtain ⟨xf0, xf1, xf2, xf3, xf4, xf5, xf6⟩ := id X8
  obtain ⟨yf0, yf1, yf2, yf3, yf4, yf5, yf6⟩ := id Y8
  obtain ⟨zf0, zf1, zf2, zf3, zf4⟩ := id Z8
  have B9 := Lib.hid (B8.out.set (b := w.heap.size + 1) (by omega) 1 (.int .i64 0))
  have C9 := Lib.hid (H0.out.below B9.out.out)
  have X9 := X8.other (c := w.heap.size + 1) (i := 1) (u := .int .i64 0) (by omega)
  obtain ⟨xk0, xk1, xk2, xk3, xk4, xk5, xk6⟩ := id X9
  have Y9 := Y8.put1 (u := .int .i64 0)
  obtain ⟨yk0, yk1, yk2, yk3, yk4, yk5, yk6⟩ := id Y9
  have Z9 := Z8.other (c := w.heap.size + 1) (i := 1) (u := .int .i64 0) (by omega)
  obtain ⟨zk0, zk1, zk2, zk3, zk4⟩ := id Z9
  go_wp2_with fail
  clear B8 C8 X8 Y8 Z8
  clear xf0 xf1 xf2 xf3 xf4 xf5 xf6 yf0 yf1 yf2 yf3 yf4 yf5 yf6 zf0 zf1 zf2 zf3 zf4 xk0 xk1 xk2 xk3 xk4 xk5 xk6 yk0 yk1 yk2 yk3 yk4 yk5 yk6 zk0 zk1 zk2 zk3 zk4
  refine (KZ.out HZ.out _ C9.out).mono ?_
  rintro e w10 ⟨rfl, hb⟩
  have B10 := Lib.hid (B9.out.up hb)
  have C10 := Lib.hid (C9.out.below hb)
  have X10 := X9.up hb
  have Y10 := Y9.up hb
  have Z10 := Z9.up hb
  clear hb B9 C9 X9 Y9 Z9
  obtain ⟨xf0, xf1, xf2, xf3, xf4, xf5, xf6⟩ := id X10
  obtain ⟨yf0, yf1, yf2, yf3, yf4, yf5, yf6⟩ := id Y10
  obtain ⟨zf0, zf1, zf2, zf3, zf4⟩ := id Z10
  go_wp2_with fail
  clear xf0 xf1 xf2 xf3 xf4 xf5 xf6 yf0 yf1 yf2 yf3 yf4 yf5 yf6 zf0 zf1 zf2 zf3 zf4
  refine (exists_yes q0 0 q2 _ HZ.out).mono ?_
  rintro e w11 ⟨rfl, hb⟩
  have B11 := Lib.hid (B10.out.up hb)
  have C11 := Lib.hid (C10.out.below hb)
  have X11 := X10.up hb
  have Y11 := Y10.up hb
  have Z11 := Z10.up hb
  clear hb B10 C10 X10 Y10 Z10
  obtain ⟨xf0, xf1, xf2, xf3, xf4, xf5, xf6⟩ := id X11
  obtain ⟨yf0, yf1, yf2, yf3, yf4, yf5, yf6⟩ := id Y11
  obtain ⟨zf0, zf1, zf2, zf3, zf4⟩ := id Z11
  have B12 := Lib.hid (B11.out.set (b := w.heap.size) (Nat.le_refl _) 2 (.int .i64 (p2 + 1)))
  have C12 := Lib.hid (H0.out.below B12.out.out)
  have X12 := X11.put2 (u := .int .i64 (p2 + 1))
  obtain ⟨xk0, xk1, xk2, xk3, xk4, xk5, xk6⟩ := id X12
  have Y12 := Y11.other (c := w.heap.size) (i := 2) (u := .int .i64 (p2 + 1)) (by omega)
  obtain ⟨yk0, yk1, yk2, yk3, yk4, yk5, yk6⟩ := id Y12
  have Z12 := Z11.other (c := w.heap.size) (i := 2) (u := .int .i64 (p2 + 1)) (by omega)
  obtain ⟨zk0, zk1, zk2, zk3, zk4⟩ := id Z12
  go_wp2_with fail
  clear B11 C11 X11 Y11 Z11
  clear xf0 xf1 xf2 xf3 xf4 xf5 xf6 yf0 yf1 yf2 yf3 yf4 yf5 yf6 zf0 zf1 zf2 zf3 zf4 xk0 xk1 xk2 xk3 xk4 xk5 xk6 yk0 yk1 yk2 yk3 yk4 yk5 yk6 zk0 zk1 zk2 zk3 zk4
  refine (KO.out HO.out _ C12.out).mono ?_
  rintro e w13 ⟨rfl, hb⟩
  have B13 := Lib.hid (B12.out.up hb)
  have C13 := Lib.hid (C12.out.below hb)
  have X13 := X12.up hb
  have Y13 := Y12.up hb
  have Z13 := Z12.up hb
  clear hb B12 C12 X12 Y12 Z12
  obtain ⟨xf0, xf1, xf2, xf3, xf4, xf5, xf6⟩ := id X13
  obtain ⟨yf0, yf1, yf2, yf3, yf4, yf5, yf6⟩ := id Y13
  obtain ⟨zf0, zf1, zf2, zf3, zf4⟩ := id Z13
  go_wp2_with fail
  clear xf0 xf1 xf2 xf3 xf4 xf5 xf6 yf0 yf1 yf2 yf3 yf4 yf5 yf6 zf0 zf1 zf2 zf3 zf4
  refine (exists_yes p0 p1 (p2 + 1) _ HO.out).mono ?_
  rintro e w14 ⟨rfl, hb⟩
  have B14 := Lib.hid (B13.out.up hb)
  have C14 := Lib.hid (C13.out.below hb)
  have X14 := X13.up hb
  have Y14 := Y13.up hb
  have Z14 := Z13.up hb
  clear hb B13 C13 X13 Y13 Z13
  obtain ⟨xf0, xf1, xf2, xf3, xf4, xf5, xf6⟩ := id X14
  obtain ⟨yf0, yf1, yf2, yf3, yf4, yf5, yf6⟩ := id Y14
  obtain ⟨zf0, zf1, zf2, zf3, zf4⟩ := id Z14
  go_wp2_with fail
  go_ret
  exact ⟨rfl, B14.out.out⟩
set_option maxRecDepth 100000 in
set_option maxHeartbeats 2000000 in
theorem stLaw_z_no (p0 p1 p2 q0 q1 q2 x y : Int) (w : World) (x0 : 0 ≤ x) (x1 : x ≤ 255) (y0 : 0 ≤ y) (y1 : y ≤ 255) (hp : Pit p0 p1 p2) (hq : Pit q0 q1 q2) (hz : Pit q0 0 q2) (hn : p2 ≠ 9) (ho : ¬ Pit p0 p1 (p2 + 1)) (hc : CW w) :
    Calls Tryd.prog 5 #[.agg #[.int .i64 p0, .int .i64 p1, .int .i64 p2], .agg #[.int .i64 q0, .int .i64 q1, .int .i64 q2], .agg #[.int .u8 x, .int .u8 y]] w fun e w' => e = .returned (.bool true) ∧ Below w.heap.size w w' := by
  have HP := Lib.hid hp
  have HQ := Lib.hid hq
  have HC := Lib.hid (cl_mod x0)
  have HD := Lib.hid (cl_mod y0)
  have H0 := Lib.hid hc
  have x9 : x.tmod 9 = x % 9 := Int.tmod_eq_emod_of_nonneg x0
  have y9 : y.tmod 9 = y % 9 := Int.tmod_eq_emod_of_nonneg y0
  obtain ⟨c, hcc⟩ : ∃ c, 1 + x % 9 = c := ⟨_, rfl⟩
  obtain ⟨d, hdd⟩ : ∃ d, 1 + y % 9 = d := ⟨_, rfl⟩
  have wx : IntKind.i64.wrap x = x := (IntWalk.i64_left _).trans (IntWalk.wrap64_in _ ⟨by omega, by omega⟩)
  have wy : IntKind.i64.wrap y = y := (IntWalk.i64_left _).trans (IntWalk.wrap64_in _ ⟨by omega, by omega⟩)
  have vx : IntKind.i64.wrap (1 + (IntKind.i64.wrap x).tmod 9) = c := by rw [wx, x9, ← hcc]; exact (IntWalk.i64_left _).trans (IntWalk.wrap64_in _ ⟨by omega, by omega⟩)
  have vy : IntKind.i64.wrap (1 + (IntKind.i64.wrap y).tmod 9) = d := by rw [wy, y9, ← hdd]; exact (IntWalk.i64_left _).trans (IntWalk.wrap64_in _ ⟨by omega, by omega⟩)
  replace vx := Lib.hid vx
  replace vy := Lib.hid vy
  clear wx wy
  rw [hcc] at HC
  rw [hdd] at HD
  obtain ⟨DP, hDP⟩ : ∃ z, diaP p0 p2 = z := ⟨_, rfl⟩
  obtain ⟨DQ, hDQ⟩ : ∃ z, diaP q0 q2 = z := ⟨_, rfl⟩
  have bp := dia_bd hp
  have bq := dia_bd hq
  rw [hDP] at bp
  rw [hDQ] at bq
  obtain ⟨bp0, bp1⟩ := bp
  obtain ⟨bq0, bq1⟩ := bq
  have hC := Lib.hid (mid_bd c)
  have hD := Lib.hid (mid_bd d)
  obtain ⟨mc0, mc1⟩ := hC.out
  obtain ⟨md0, md1⟩ := hD.out
  have KP := fun (e : Int) (he : Cl e) v hv => pos_ok e p0 p1 p2 v he hp hv
  have KQ := fun (e : Int) (he : Cl e) v hv => pos_ok e q0 q1 q2 v he hq hv
  have KZ := fun (h0 : Pit q0 0 q2) v hv => pos_ok c q0 0 q2 v HC.out h0 hv
  have KO := fun (h0 : Pit p0 p1 (p2 + 1)) v hv => pos_ok c p0 p1 (p2 + 1) v HC.out h0 hv
  rw [show diaP p0 (p2 + 1) = DP + 7 by rw [← hDP]; unfold diaP; omega] at KO
  simp only [hDP] at KP
  simp only [hDQ] at KQ KZ
  have p2a := hp.o0
  have p2b := hp.o1
  clear hDP hDQ
  have hdist := dist DP DQ (midI c) (midI d)
  have hoct : (DP + 7 - midI c == DP - midI c + 7) = true := by simp; omega
  replace KP := Lib.hid KP
  replace KQ := Lib.hid KQ
  replace KZ := Lib.hid KZ
  replace KO := Lib.hid KO
  have HZ := Lib.hid hz
  have HO := Lib.hid ho
  have B0 := Lib.hid ((((Bel.refl w).alloc (.cells #[.int .i64 p0, .int .i64 p1, .int .i64 p2] 23)).alloc (.cells #[.int .i64 q0, .int .i64 q1, .int .i64 q2] 23)).alloc (.cells #[.int .u8 x, .int .u8 y] 38))
  have C0 := Lib.hid (((hc.below ((Below.refl _ _).alloc (Nat.le_refl _) (.cells #[.int .i64 p0, .int .i64 p1, .int .i64 p2] 23))).below ((Below.refl _ _).alloc (Nat.le_refl _) (.cells #[.int .i64 q0, .int .i64 q1, .int .i64 q2] 23))).below ((Below.refl _ _).alloc (Nat.le_refl _) (.cells #[.int .u8 x, .int .u8 y] 38)))
  have X0 := ((Tri.new w (.int .i64 p0) (.int .i64 p1) (.int .i64 p2) 23 (w.heap.size) (by simp)).alloc (.cells #[.int .i64 q0, .int .i64 q1, .int .i64 q2] 23)).alloc (.cells #[.int .u8 x, .int .u8 y] 38)
  have Y0 := (Tri.new (w.alloc (.cells #[.int .i64 p0, .int .i64 p1, .int .i64 p2] 23)) (.int .i64 q0) (.int .i64 q1) (.int .i64 q2) 23 (w.heap.size + 1) (by simp)).alloc (.cells #[.int .u8 x, .int .u8 y] 38)
  have Z0 := Duo.new ((w.alloc (.cells #[.int .i64 p0, .int .i64 p1, .int .i64 p2] 23)).alloc (.cells #[.int .i64 q0, .int .i64 q1, .int .i64 q2] 23)) (.int .u8 x) (.int .u8 y) 38 (w.heap.size + 1 + 1) (by simp)
  go_enter Tryd.func5, Tryd.ntmps5
  obtain ⟨xf0, xf1, xf2, xf3, xf4, xf5, xf6⟩ := id X0
  obtain ⟨yf0, yf1, yf2, yf3, yf4, yf5, yf6⟩ := id Y0
  obtain ⟨zf0, zf1, zf2, zf3, zf4⟩ := id Z0
  go_wp2_with fail
  clear xf0 xf1 xf2 xf3 xf4 xf5 xf6 yf0 yf1 yf2 yf3 yf4 yf5 yf6 zf0 zf1 zf2 zf3 zf4
  refine (known_ok _ C0.out).mono ?_
  rintro e w1 ⟨rfl, hb⟩
  have B1 := Lib.hid (B0.out.up hb)
  have C1 := Lib.hid (C0.out.below hb)
  have X1 := X0.up hb
  have Y1 := Y0.up hb
  have Z1 := Z0.up hb
  clear hb B0 C0 X0 Y0 Z0
  obtain ⟨xf0, xf1, xf2, xf3, xf4, xf5, xf6⟩ := id X1
  obtain ⟨yf0, yf1, yf2, yf3, yf4, yf5, yf6⟩ := id Y1
  obtain ⟨zf0, zf1, zf2, zf3, zf4⟩ := id Z1
  go_wp2_with fail
  clear xf0 xf1 xf2 xf3 xf4 xf5 xf6 yf0 yf1 yf2 yf3 yf4 yf5 yf6 zf0 zf1 zf2 zf3 zf4
  refine (exists_yes p0 p1 p2 _ HP.out).mono ?_
  rintro e w2 ⟨rfl, hb⟩
  have B2 := Lib.hid (B1.out.up hb)
  have C2 := Lib.hid (C1.out.below hb)
  have X2 := X1.up hb
  have Y2 := Y1.up hb
  have Z2 := Z1.up hb
  clear hb B1 C1 X1 Y1 Z1
  obtain ⟨xf0, xf1, xf2, xf3, xf4, xf5, xf6⟩ := id X2
  obtain ⟨yf0, yf1, yf2, yf3, yf4, yf5, yf6⟩ := id Y2
  obtain ⟨zf0, zf1, zf2, zf3, zf4⟩ := id Z2
  go_wp2_with fail
  clear xf0 xf1 xf2 xf3 xf4 xf5 xf6 yf0 yf1 yf2 yf3 yf4 yf5 yf6 zf0 zf1 zf2 zf3 zf4
  refine (exists_yes q0 q1 q2 _ HQ.out).mono ?_
  rintro e w3 ⟨rfl, hb⟩
  have B3 := Lib.hid (B2.out.up hb)
  have C3 := Lib.hid (C2.out.below hb)
  have X3 := X2.up hb
  have Y3 := Y2.up hb
  have Z3 := Z2.up hb
  clear hb B2 C2 X2 Y2 Z2
  obtain ⟨xf0, xf1, xf2, xf3, xf4, xf5, xf6⟩ := id X3
  obtain ⟨yf0, yf1, yf2, yf3, yf4, yf5, yf6⟩ := id Y3
  obtain ⟨zf0, zf1, zf2, zf3, zf4⟩ := id Z3
  go_wp2_with fail
  go_cut [7, 8] (fun va vb wx => va = .int .i64 c ∧ vb = .int .i64 d ∧ Below w3.heap.size w3 wx)
  case first =>
    go_region_with (fail)
    all_goals (go_wp2_with fail; go_meet)
    all_goals exact ⟨by rw [vx.out], by rw [vy.out], Below.drew (Below.refl _ _)⟩
  case rest =>
  obtain ⟨rfl, rfl, hb⟩ := hcut
  clear hcc hdd x9 y9 vx vy
  clear xf0 xf1 xf2 xf3 xf4 xf5 xf6 yf0 yf1 yf2 yf3 yf4 yf5 yf6 zf0 zf1 zf2 zf3 zf4
  have B4 := Lib.hid (B3.out.up hb)
  have C4 := Lib.hid (C3.out.below hb)
  have X4 := X3.up hb
  have Y4 := Y3.up hb
  have Z4 := Z3.up hb
  clear hb B3 C3 X3 Y3 Z3
  obtain ⟨xf0, xf1, xf2, xf3, xf4, xf5, xf6⟩ := id X4
  obtain ⟨yf0, yf1, yf2, yf3, yf4, yf5, yf6⟩ := id Y4
  obtain ⟨zf0, zf1, zf2, zf3, zf4⟩ := id Z4
  go_wp2_with fail
  clear xf0 xf1 xf2 xf3 xf4 xf5 xf6 yf0 yf1 yf2 yf3 yf4 yf5 yf6 zf0 zf1 zf2 zf3 zf4
  refine (KP.out c HC.out _ C4.out).mono ?_
  rintro e w5 ⟨rfl, hb⟩
  have B5 := Lib.hid (B4.out.up hb)
  have C5 := Lib.hid (C4.out.below hb)
  have X5 := X4.up hb
  have Y5 := Y4.up hb
  have Z5 := Z4.up hb
  clear hb B4 C4 X4 Y4 Z4
  obtain ⟨xf0, xf1, xf2, xf3, xf4, xf5, xf6⟩ := id X5
  obtain ⟨yf0, yf1, yf2, yf3, yf4, yf5, yf6⟩ := id Y5
  obtain ⟨zf0, zf1, zf2, zf3, zf4⟩ := id Z5
  go_wp2_with fail
  clear xf0 xf1 xf2 xf3 xf4 xf5 xf6 yf0 yf1 yf2 yf3 yf4 yf5 yf6 zf0 zf1 zf2 zf3 zf4
  refine (KQ.out c HC.out _ C5.out).mono ?_
  rintro e w6 ⟨rfl, hb⟩
  have B6 := Lib.hid (B5.out.up hb)
  have C6 := Lib.hid (C5.out.below hb)
  have X6 := X5.up hb
  have Y6 := Y5.up hb
  have Z6 := Z5.up hb
  clear hb B5 C5 X5 Y5 Z5
  obtain ⟨xf0, xf1, xf2, xf3, xf4, xf5, xf6⟩ := id X6
  obtain ⟨yf0, yf1, yf2, yf3, yf4, yf5, yf6⟩ := id Y6
  obtain ⟨zf0, zf1, zf2, zf3, zf4⟩ := id Z6
  go_wp2_with fail
  clear xf0 xf1 xf2 xf3 xf4 xf5 xf6 yf0 yf1 yf2 yf3 yf4 yf5 yf6 zf0 zf1 zf2 zf3 zf4
  refine (KP.out d HD.out _ C6.out).mono ?_
  rintro e w7 ⟨rfl, hb⟩
  have B7 := Lib.hid (B6.out.up hb)
  have C7 := Lib.hid (C6.out.below hb)
  have X7 := X6.up hb
  have Y7 := Y6.up hb
  have Z7 := Z6.up hb
  clear hb B6 C6 X6 Y6 Z6
  obtain ⟨xf0, xf1, xf2, xf3, xf4, xf5, xf6⟩ := id X7
  obtain ⟨yf0, yf1, yf2, yf3, yf4, yf5, yf6⟩ := id Y7
  obtain ⟨zf0, zf1, zf2, zf3, zf4⟩ := id Z7
  go_wp2_with fail
  clear xf0 xf1 xf2 xf3 xf4 xf5 xf6 yf0 yf1 yf2 yf3 yf4 yf5 yf6 zf0 zf1 zf2 zf3 zf4
  refine (KQ.out d HD.out _ C7.out).mono ?_
  rintro e w8 ⟨rfl, hb⟩
  have B8 := Lib.hid (B7.out.up hb)
  have C8 := Lib.hid (C7.out.below hb)
  have X8 := X7.up hb
  have Y8 := Y7.up hb
  have Z8 := Z7.up hb
  clear hb B7 C7 X7 Y7 Z7
  obtain ⟨xf0, xf1, xf2, xf3, xf4, xf5, xf6⟩ := id X8
  obtain ⟨yf0, yf1, yf2, yf3, yf4, yf5, yf6⟩ := id Y8
  obtain ⟨zf0, zf1, zf2, zf3, zf4⟩ := id Z8
  have B9 := Lib.hid (B8.out.set (b := w.heap.size + 1) (by omega) 1 (.int .i64 0))
  have C9 := Lib.hid (H0.out.below B9.out.out)
  have X9 := X8.other (c := w.heap.size + 1) (i := 1) (u := .int .i64 0) (by omega)
  obtain ⟨xk0, xk1, xk2, xk3, xk4, xk5, xk6⟩ := id X9
  have Y9 := Y8.put1 (u := .int .i64 0)
  obtain ⟨yk0, yk1, yk2, yk3, yk4, yk5, yk6⟩ := id Y9
  have Z9 := Z8.other (c := w.heap.size + 1) (i := 1) (u := .int .i64 0) (by omega)
  obtain ⟨zk0, zk1, zk2, zk3, zk4⟩ := id Z9
  go_wp2_with fail
  clear B8 C8 X8 Y8 Z8
  clear xf0 xf1 xf2 xf3 xf4 xf5 xf6 yf0 yf1 yf2 yf3 yf4 yf5 yf6 zf0 zf1 zf2 zf3 zf4 xk0 xk1 xk2 xk3 xk4 xk5 xk6 yk0 yk1 yk2 yk3 yk4 yk5 yk6 zk0 zk1 zk2 zk3 zk4
  refine (KZ.out HZ.out _ C9.out).mono ?_
  rintro e w10 ⟨rfl, hb⟩
  have B10 := Lib.hid (B9.out.up hb)
  have C10 := Lib.hid (C9.out.below hb)
  have X10 := X9.up hb
  have Y10 := Y9.up hb
  have Z10 := Z9.up hb
  clear hb B9 C9 X9 Y9 Z9
  obtain ⟨xf0, xf1, xf2, xf3, xf4, xf5, xf6⟩ := id X10
  obtain ⟨yf0, yf1, yf2, yf3, yf4, yf5, yf6⟩ := id Y10
  obtain ⟨zf0, zf1, zf2, zf3, zf4⟩ := id Z10
  go_wp2_with fail
  clear xf0 xf1 xf2 xf3 xf4 xf5 xf6 yf0 yf1 yf2 yf3 yf4 yf5 yf6 zf0 zf1 zf2 zf3 zf4
  refine (exists_yes q0 0 q2 _ HZ.out).mono ?_
  rintro e w11 ⟨rfl, hb⟩
  have B11 := Lib.hid (B10.out.up hb)
  have C11 := Lib.hid (C10.out.below hb)
  have X11 := X10.up hb
  have Y11 := Y10.up hb
  have Z11 := Z10.up hb
  clear hb B10 C10 X10 Y10 Z10
  obtain ⟨xf0, xf1, xf2, xf3, xf4, xf5, xf6⟩ := id X11
  obtain ⟨yf0, yf1, yf2, yf3, yf4, yf5, yf6⟩ := id Y11
  obtain ⟨zf0, zf1, zf2, zf3, zf4⟩ := id Z11
  have B12 := Lib.hid (B11.out.set (b := w.heap.size) (Nat.le_refl _) 2 (.int .i64 (p2 + 1)))
  have C12 := Lib.hid (H0.out.below B12.out.out)
  have X12 := X11.put2 (u := .int .i64 (p2 + 1))
  obtain ⟨xk0, xk1, xk2, xk3, xk4, xk5, xk6⟩ := id X12
  have Y12 := Y11.other (c := w.heap.size) (i := 2) (u := .int .i64 (p2 + 1)) (by omega)
  obtain ⟨yk0, yk1, yk2, yk3, yk4, yk5, yk6⟩ := id Y12
  have Z12 := Z11.other (c := w.heap.size) (i := 2) (u := .int .i64 (p2 + 1)) (by omega)
  obtain ⟨zk0, zk1, zk2, zk3, zk4⟩ := id Z12
  go_wp2_with fail
  clear B11 C11 X11 Y11 Z11
  clear xf0 xf1 xf2 xf3 xf4 xf5 xf6 yf0 yf1 yf2 yf3 yf4 yf5 yf6 zf0 zf1 zf2 zf3 zf4 xk0 xk1 xk2 xk3 xk4 xk5 xk6 yk0 yk1 yk2 yk3 yk4 yk5 yk6 zk0 zk1 zk2 zk3 zk4
  refine (pos_bad2 c p0 p1 (p2 + 1) _ HC.out HO.out C12.out).mono ?_
  rintro e w13 ⟨rfl, hb⟩
  have B13 := Lib.hid (B12.out.up hb)
  have C13 := Lib.hid (C12.out.below hb)
  have X13 := X12.up hb
  have Y13 := Y12.up hb
  have Z13 := Z12.up hb
  clear hb B12 C12 X12 Y12 Z12
  obtain ⟨xf0, xf1, xf2, xf3, xf4, xf5, xf6⟩ := id X13
  obtain ⟨yf0, yf1, yf2, yf3, yf4, yf5, yf6⟩ := id Y13
  obtain ⟨zf0, zf1, zf2, zf3, zf4⟩ := id Z13
  go_wp2_with fail
  clear xf0 xf1 xf2 xf3 xf4 xf5 xf6 yf0 yf1 yf2 yf3 yf4 yf5 yf6 zf0 zf1 zf2 zf3 zf4
  refine (exists_no p0 p1 (p2 + 1) _ HO.out).mono ?_
  rintro e w14 ⟨rfl, hb⟩
  have B14 := Lib.hid (B13.out.up hb)
  have C14 := Lib.hid (C13.out.below hb)
  have X14 := X13.up hb
  have Y14 := Y13.up hb
  have Z14 := Z13.up hb
  clear hb B13 C13 X13 Y13 Z13
  obtain ⟨xf0, xf1, xf2, xf3, xf4, xf5, xf6⟩ := id X14
  obtain ⟨yf0, yf1, yf2, yf3, yf4, yf5, yf6⟩ := id Y14
  obtain ⟨zf0, zf1, zf2, zf3, zf4⟩ := id Z14
  go_wp2_with fail
  go_ret
  exact ⟨rfl, B14.out.out⟩
set_option maxRecDepth 100000 in
set_option maxHeartbeats 2000000 in
theorem stLaw_n_nine (p0 p1 q0 q1 q2 x y : Int) (w : World) (x0 : 0 ≤ x) (x1 : x ≤ 255) (y0 : 0 ≤ y) (y1 : y ≤ 255) (hp : Pit p0 p1 9) (hq : Pit q0 q1 q2) (hz : ¬ Pit q0 0 q2) (hc : CW w) :
    Calls Tryd.prog 5 #[.agg #[.int .i64 p0, .int .i64 p1, .int .i64 9], .agg #[.int .i64 q0, .int .i64 q1, .int .i64 q2], .agg #[.int .u8 x, .int .u8 y]] w fun e w' => e = .returned (.bool true) ∧ Below w.heap.size w w' := by
  have HP := Lib.hid hp
  have HQ := Lib.hid hq
  have HC := Lib.hid (cl_mod x0)
  have HD := Lib.hid (cl_mod y0)
  have H0 := Lib.hid hc
  have x9 : x.tmod 9 = x % 9 := Int.tmod_eq_emod_of_nonneg x0
  have y9 : y.tmod 9 = y % 9 := Int.tmod_eq_emod_of_nonneg y0
  obtain ⟨c, hcc⟩ : ∃ c, 1 + x % 9 = c := ⟨_, rfl⟩
  obtain ⟨d, hdd⟩ : ∃ d, 1 + y % 9 = d := ⟨_, rfl⟩
  have wx : IntKind.i64.wrap x = x := (IntWalk.i64_left _).trans (IntWalk.wrap64_in _ ⟨by omega, by omega⟩)
  have wy : IntKind.i64.wrap y = y := (IntWalk.i64_left _).trans (IntWalk.wrap64_in _ ⟨by omega, by omega⟩)
  have vx : IntKind.i64.wrap (1 + (IntKind.i64.wrap x).tmod 9) = c := by rw [wx, x9, ← hcc]; exact (IntWalk.i64_left _).trans (IntWalk.wrap64_in _ ⟨by omega, by omega⟩)
  have vy : IntKind.i64.wrap (1 + (IntKind.i64.wrap y).tmod 9) = d := by rw [wy, y9, ← hdd]; exact (IntWalk.i64_left _).trans (IntWalk.wrap64_in _ ⟨by omega, by omega⟩)
  replace vx := Lib.hid vx
  replace vy := Lib.hid vy
  clear wx wy
  rw [hcc] at HC
  rw [hdd] at HD
  obtain ⟨DP, hDP⟩ : ∃ z, diaP p0 9 = z := ⟨_, rfl⟩
  obtain ⟨DQ, hDQ⟩ : ∃ z, diaP q0 q2 = z := ⟨_, rfl⟩
  have bp := dia_bd hp
  have bq := dia_bd hq
  rw [hDP] at bp
  rw [hDQ] at bq
  obtain ⟨bp0, bp1⟩ := bp
  obtain ⟨bq0, bq1⟩ := bq
  have hC := Lib.hid (mid_bd c)
  have hD := Lib.hid (mid_bd d)
  obtain ⟨mc0, mc1⟩ := hC.out
  obtain ⟨md0, md1⟩ := hD.out
  have KP := fun (e : Int) (he : Cl e) v hv => pos_ok e p0 p1 9 v he hp hv
  have KQ := fun (e : Int) (he : Cl e) v hv => pos_ok e q0 q1 q2 v he hq hv
  have KZ := fun (h0 : Pit q0 0 q2) v hv => pos_ok c q0 0 q2 v HC.out h0 hv
  have KO := fun (h0 : Pit p0 p1 (9 + 1)) v hv => pos_ok c p0 p1 (9 + 1) v HC.out h0 hv
  rw [show diaP p0 (9 + 1) = DP + 7 by rw [← hDP]; unfold diaP; omega] at KO
  simp only [hDP] at KP
  simp only [hDQ] at KQ KZ
  have p2a := hp.o0
  have p2b := hp.o1
  clear hDP hDQ
  have hdist := dist DP DQ (midI c) (midI d)
  have hoct : (DP + 7 - midI c == DP - midI c + 7) = true := by simp; omega
  replace KP := Lib.hid KP
  replace KQ := Lib.hid KQ
  replace KZ := Lib.hid KZ
  replace KO := Lib.hid KO
  have HZ := Lib.hid hz
  have B0 := Lib.hid ((((Bel.refl w).alloc (.cells #[.int .i64 p0, .int .i64 p1, .int .i64 9] 23)).alloc (.cells #[.int .i64 q0, .int .i64 q1, .int .i64 q2] 23)).alloc (.cells #[.int .u8 x, .int .u8 y] 38))
  have C0 := Lib.hid (((hc.below ((Below.refl _ _).alloc (Nat.le_refl _) (.cells #[.int .i64 p0, .int .i64 p1, .int .i64 9] 23))).below ((Below.refl _ _).alloc (Nat.le_refl _) (.cells #[.int .i64 q0, .int .i64 q1, .int .i64 q2] 23))).below ((Below.refl _ _).alloc (Nat.le_refl _) (.cells #[.int .u8 x, .int .u8 y] 38)))
  have X0 := ((Tri.new w (.int .i64 p0) (.int .i64 p1) (.int .i64 9) 23 (w.heap.size) (by simp)).alloc (.cells #[.int .i64 q0, .int .i64 q1, .int .i64 q2] 23)).alloc (.cells #[.int .u8 x, .int .u8 y] 38)
  have Y0 := (Tri.new (w.alloc (.cells #[.int .i64 p0, .int .i64 p1, .int .i64 9] 23)) (.int .i64 q0) (.int .i64 q1) (.int .i64 q2) 23 (w.heap.size + 1) (by simp)).alloc (.cells #[.int .u8 x, .int .u8 y] 38)
  have Z0 := Duo.new ((w.alloc (.cells #[.int .i64 p0, .int .i64 p1, .int .i64 9] 23)).alloc (.cells #[.int .i64 q0, .int .i64 q1, .int .i64 q2] 23)) (.int .u8 x) (.int .u8 y) 38 (w.heap.size + 1 + 1) (by simp)
  go_enter Tryd.func5, Tryd.ntmps5
  obtain ⟨xf0, xf1, xf2, xf3, xf4, xf5, xf6⟩ := id X0
  obtain ⟨yf0, yf1, yf2, yf3, yf4, yf5, yf6⟩ := id Y0
  obtain ⟨zf0, zf1, zf2, zf3, zf4⟩ := id Z0
  go_wp2_with fail
  clear xf0 xf1 xf2 xf3 xf4 xf5 xf6 yf0 yf1 yf2 yf3 yf4 yf5 yf6 zf0 zf1 zf2 zf3 zf4
  refine (known_ok _ C0.out).mono ?_
  rintro e w1 ⟨rfl, hb⟩
  have B1 := Lib.hid (B0.out.up hb)
  have C1 := Lib.hid (C0.out.below hb)
  have X1 := X0.up hb
  have Y1 := Y0.up hb
  have Z1 := Z0.up hb
  clear hb B0 C0 X0 Y0 Z0
  obtain ⟨xf0, xf1, xf2, xf3, xf4, xf5, xf6⟩ := id X1
  obtain ⟨yf0, yf1, yf2, yf3, yf4, yf5, yf6⟩ := id Y1
  obtain ⟨zf0, zf1, zf2, zf3, zf4⟩ := id Z1
  go_wp2_with fail
  clear xf0 xf1 xf2 xf3 xf4 xf5 xf6 yf0 yf1 yf2 yf3 yf4 yf5 yf6 zf0 zf1 zf2 zf3 zf4
  refine (exists_yes p0 p1 9 _ HP.out).mono ?_
  rintro e w2 ⟨rfl, hb⟩
  have B2 := Lib.hid (B1.out.up hb)
  have C2 := Lib.hid (C1.out.below hb)
  have X2 := X1.up hb
  have Y2 := Y1.up hb
  have Z2 := Z1.up hb
  clear hb B1 C1 X1 Y1 Z1
  obtain ⟨xf0, xf1, xf2, xf3, xf4, xf5, xf6⟩ := id X2
  obtain ⟨yf0, yf1, yf2, yf3, yf4, yf5, yf6⟩ := id Y2
  obtain ⟨zf0, zf1, zf2, zf3, zf4⟩ := id Z2
  go_wp2_with fail
  clear xf0 xf1 xf2 xf3 xf4 xf5 xf6 yf0 yf1 yf2 yf3 yf4 yf5 yf6 zf0 zf1 zf2 zf3 zf4
  refine (exists_yes q0 q1 q2 _ HQ.out).mono ?_
  rintro e w3 ⟨rfl, hb⟩
  have B3 := Lib.hid (B2.out.up hb)
  have C3 := Lib.hid (C2.out.below hb)
  have X3 := X2.up hb
  have Y3 := Y2.up hb
  have Z3 := Z2.up hb
  clear hb B2 C2 X2 Y2 Z2
  obtain ⟨xf0, xf1, xf2, xf3, xf4, xf5, xf6⟩ := id X3
  obtain ⟨yf0, yf1, yf2, yf3, yf4, yf5, yf6⟩ := id Y3
  obtain ⟨zf0, zf1, zf2, zf3, zf4⟩ := id Z3
  go_wp2_with fail
  go_cut [7, 8] (fun va vb wx => va = .int .i64 c ∧ vb = .int .i64 d ∧ Below w3.heap.size w3 wx)
  case first =>
    go_region_with (fail)
    all_goals (go_wp2_with fail; go_meet)
    all_goals exact ⟨by rw [vx.out], by rw [vy.out], Below.drew (Below.refl _ _)⟩
  case rest =>
  obtain ⟨rfl, rfl, hb⟩ := hcut
  clear hcc hdd x9 y9 vx vy
  clear xf0 xf1 xf2 xf3 xf4 xf5 xf6 yf0 yf1 yf2 yf3 yf4 yf5 yf6 zf0 zf1 zf2 zf3 zf4
  have B4 := Lib.hid (B3.out.up hb)
  have C4 := Lib.hid (C3.out.below hb)
  have X4 := X3.up hb
  have Y4 := Y3.up hb
  have Z4 := Z3.up hb
  clear hb B3 C3 X3 Y3 Z3
  obtain ⟨xf0, xf1, xf2, xf3, xf4, xf5, xf6⟩ := id X4
  obtain ⟨yf0, yf1, yf2, yf3, yf4, yf5, yf6⟩ := id Y4
  obtain ⟨zf0, zf1, zf2, zf3, zf4⟩ := id Z4
  go_wp2_with fail
  clear xf0 xf1 xf2 xf3 xf4 xf5 xf6 yf0 yf1 yf2 yf3 yf4 yf5 yf6 zf0 zf1 zf2 zf3 zf4
  refine (KP.out c HC.out _ C4.out).mono ?_
  rintro e w5 ⟨rfl, hb⟩
  have B5 := Lib.hid (B4.out.up hb)
  have C5 := Lib.hid (C4.out.below hb)
  have X5 := X4.up hb
  have Y5 := Y4.up hb
  have Z5 := Z4.up hb
  clear hb B4 C4 X4 Y4 Z4
  obtain ⟨xf0, xf1, xf2, xf3, xf4, xf5, xf6⟩ := id X5
  obtain ⟨yf0, yf1, yf2, yf3, yf4, yf5, yf6⟩ := id Y5
  obtain ⟨zf0, zf1, zf2, zf3, zf4⟩ := id Z5
  go_wp2_with fail
  clear xf0 xf1 xf2 xf3 xf4 xf5 xf6 yf0 yf1 yf2 yf3 yf4 yf5 yf6 zf0 zf1 zf2 zf3 zf4
  refine (KQ.out c HC.out _ C5.out).mono ?_
  rintro e w6 ⟨rfl, hb⟩
  have B6 := Lib.hid (B5.out.up hb)
  have C6 := Lib.hid (C5.out.below hb)
  have X6 := X5.up hb
  have Y6 := Y5.up hb
  have Z6 := Z5.up hb
  clear hb B5 C5 X5 Y5 Z5
  obtain ⟨xf0, xf1, xf2, xf3, xf4, xf5, xf6⟩ := id X6
  obtain ⟨yf0, yf1, yf2, yf3, yf4, yf5, yf6⟩ := id Y6
  obtain ⟨zf0, zf1, zf2, zf3, zf4⟩ := id Z6
  go_wp2_with fail
  clear xf0 xf1 xf2 xf3 xf4 xf5 xf6 yf0 yf1 yf2 yf3 yf4 yf5 yf6 zf0 zf1 zf2 zf3 zf4
  refine (KP.out d HD.out _ C6.out).mono ?_
  rintro e w7 ⟨rfl, hb⟩
  have B7 := Lib.hid (B6.out.up hb)
  have C7 := Lib.hid (C6.out.below hb)
  have X7 := X6.up hb
  have Y7 := Y6.up hb
  have Z7 := Z6.up hb
  clear hb B6 C6 X6 Y6 Z6
  obtain ⟨xf0, xf1, xf2, xf3, xf4, xf5, xf6⟩ := id X7
  obtain ⟨yf0, yf1, yf2, yf3, yf4, yf5, yf6⟩ := id Y7
  obtain ⟨zf0, zf1, zf2, zf3, zf4⟩ := id Z7
  go_wp2_with fail
  clear xf0 xf1 xf2 xf3 xf4 xf5 xf6 yf0 yf1 yf2 yf3 yf4 yf5 yf6 zf0 zf1 zf2 zf3 zf4
  refine (KQ.out d HD.out _ C7.out).mono ?_
  rintro e w8 ⟨rfl, hb⟩
  have B8 := Lib.hid (B7.out.up hb)
  have C8 := Lib.hid (C7.out.below hb)
  have X8 := X7.up hb
  have Y8 := Y7.up hb
  have Z8 := Z7.up hb
  clear hb B7 C7 X7 Y7 Z7
  obtain ⟨xf0, xf1, xf2, xf3, xf4, xf5, xf6⟩ := id X8
  obtain ⟨yf0, yf1, yf2, yf3, yf4, yf5, yf6⟩ := id Y8
  obtain ⟨zf0, zf1, zf2, zf3, zf4⟩ := id Z8
  have B9 := Lib.hid (B8.out.set (b := w.heap.size + 1) (by omega) 1 (.int .i64 0))
  have C9 := Lib.hid (H0.out.below B9.out.out)
  have X9 := X8.other (c := w.heap.size + 1) (i := 1) (u := .int .i64 0) (by omega)
  obtain ⟨xk0, xk1, xk2, xk3, xk4, xk5, xk6⟩ := id X9
  have Y9 := Y8.put1 (u := .int .i64 0)
  obtain ⟨yk0, yk1, yk2, yk3, yk4, yk5, yk6⟩ := id Y9
  have Z9 := Z8.other (c := w.heap.size + 1) (i := 1) (u := .int .i64 0) (by omega)
  obtain ⟨zk0, zk1, zk2, zk3, zk4⟩ := id Z9
  go_wp2_with fail
  clear B8 C8 X8 Y8 Z8
  clear xf0 xf1 xf2 xf3 xf4 xf5 xf6 yf0 yf1 yf2 yf3 yf4 yf5 yf6 zf0 zf1 zf2 zf3 zf4 xk0 xk1 xk2 xk3 xk4 xk5 xk6 yk0 yk1 yk2 yk3 yk4 yk5 yk6 zk0 zk1 zk2 zk3 zk4
  refine (pos_bad2 c q0 0 q2 _ HC.out HZ.out C9.out).mono ?_
  rintro e w10 ⟨rfl, hb⟩
  have B10 := Lib.hid (B9.out.up hb)
  have C10 := Lib.hid (C9.out.below hb)
  have X10 := X9.up hb
  have Y10 := Y9.up hb
  have Z10 := Z9.up hb
  clear hb B9 C9 X9 Y9 Z9
  obtain ⟨xf0, xf1, xf2, xf3, xf4, xf5, xf6⟩ := id X10
  obtain ⟨yf0, yf1, yf2, yf3, yf4, yf5, yf6⟩ := id Y10
  obtain ⟨zf0, zf1, zf2, zf3, zf4⟩ := id Z10
  go_wp2_with fail
  clear xf0 xf1 xf2 xf3 xf4 xf5 xf6 yf0 yf1 yf2 yf3 yf4 yf5 yf6 zf0 zf1 zf2 zf3 zf4
  refine (exists_no q0 0 q2 _ HZ.out).mono ?_
  rintro e w11 ⟨rfl, hb⟩
  have B11 := Lib.hid (B10.out.up hb)
  have C11 := Lib.hid (C10.out.below hb)
  have X11 := X10.up hb
  have Y11 := Y10.up hb
  have Z11 := Z10.up hb
  clear hb B10 C10 X10 Y10 Z10
  obtain ⟨xf0, xf1, xf2, xf3, xf4, xf5, xf6⟩ := id X11
  obtain ⟨yf0, yf1, yf2, yf3, yf4, yf5, yf6⟩ := id Y11
  obtain ⟨zf0, zf1, zf2, zf3, zf4⟩ := id Z11
  go_wp2_with fail
  go_ret
  exact ⟨rfl, B11.out.out⟩
set_option maxRecDepth 100000 in
set_option maxHeartbeats 2000000 in
theorem stLaw_n_yes (p0 p1 p2 q0 q1 q2 x y : Int) (w : World) (x0 : 0 ≤ x) (x1 : x ≤ 255) (y0 : 0 ≤ y) (y1 : y ≤ 255) (hp : Pit p0 p1 p2) (hq : Pit q0 q1 q2) (hz : ¬ Pit q0 0 q2) (hn : p2 ≠ 9) (ho : Pit p0 p1 (p2 + 1)) (hc : CW w) :
    Calls Tryd.prog 5 #[.agg #[.int .i64 p0, .int .i64 p1, .int .i64 p2], .agg #[.int .i64 q0, .int .i64 q1, .int .i64 q2], .agg #[.int .u8 x, .int .u8 y]] w fun e w' => e = .returned (.bool true) ∧ Below w.heap.size w w' := by
  have HP := Lib.hid hp
  have HQ := Lib.hid hq
  have HC := Lib.hid (cl_mod x0)
  have HD := Lib.hid (cl_mod y0)
  have H0 := Lib.hid hc
  have x9 : x.tmod 9 = x % 9 := Int.tmod_eq_emod_of_nonneg x0
  have y9 : y.tmod 9 = y % 9 := Int.tmod_eq_emod_of_nonneg y0
  obtain ⟨c, hcc⟩ : ∃ c, 1 + x % 9 = c := ⟨_, rfl⟩
  obtain ⟨d, hdd⟩ : ∃ d, 1 + y % 9 = d := ⟨_, rfl⟩
  have wx : IntKind.i64.wrap x = x := (IntWalk.i64_left _).trans (IntWalk.wrap64_in _ ⟨by omega, by omega⟩)
  have wy : IntKind.i64.wrap y = y := (IntWalk.i64_left _).trans (IntWalk.wrap64_in _ ⟨by omega, by omega⟩)
  have vx : IntKind.i64.wrap (1 + (IntKind.i64.wrap x).tmod 9) = c := by rw [wx, x9, ← hcc]; exact (IntWalk.i64_left _).trans (IntWalk.wrap64_in _ ⟨by omega, by omega⟩)
  have vy : IntKind.i64.wrap (1 + (IntKind.i64.wrap y).tmod 9) = d := by rw [wy, y9, ← hdd]; exact (IntWalk.i64_left _).trans (IntWalk.wrap64_in _ ⟨by omega, by omega⟩)
  replace vx := Lib.hid vx
  replace vy := Lib.hid vy
  clear wx wy
  rw [hcc] at HC
  rw [hdd] at HD
  obtain ⟨DP, hDP⟩ : ∃ z, diaP p0 p2 = z := ⟨_, rfl⟩
  obtain ⟨DQ, hDQ⟩ : ∃ z, diaP q0 q2 = z := ⟨_, rfl⟩
  have bp := dia_bd hp
  have bq := dia_bd hq
  rw [hDP] at bp
  rw [hDQ] at bq
  obtain ⟨bp0, bp1⟩ := bp
  obtain ⟨bq0, bq1⟩ := bq
  have hC := Lib.hid (mid_bd c)
  have hD := Lib.hid (mid_bd d)
  obtain ⟨mc0, mc1⟩ := hC.out
  obtain ⟨md0, md1⟩ := hD.out
  have KP := fun (e : Int) (he : Cl e) v hv => pos_ok e p0 p1 p2 v he hp hv
  have KQ := fun (e : Int) (he : Cl e) v hv => pos_ok e q0 q1 q2 v he hq hv
  have KZ := fun (h0 : Pit q0 0 q2) v hv => pos_ok c q0 0 q2 v HC.out h0 hv
  have KO := fun (h0 : Pit p0 p1 (p2 + 1)) v hv => pos_ok c p0 p1 (p2 + 1) v HC.out h0 hv
  rw [show diaP p0 (p2 + 1) = DP + 7 by rw [← hDP]; unfold diaP; omega] at KO
  simp only [hDP] at KP
  simp only [hDQ] at KQ KZ
  have p2a := hp.o0
  have p2b := hp.o1
  clear hDP hDQ
  have hdist := dist DP DQ (midI c) (midI d)
  have hoct : (DP + 7 - midI c == DP - midI c + 7) = true := by simp; omega
  replace KP := Lib.hid KP
  replace KQ := Lib.hid KQ
  replace KZ := Lib.hid KZ
  replace KO := Lib.hid KO
  have HZ := Lib.hid hz
  have HO := Lib.hid ho
  have B0 := Lib.hid ((((Bel.refl w).alloc (.cells #[.int .i64 p0, .int .i64 p1, .int .i64 p2] 23)).alloc (.cells #[.int .i64 q0, .int .i64 q1, .int .i64 q2] 23)).alloc (.cells #[.int .u8 x, .int .u8 y] 38))
  have C0 := Lib.hid (((hc.below ((Below.refl _ _).alloc (Nat.le_refl _) (.cells #[.int .i64 p0, .int .i64 p1, .int .i64 p2] 23))).below ((Below.refl _ _).alloc (Nat.le_refl _) (.cells #[.int .i64 q0, .int .i64 q1, .int .i64 q2] 23))).below ((Below.refl _ _).alloc (Nat.le_refl _) (.cells #[.int .u8 x, .int .u8 y] 38)))
  have X0 := ((Tri.new w (.int .i64 p0) (.int .i64 p1) (.int .i64 p2) 23 (w.heap.size) (by simp)).alloc (.cells #[.int .i64 q0, .int .i64 q1, .int .i64 q2] 23)).alloc (.cells #[.int .u8 x, .int .u8 y] 38)
  have Y0 := (Tri.new (w.alloc (.cells #[.int .i64 p0, .int .i64 p1, .int .i64 p2] 23)) (.int .i64 q0) (.int .i64 q1) (.int .i64 q2) 23 (w.heap.size + 1) (by simp)).alloc (.cells #[.int .u8 x, .int .u8 y] 38)
  have Z0 := Duo.new ((w.alloc (.cells #[.int .i64 p0, .int .i64 p1, .int .i64 p2] 23)).alloc (.cells #[.int .i64 q0, .int .i64 q1, .int .i64 q2] 23)) (.int .u8 x) (.int .u8 y) 38 (w.heap.size + 1 + 1) (by simp)
  go_enter Tryd.func5, Tryd.ntmps5
  obtain ⟨xf0, xf1, xf2, xf3, xf4, xf5, xf6⟩ := id X0
  obtain ⟨yf0, yf1, yf2, yf3, yf4, yf5, yf6⟩ := id Y0
  obtain ⟨zf0, zf1, zf2, zf3, zf4⟩ := id Z0
  go_wp2_with fail
  clear xf0 xf1 xf2 xf3 xf4 xf5 xf6 yf0 yf1 yf2 yf3 yf4 yf5 yf6 zf0 zf1 zf2 zf3 zf4
  refine (known_ok _ C0.out).mono ?_
  rintro e w1 ⟨rfl, hb⟩
  have B1 := Lib.hid (B0.out.up hb)
  have C1 := Lib.hid (C0.out.below hb)
  have X1 := X0.up hb
  have Y1 := Y0.up hb
  have Z1 := Z0.up hb
  clear hb B0 C0 X0 Y0 Z0
  obtain ⟨xf0, xf1, xf2, xf3, xf4, xf5, xf6⟩ := id X1
  obtain ⟨yf0, yf1, yf2, yf3, yf4, yf5, yf6⟩ := id Y1
  obtain ⟨zf0, zf1, zf2, zf3, zf4⟩ := id Z1
  go_wp2_with fail
  clear xf0 xf1 xf2 xf3 xf4 xf5 xf6 yf0 yf1 yf2 yf3 yf4 yf5 yf6 zf0 zf1 zf2 zf3 zf4
  refine (exists_yes p0 p1 p2 _ HP.out).mono ?_
  rintro e w2 ⟨rfl, hb⟩
  have B2 := Lib.hid (B1.out.up hb)
  have C2 := Lib.hid (C1.out.below hb)
  have X2 := X1.up hb
  have Y2 := Y1.up hb
  have Z2 := Z1.up hb
  clear hb B1 C1 X1 Y1 Z1
  obtain ⟨xf0, xf1, xf2, xf3, xf4, xf5, xf6⟩ := id X2
  obtain ⟨yf0, yf1, yf2, yf3, yf4, yf5, yf6⟩ := id Y2
  obtain ⟨zf0, zf1, zf2, zf3, zf4⟩ := id Z2
  go_wp2_with fail
  clear xf0 xf1 xf2 xf3 xf4 xf5 xf6 yf0 yf1 yf2 yf3 yf4 yf5 yf6 zf0 zf1 zf2 zf3 zf4
  refine (exists_yes q0 q1 q2 _ HQ.out).mono ?_
  rintro e w3 ⟨rfl, hb⟩
  have B3 := Lib.hid (B2.out.up hb)
  have C3 := Lib.hid (C2.out.below hb)
  have X3 := X2.up hb
  have Y3 := Y2.up hb
  have Z3 := Z2.up hb
  clear hb B2 C2 X2 Y2 Z2
  obtain ⟨xf0, xf1, xf2, xf3, xf4, xf5, xf6⟩ := id X3
  obtain ⟨yf0, yf1, yf2, yf3, yf4, yf5, yf6⟩ := id Y3
  obtain ⟨zf0, zf1, zf2, zf3, zf4⟩ := id Z3
  go_wp2_with fail
  go_cut [7, 8] (fun va vb wx => va = .int .i64 c ∧ vb = .int .i64 d ∧ Below w3.heap.size w3 wx)
  case first =>
    go_region_with (fail)
    all_goals (go_wp2_with fail; go_meet)
    all_goals exact ⟨by rw [vx.out], by rw [vy.out], Below.drew (Below.refl _ _)⟩
  case rest =>
  obtain ⟨rfl, rfl, hb⟩ := hcut
  clear hcc hdd x9 y9 vx vy
  clear xf0 xf1 xf2 xf3 xf4 xf5 xf6 yf0 yf1 yf2 yf3 yf4 yf5 yf6 zf0 zf1 zf2 zf3 zf4
  have B4 := Lib.hid (B3.out.up hb)
  have C4 := Lib.hid (C3.out.below hb)
  have X4 := X3.up hb
  have Y4 := Y3.up hb
  have Z4 := Z3.up hb
  clear hb B3 C3 X3 Y3 Z3
  obtain ⟨xf0, xf1, xf2, xf3, xf4, xf5, xf6⟩ := id X4
  obtain ⟨yf0, yf1, yf2, yf3, yf4, yf5, yf6⟩ := id Y4
  obtain ⟨zf0, zf1, zf2, zf3, zf4⟩ := id Z4
  go_wp2_with fail
  clear xf0 xf1 xf2 xf3 xf4 xf5 xf6 yf0 yf1 yf2 yf3 yf4 yf5 yf6 zf0 zf1 zf2 zf3 zf4
  refine (KP.out c HC.out _ C4.out).mono ?_
  rintro e w5 ⟨rfl, hb⟩
  have B5 := Lib.hid (B4.out.up hb)
  have C5 := Lib.hid (C4.out.below hb)
  have X5 := X4.up hb
  have Y5 := Y4.up hb
  have Z5 := Z4.up hb
  clear hb B4 C4 X4 Y4 Z4
  obtain ⟨xf0, xf1, xf2, xf3, xf4, xf5, xf6⟩ := id X5
  obtain ⟨yf0, yf1, yf2, yf3, yf4, yf5, yf6⟩ := id Y5
  obtain ⟨zf0, zf1, zf2, zf3, zf4⟩ := id Z5
  go_wp2_with fail
  clear xf0 xf1 xf2 xf3 xf4 xf5 xf6 yf0 yf1 yf2 yf3 yf4 yf5 yf6 zf0 zf1 zf2 zf3 zf4
  refine (KQ.out c HC.out _ C5.out).mono ?_
  rintro e w6 ⟨rfl, hb⟩
  have B6 := Lib.hid (B5.out.up hb)
  have C6 := Lib.hid (C5.out.below hb)
  have X6 := X5.up hb
  have Y6 := Y5.up hb
  have Z6 := Z5.up hb
  clear hb B5 C5 X5 Y5 Z5
  obtain ⟨xf0, xf1, xf2, xf3, xf4, xf5, xf6⟩ := id X6
  obtain ⟨yf0, yf1, yf2, yf3, yf4, yf5, yf6⟩ := id Y6
  obtain ⟨zf0, zf1, zf2, zf3, zf4⟩ := id Z6
  go_wp2_with fail
  clear xf0 xf1 xf2 xf3 xf4 xf5 xf6 yf0 yf1 yf2 yf3 yf4 yf5 yf6 zf0 zf1 zf2 zf3 zf4
  refine (KP.out d HD.out _ C6.out).mono ?_
  rintro e w7 ⟨rfl, hb⟩
  have B7 := Lib.hid (B6.out.up hb)
  have C7 := Lib.hid (C6.out.below hb)
  have X7 := X6.up hb
  have Y7 := Y6.up hb
  have Z7 := Z6.up hb
  clear hb B6 C6 X6 Y6 Z6
  obtain ⟨xf0, xf1, xf2, xf3, xf4, xf5, xf6⟩ := id X7
  obtain ⟨yf0, yf1, yf2, yf3, yf4, yf5, yf6⟩ := id Y7
  obtain ⟨zf0, zf1, zf2, zf3, zf4⟩ := id Z7
  go_wp2_with fail
  clear xf0 xf1 xf2 xf3 xf4 xf5 xf6 yf0 yf1 yf2 yf3 yf4 yf5 yf6 zf0 zf1 zf2 zf3 zf4
  refine (KQ.out d HD.out _ C7.out).mono ?_
  rintro e w8 ⟨rfl, hb⟩
  have B8 := Lib.hid (B7.out.up hb)
  have C8 := Lib.hid (C7.out.below hb)
  have X8 := X7.up hb
  have Y8 := Y7.up hb
  have Z8 := Z7.up hb
  clear hb B7 C7 X7 Y7 Z7
  obtain ⟨xf0, xf1, xf2, xf3, xf4, xf5, xf6⟩ := id X8
  obtain ⟨yf0, yf1, yf2, yf3, yf4, yf5, yf6⟩ := id Y8
  obtain ⟨zf0, zf1, zf2, zf3, zf4⟩ := id Z8
  have B9 := Lib.hid (B8.out.set (b := w.heap.size + 1) (by omega) 1 (.int .i64 0))
  have C9 := Lib.hid (H0.out.below B9.out.out)
  have X9 := X8.other (c := w.heap.size + 1) (i := 1) (u := .int .i64 0) (by omega)
  obtain ⟨xk0, xk1, xk2, xk3, xk4, xk5, xk6⟩ := id X9
  have Y9 := Y8.put1 (u := .int .i64 0)
  obtain ⟨yk0, yk1, yk2, yk3, yk4, yk5, yk6⟩ := id Y9
  have Z9 := Z8.other (c := w.heap.size + 1) (i := 1) (u := .int .i64 0) (by omega)
  obtain ⟨zk0, zk1, zk2, zk3, zk4⟩ := id Z9
  go_wp2_with fail
  clear B8 C8 X8 Y8 Z8
  clear xf0 xf1 xf2 xf3 xf4 xf5 xf6 yf0 yf1 yf2 yf3 yf4 yf5 yf6 zf0 zf1 zf2 zf3 zf4 xk0 xk1 xk2 xk3 xk4 xk5 xk6 yk0 yk1 yk2 yk3 yk4 yk5 yk6 zk0 zk1 zk2 zk3 zk4
  refine (pos_bad2 c q0 0 q2 _ HC.out HZ.out C9.out).mono ?_
  rintro e w10 ⟨rfl, hb⟩
  have B10 := Lib.hid (B9.out.up hb)
  have C10 := Lib.hid (C9.out.below hb)
  have X10 := X9.up hb
  have Y10 := Y9.up hb
  have Z10 := Z9.up hb
  clear hb B9 C9 X9 Y9 Z9
  obtain ⟨xf0, xf1, xf2, xf3, xf4, xf5, xf6⟩ := id X10
  obtain ⟨yf0, yf1, yf2, yf3, yf4, yf5, yf6⟩ := id Y10
  obtain ⟨zf0, zf1, zf2, zf3, zf4⟩ := id Z10
  go_wp2_with fail
  clear xf0 xf1 xf2 xf3 xf4 xf5 xf6 yf0 yf1 yf2 yf3 yf4 yf5 yf6 zf0 zf1 zf2 zf3 zf4
  refine (exists_no q0 0 q2 _ HZ.out).mono ?_
  rintro e w11 ⟨rfl, hb⟩
  have B11 := Lib.hid (B10.out.up hb)
  have C11 := Lib.hid (C10.out.below hb)
  have X11 := X10.up hb
  have Y11 := Y10.up hb
  have Z11 := Z10.up hb
  clear hb B10 C10 X10 Y10 Z10
  obtain ⟨xf0, xf1, xf2, xf3, xf4, xf5, xf6⟩ := id X11
  obtain ⟨yf0, yf1, yf2, yf3, yf4, yf5, yf6⟩ := id Y11
  obtain ⟨zf0, zf1, zf2, zf3, zf4⟩ := id Z11
  have B12 := Lib.hid (B11.out.set (b := w.heap.size) (Nat.le_refl _) 2 (.int .i64 (p2 + 1)))
  have C12 := Lib.hid (H0.out.below B12.out.out)
  have X12 := X11.put2 (u := .int .i64 (p2 + 1))
  obtain ⟨xk0, xk1, xk2, xk3, xk4, xk5, xk6⟩ := id X12
  have Y12 := Y11.other (c := w.heap.size) (i := 2) (u := .int .i64 (p2 + 1)) (by omega)
  obtain ⟨yk0, yk1, yk2, yk3, yk4, yk5, yk6⟩ := id Y12
  have Z12 := Z11.other (c := w.heap.size) (i := 2) (u := .int .i64 (p2 + 1)) (by omega)
  obtain ⟨zk0, zk1, zk2, zk3, zk4⟩ := id Z12
  go_wp2_with fail
  clear B11 C11 X11 Y11 Z11
  clear xf0 xf1 xf2 xf3 xf4 xf5 xf6 yf0 yf1 yf2 yf3 yf4 yf5 yf6 zf0 zf1 zf2 zf3 zf4 xk0 xk1 xk2 xk3 xk4 xk5 xk6 yk0 yk1 yk2 yk3 yk4 yk5 yk6 zk0 zk1 zk2 zk3 zk4
  refine (KO.out HO.out _ C12.out).mono ?_
  rintro e w13 ⟨rfl, hb⟩
  have B13 := Lib.hid (B12.out.up hb)
  have C13 := Lib.hid (C12.out.below hb)
  have X13 := X12.up hb
  have Y13 := Y12.up hb
  have Z13 := Z12.up hb
  clear hb B12 C12 X12 Y12 Z12
  obtain ⟨xf0, xf1, xf2, xf3, xf4, xf5, xf6⟩ := id X13
  obtain ⟨yf0, yf1, yf2, yf3, yf4, yf5, yf6⟩ := id Y13
  obtain ⟨zf0, zf1, zf2, zf3, zf4⟩ := id Z13
  go_wp2_with fail
  clear xf0 xf1 xf2 xf3 xf4 xf5 xf6 yf0 yf1 yf2 yf3 yf4 yf5 yf6 zf0 zf1 zf2 zf3 zf4
  refine (exists_yes p0 p1 (p2 + 1) _ HO.out).mono ?_
  rintro e w14 ⟨rfl, hb⟩
  have B14 := Lib.hid (B13.out.up hb)
  have C14 := Lib.hid (C13.out.below hb)
  have X14 := X13.up hb
  have Y14 := Y13.up hb
  have Z14 := Z13.up hb
  clear hb B13 C13 X13 Y13 Z13
  obtain ⟨xf0, xf1, xf2, xf3, xf4, xf5, xf6⟩ := id X14
  obtain ⟨yf0, yf1, yf2, yf3, yf4, yf5, yf6⟩ := id Y14
  obtain ⟨zf0, zf1, zf2, zf3, zf4⟩ := id Z14
  go_wp2_with fail
  go_ret
  exact ⟨rfl, B14.out.out⟩
set_option maxRecDepth 100000 in
set_option maxHeartbeats 2000000 in
theorem stLaw_n_no (p0 p1 p2 q0 q1 q2 x y : Int) (w : World) (x0 : 0 ≤ x) (x1 : x ≤ 255) (y0 : 0 ≤ y) (y1 : y ≤ 255) (hp : Pit p0 p1 p2) (hq : Pit q0 q1 q2) (hz : ¬ Pit q0 0 q2) (hn : p2 ≠ 9) (ho : ¬ Pit p0 p1 (p2 + 1)) (hc : CW w) :
    Calls Tryd.prog 5 #[.agg #[.int .i64 p0, .int .i64 p1, .int .i64 p2], .agg #[.int .i64 q0, .int .i64 q1, .int .i64 q2], .agg #[.int .u8 x, .int .u8 y]] w fun e w' => e = .returned (.bool true) ∧ Below w.heap.size w w' := by
  have HP := Lib.hid hp
  have HQ := Lib.hid hq
  have HC := Lib.hid (cl_mod x0)
  have HD := Lib.hid (cl_mod y0)
  have H0 := Lib.hid hc
  have x9 : x.tmod 9 = x % 9 := Int.tmod_eq_emod_of_nonneg x0
  have y9 : y.tmod 9 = y % 9 := Int.tmod_eq_emod_of_nonneg y0
  obtain ⟨c, hcc⟩ : ∃ c, 1 + x % 9 = c := ⟨_, rfl⟩
  obtain ⟨d, hdd⟩ : ∃ d, 1 + y % 9 = d := ⟨_, rfl⟩
  have wx : IntKind.i64.wrap x = x := (IntWalk.i64_left _).trans (IntWalk.wrap64_in _ ⟨by omega, by omega⟩)
  have wy : IntKind.i64.wrap y = y := (IntWalk.i64_left _).trans (IntWalk.wrap64_in _ ⟨by omega, by omega⟩)
  have vx : IntKind.i64.wrap (1 + (IntKind.i64.wrap x).tmod 9) = c := by rw [wx, x9, ← hcc]; exact (IntWalk.i64_left _).trans (IntWalk.wrap64_in _ ⟨by omega, by omega⟩)
  have vy : IntKind.i64.wrap (1 + (IntKind.i64.wrap y).tmod 9) = d := by rw [wy, y9, ← hdd]; exact (IntWalk.i64_left _).trans (IntWalk.wrap64_in _ ⟨by omega, by omega⟩)
  replace vx := Lib.hid vx
  replace vy := Lib.hid vy
  clear wx wy
  rw [hcc] at HC
  rw [hdd] at HD
  obtain ⟨DP, hDP⟩ : ∃ z, diaP p0 p2 = z := ⟨_, rfl⟩
  obtain ⟨DQ, hDQ⟩ : ∃ z, diaP q0 q2 = z := ⟨_, rfl⟩
  have bp := dia_bd hp
  have bq := dia_bd hq
  rw [hDP] at bp
  rw [hDQ] at bq
  obtain ⟨bp0, bp1⟩ := bp
  obtain ⟨bq0, bq1⟩ := bq
  have hC := Lib.hid (mid_bd c)
  have hD := Lib.hid (mid_bd d)
  obtain ⟨mc0, mc1⟩ := hC.out
  obtain ⟨md0, md1⟩ := hD.out
  have KP := fun (e : Int) (he : Cl e) v hv => pos_ok e p0 p1 p2 v he hp hv
  have KQ := fun (e : Int) (he : Cl e) v hv => pos_ok e q0 q1 q2 v he hq hv
  have KZ := fun (h0 : Pit q0 0 q2) v hv => pos_ok c q0 0 q2 v HC.out h0 hv
  have KO := fun (h0 : Pit p0 p1 (p2 + 1)) v hv => pos_ok c p0 p1 (p2 + 1) v HC.out h0 hv
  rw [show diaP p0 (p2 + 1) = DP + 7 by rw [← hDP]; unfold diaP; omega] at KO
  simp only [hDP] at KP
  simp only [hDQ] at KQ KZ
  have p2a := hp.o0
  have p2b := hp.o1
  clear hDP hDQ
  have hdist := dist DP DQ (midI c) (midI d)
  have hoct : (DP + 7 - midI c == DP - midI c + 7) = true := by simp; omega
  replace KP := Lib.hid KP
  replace KQ := Lib.hid KQ
  replace KZ := Lib.hid KZ
  replace KO := Lib.hid KO
  have HZ := Lib.hid hz
  have HO := Lib.hid ho
  have B0 := Lib.hid ((((Bel.refl w).alloc (.cells #[.int .i64 p0, .int .i64 p1, .int .i64 p2] 23)).alloc (.cells #[.int .i64 q0, .int .i64 q1, .int .i64 q2] 23)).alloc (.cells #[.int .u8 x, .int .u8 y] 38))
  have C0 := Lib.hid (((hc.below ((Below.refl _ _).alloc (Nat.le_refl _) (.cells #[.int .i64 p0, .int .i64 p1, .int .i64 p2] 23))).below ((Below.refl _ _).alloc (Nat.le_refl _) (.cells #[.int .i64 q0, .int .i64 q1, .int .i64 q2] 23))).below ((Below.refl _ _).alloc (Nat.le_refl _) (.cells #[.int .u8 x, .int .u8 y] 38)))
  have X0 := ((Tri.new w (.int .i64 p0) (.int .i64 p1) (.int .i64 p2) 23 (w.heap.size) (by simp)).alloc (.cells #[.int .i64 q0, .int .i64 q1, .int .i64 q2] 23)).alloc (.cells #[.int .u8 x, .int .u8 y] 38)
  have Y0 := (Tri.new (w.alloc (.cells #[.int .i64 p0, .int .i64 p1, .int .i64 p2] 23)) (.int .i64 q0) (.int .i64 q1) (.int .i64 q2) 23 (w.heap.size + 1) (by simp)).alloc (.cells #[.int .u8 x, .int .u8 y] 38)
  have Z0 := Duo.new ((w.alloc (.cells #[.int .i64 p0, .int .i64 p1, .int .i64 p2] 23)).alloc (.cells #[.int .i64 q0, .int .i64 q1, .int .i64 q2] 23)) (.int .u8 x) (.int .u8 y) 38 (w.heap.size + 1 + 1) (by simp)
  go_enter Tryd.func5, Tryd.ntmps5
  obtain ⟨xf0, xf1, xf2, xf3, xf4, xf5, xf6⟩ := id X0
  obtain ⟨yf0, yf1, yf2, yf3, yf4, yf5, yf6⟩ := id Y0
  obtain ⟨zf0, zf1, zf2, zf3, zf4⟩ := id Z0
  go_wp2_with fail
  clear xf0 xf1 xf2 xf3 xf4 xf5 xf6 yf0 yf1 yf2 yf3 yf4 yf5 yf6 zf0 zf1 zf2 zf3 zf4
  refine (known_ok _ C0.out).mono ?_
  rintro e w1 ⟨rfl, hb⟩
  have B1 := Lib.hid (B0.out.up hb)
  have C1 := Lib.hid (C0.out.below hb)
  have X1 := X0.up hb
  have Y1 := Y0.up hb
  have Z1 := Z0.up hb
  clear hb B0 C0 X0 Y0 Z0
  obtain ⟨xf0, xf1, xf2, xf3, xf4, xf5, xf6⟩ := id X1
  obtain ⟨yf0, yf1, yf2, yf3, yf4, yf5, yf6⟩ := id Y1
  obtain ⟨zf0, zf1, zf2, zf3, zf4⟩ := id Z1
  go_wp2_with fail
  clear xf0 xf1 xf2 xf3 xf4 xf5 xf6 yf0 yf1 yf2 yf3 yf4 yf5 yf6 zf0 zf1 zf2 zf3 zf4
  refine (exists_yes p0 p1 p2 _ HP.out).mono ?_
  rintro e w2 ⟨rfl, hb⟩
  have B2 := Lib.hid (B1.out.up hb)
  have C2 := Lib.hid (C1.out.below hb)
  have X2 := X1.up hb
  have Y2 := Y1.up hb
  have Z2 := Z1.up hb
  clear hb B1 C1 X1 Y1 Z1
  obtain ⟨xf0, xf1, xf2, xf3, xf4, xf5, xf6⟩ := id X2
  obtain ⟨yf0, yf1, yf2, yf3, yf4, yf5, yf6⟩ := id Y2
  obtain ⟨zf0, zf1, zf2, zf3, zf4⟩ := id Z2
  go_wp2_with fail
  clear xf0 xf1 xf2 xf3 xf4 xf5 xf6 yf0 yf1 yf2 yf3 yf4 yf5 yf6 zf0 zf1 zf2 zf3 zf4
  refine (exists_yes q0 q1 q2 _ HQ.out).mono ?_
  rintro e w3 ⟨rfl, hb⟩
  have B3 := Lib.hid (B2.out.up hb)
  have C3 := Lib.hid (C2.out.below hb)
  have X3 := X2.up hb
  have Y3 := Y2.up hb
  have Z3 := Z2.up hb
  clear hb B2 C2 X2 Y2 Z2
  obtain ⟨xf0, xf1, xf2, xf3, xf4, xf5, xf6⟩ := id X3
  obtain ⟨yf0, yf1, yf2, yf3, yf4, yf5, yf6⟩ := id Y3
  obtain ⟨zf0, zf1, zf2, zf3, zf4⟩ := id Z3
  go_wp2_with fail
  go_cut [7, 8] (fun va vb wx => va = .int .i64 c ∧ vb = .int .i64 d ∧ Below w3.heap.size w3 wx)
  case first =>
    go_region_with (fail)
    all_goals (go_wp2_with fail; go_meet)
    all_goals exact ⟨by rw [vx.out], by rw [vy.out], Below.drew (Below.refl _ _)⟩
  case rest =>
  obtain ⟨rfl, rfl, hb⟩ := hcut
  clear hcc hdd x9 y9 vx vy
  clear xf0 xf1 xf2 xf3 xf4 xf5 xf6 yf0 yf1 yf2 yf3 yf4 yf5 yf6 zf0 zf1 zf2 zf3 zf4
  have B4 := Lib.hid (B3.out.up hb)
  have C4 := Lib.hid (C3.out.below hb)
  have X4 := X3.up hb
  have Y4 := Y3.up hb
  have Z4 := Z3.up hb
  clear hb B3 C3 X3 Y3 Z3
  obtain ⟨xf0, xf1, xf2, xf3, xf4, xf5, xf6⟩ := id X4
  obtain ⟨yf0, yf1, yf2, yf3, yf4, yf5, yf6⟩ := id Y4
  obtain ⟨zf0, zf1, zf2, zf3, zf4⟩ := id Z4
  go_wp2_with fail
  clear xf0 xf1 xf2 xf3 xf4 xf5 xf6 yf0 yf1 yf2 yf3 yf4 yf5 yf6 zf0 zf1 zf2 zf3 zf4
  refine (KP.out c HC.out _ C4.out).mono ?_
  rintro e w5 ⟨rfl, hb⟩
  have B5 := Lib.hid (B4.out.up hb)
  have C5 := Lib.hid (C4.out.below hb)
  have X5 := X4.up hb
  have Y5 := Y4.up hb
  have Z5 := Z4.up hb
  clear hb B4 C4 X4 Y4 Z4
  obtain ⟨xf0, xf1, xf2, xf3, xf4, xf5, xf6⟩ := id X5
  obtain ⟨yf0, yf1, yf2, yf3, yf4, yf5, yf6⟩ := id Y5
  obtain ⟨zf0, zf1, zf2, zf3, zf4⟩ := id Z5
  go_wp2_with fail
  clear xf0 xf1 xf2 xf3 xf4 xf5 xf6 yf0 yf1 yf2 yf3 yf4 yf5 yf6 zf0 zf1 zf2 zf3 zf4
  refine (KQ.out c HC.out _ C5.out).mono ?_
  rintro e w6 ⟨rfl, hb⟩
  have B6 := Lib.hid (B5.out.up hb)
  have C6 := Lib.hid (C5.out.below hb)
  have X6 := X5.up hb
  have Y6 := Y5.up hb
  have Z6 := Z5.up hb
  clear hb B5 C5 X5 Y5 Z5
  obtain ⟨xf0, xf1, xf2, xf3, xf4, xf5, xf6⟩ := id X6
  obtain ⟨yf0, yf1, yf2, yf3, yf4, yf5, yf6⟩ := id Y6
  obtain ⟨zf0, zf1, zf2, zf3, zf4⟩ := id Z6
  go_wp2_with fail
  clear xf0 xf1 xf2 xf3 xf4 xf5 xf6 yf0 yf1 yf2 yf3 yf4 yf5 yf6 zf0 zf1 zf2 zf3 zf4
  refine (KP.out d HD.out _ C6.out).mono ?_
  rintro e w7 ⟨rfl, hb⟩
  have B7 := Lib.hid (B6.out.up hb)
  have C7 := Lib.hid (C6.out.below hb)
  have X7 := X6.up hb
  have Y7 := Y6.up hb
  have Z7 := Z6.up hb
  clear hb B6 C6 X6 Y6 Z6
  obtain ⟨xf0, xf1, xf2, xf3, xf4, xf5, xf6⟩ := id X7
  obtain ⟨yf0, yf1, yf2, yf3, yf4, yf5, yf6⟩ := id Y7
  obtain ⟨zf0, zf1, zf2, zf3, zf4⟩ := id Z7
  go_wp2_with fail
  clear xf0 xf1 xf2 xf3 xf4 xf5 xf6 yf0 yf1 yf2 yf3 yf4 yf5 yf6 zf0 zf1 zf2 zf3 zf4
  refine (KQ.out d HD.out _ C7.out).mono ?_
  rintro e w8 ⟨rfl, hb⟩
  have B8 := Lib.hid (B7.out.up hb)
  have C8 := Lib.hid (C7.out.below hb)
  have X8 := X7.up hb
  have Y8 := Y7.up hb
  have Z8 := Z7.up hb
  clear hb B7 C7 X7 Y7 Z7
  obtain ⟨xf0, xf1, xf2, xf3, xf4, xf5, xf6⟩ := id X8
  obtain ⟨yf0, yf1, yf2, yf3, yf4, yf5, yf6⟩ := id Y8
  obtain ⟨zf0, zf1, zf2, zf3, zf4⟩ := id Z8
  have B9 := Lib.hid (B8.out.set (b := w.heap.size + 1) (by omega) 1 (.int .i64 0))
  have C9 := Lib.hid (H0.out.below B9.out.out)
  have X9 := X8.other (c := w.heap.size + 1) (i := 1) (u := .int .i64 0) (by omega)
  obtain ⟨xk0, xk1, xk2, xk3, xk4, xk5, xk6⟩ := id X9
  have Y9 := Y8.put1 (u := .int .i64 0)
  obtain ⟨yk0, yk1, yk2, yk3, yk4, yk5, yk6⟩ := id Y9
  have Z9 := Z8.other (c := w.heap.size + 1) (i := 1) (u := .int .i64 0) (by omega)
  obtain ⟨zk0, zk1, zk2, zk3, zk4⟩ := id Z9
  go_wp2_with fail
  clear B8 C8 X8 Y8 Z8
  clear xf0 xf1 xf2 xf3 xf4 xf5 xf6 yf0 yf1 yf2 yf3 yf4 yf5 yf6 zf0 zf1 zf2 zf3 zf4 xk0 xk1 xk2 xk3 xk4 xk5 xk6 yk0 yk1 yk2 yk3 yk4 yk5 yk6 zk0 zk1 zk2 zk3 zk4
  refine (pos_bad2 c q0 0 q2 _ HC.out HZ.out C9.out).mono ?_
  rintro e w10 ⟨rfl, hb⟩
  have B10 := Lib.hid (B9.out.up hb)
  have C10 := Lib.hid (C9.out.below hb)
  have X10 := X9.up hb
  have Y10 := Y9.up hb
  have Z10 := Z9.up hb
  clear hb B9 C9 X9 Y9 Z9
  obtain ⟨xf0, xf1, xf2, xf3, xf4, xf5, xf6⟩ := id X10
  obtain ⟨yf0, yf1, yf2, yf3, yf4, yf5, yf6⟩ := id Y10
  obtain ⟨zf0, zf1, zf2, zf3, zf4⟩ := id Z10
  go_wp2_with fail
  clear xf0 xf1 xf2 xf3 xf4 xf5 xf6 yf0 yf1 yf2 yf3 yf4 yf5 yf6 zf0 zf1 zf2 zf3 zf4
  refine (exists_no q0 0 q2 _ HZ.out).mono ?_
  rintro e w11 ⟨rfl, hb⟩
  have B11 := Lib.hid (B10.out.up hb)
  have C11 := Lib.hid (C10.out.below hb)
  have X11 := X10.up hb
  have Y11 := Y10.up hb
  have Z11 := Z10.up hb
  clear hb B10 C10 X10 Y10 Z10
  obtain ⟨xf0, xf1, xf2, xf3, xf4, xf5, xf6⟩ := id X11
  obtain ⟨yf0, yf1, yf2, yf3, yf4, yf5, yf6⟩ := id Y11
  obtain ⟨zf0, zf1, zf2, zf3, zf4⟩ := id Z11
  have B12 := Lib.hid (B11.out.set (b := w.heap.size) (Nat.le_refl _) 2 (.int .i64 (p2 + 1)))
  have C12 := Lib.hid (H0.out.below B12.out.out)
  have X12 := X11.put2 (u := .int .i64 (p2 + 1))
  obtain ⟨xk0, xk1, xk2, xk3, xk4, xk5, xk6⟩ := id X12
  have Y12 := Y11.other (c := w.heap.size) (i := 2) (u := .int .i64 (p2 + 1)) (by omega)
  obtain ⟨yk0, yk1, yk2, yk3, yk4, yk5, yk6⟩ := id Y12
  have Z12 := Z11.other (c := w.heap.size) (i := 2) (u := .int .i64 (p2 + 1)) (by omega)
  obtain ⟨zk0, zk1, zk2, zk3, zk4⟩ := id Z12
  go_wp2_with fail
  clear B11 C11 X11 Y11 Z11
  clear xf0 xf1 xf2 xf3 xf4 xf5 xf6 yf0 yf1 yf2 yf3 yf4 yf5 yf6 zf0 zf1 zf2 zf3 zf4 xk0 xk1 xk2 xk3 xk4 xk5 xk6 yk0 yk1 yk2 yk3 yk4 yk5 yk6 zk0 zk1 zk2 zk3 zk4
  refine (pos_bad2 c p0 p1 (p2 + 1) _ HC.out HO.out C12.out).mono ?_
  rintro e w13 ⟨rfl, hb⟩
  have B13 := Lib.hid (B12.out.up hb)
  have C13 := Lib.hid (C12.out.below hb)
  have X13 := X12.up hb
  have Y13 := Y12.up hb
  have Z13 := Z12.up hb
  clear hb B12 C12 X12 Y12 Z12
  obtain ⟨xf0, xf1, xf2, xf3, xf4, xf5, xf6⟩ := id X13
  obtain ⟨yf0, yf1, yf2, yf3, yf4, yf5, yf6⟩ := id Y13
  obtain ⟨zf0, zf1, zf2, zf3, zf4⟩ := id Z13
  go_wp2_with fail
  clear xf0 xf1 xf2 xf3 xf4 xf5 xf6 yf0 yf1 yf2 yf3 yf4 yf5 yf6 zf0 zf1 zf2 zf3 zf4
  refine (exists_no p0 p1 (p2 + 1) _ HO.out).mono ?_
  rintro e w14 ⟨rfl, hb⟩
  have B14 := Lib.hid (B13.out.up hb)
  have C14 := Lib.hid (C13.out.below hb)
  have X14 := X13.up hb
  have Y14 := Y13.up hb
  have Z14 := Z13.up hb
  clear hb B13 C13 X13 Y13 Z13
  obtain ⟨xf0, xf1, xf2, xf3, xf4, xf5, xf6⟩ := id X14
  obtain ⟨yf0, yf1, yf2, yf3, yf4, yf5, yf6⟩ := id Y14
  obtain ⟨zf0, zf1, zf2, zf3, zf4⟩ := id Z14
  go_wp2_with fail
  go_ret
  exact ⟨rfl, B14.out.out⟩
theorem law_ClefSteps (p0 p1 p2 q0 q1 q2 x y : Int) (w : World) (x0 : 0 ≤ x) (x1 : x ≤ 255) (y0 : 0 ≤ y) (y1 : y ≤ 255) (hc : CW w) : Calls Tryd.prog 5 #[.agg #[.int .i64 p0, .int .i64 p1, .int .i64 p2], .agg #[.int .i64 q0, .int .i64 q1, .int .i64 q2], .agg #[.int .u8 x, .int .u8 y]] w fun e w' => e = .returned (.bool true) ∧ Below w.heap.size w w' := by
  by_cases hp : Pit p0 p1 p2
  · by_cases hq : Pit q0 q1 q2
    · by_cases hz : Pit q0 0 q2
      · by_cases hn : p2 = 9
        · subst hn
          exact stLaw_z_nine p0 p1 q0 q1 q2 x y w x0 x1 y0 y1 hp hq hz hc
        · by_cases ho : Pit p0 p1 (p2 + 1)
          · exact stLaw_z_yes p0 p1 p2 q0 q1 q2 x y w x0 x1 y0 y1 hp hq hz hn ho hc
          · exact stLaw_z_no p0 p1 p2 q0 q1 q2 x y w x0 x1 y0 y1 hp hq hz hn ho hc
      · by_cases hn : p2 = 9
        · subst hn
          exact stLaw_n_nine p0 p1 q0 q1 q2 x y w x0 x1 y0 y1 hp hq hz hc
        · by_cases ho : Pit p0 p1 (p2 + 1)
          · exact stLaw_n_yes p0 p1 p2 q0 q1 q2 x y w x0 x1 y0 y1 hp hq hz hn ho hc
          · exact stLaw_n_no p0 p1 p2 q0 q1 q2 x y w x0 x1 y0 y1 hp hq hz hn ho hc
    · exact stLaw2 p0 p1 p2 q0 q1 q2 x y w hp hq hc
  · exact stLaw1 p0 p1 p2 q0 q1 q2 x y w hp hc
end Go.Proofs.YtmdnlnjapkcanaaDoor
