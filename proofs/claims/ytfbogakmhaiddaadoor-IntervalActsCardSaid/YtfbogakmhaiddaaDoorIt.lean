/- The law IntervalActs. -/
import Derived.Test.YtfbogakmhaiddaaDoorIp
import Derived.Test.YtfbogakmhaiddaaDoorIb
namespace Go.Proofs.YtfbogakmhaiddaaDoor
open Go.RowKit
set_option linter.unusedVariables false
set_option linter.unusedSimpArgs false

/-- Exact leads from a pitch to q -/
def Hit (s a o t m : Int) (q : Int × Int × Int) : Prop := Pit s a o ∧ Iv t m ∧ findD (enhL (numP s a o + m)) (diaP s o + t) = some q
theorem exact_hit (s a o t m : Int) (q : Int × Int × Int) (w : World) (h : Hit s a o t m q) (ht : PT w) :
    Calls Tryd.prog 22 #[.agg #[.int .i64 s, .int .i64 a, .int .i64 o], .agg #[.int .i64 t, .int .i64 m]] w fun e w' => e = .returned (.tuple #[.agg #[.int .i64 q.1, .int .i64 q.2.1, .int .i64 q.2.2], .int .i64 0]) ∧ Below w.heap.size w w' :=
  (exact_any s a o t m w h.1 h.2.1 ht).mono fun e w' h' => by
    rcases h' with ⟨x, hx, he, hb⟩ | ⟨hx, _, _⟩
    · rw [h.2.2] at hx; cases hx; exact ⟨he, hb⟩
    · rw [h.2.2] at hx; cases hx
theorem exact_miss (s a o t m : Int) (w : World) (h : ∀ q, ¬ Hit s a o t m q) (ht : PT w) :
    Calls Tryd.prog 22 #[.agg #[.int .i64 s, .int .i64 a, .int .i64 o], .agg #[.int .i64 t, .int .i64 m]] w fun e w' => ∃ c : Int, (c = 2 ∨ c = 18) ∧ e = .returned (.tuple #[.agg #[.int .i64 0, .int .i64 0, .int .i64 0], .int .i64 c]) ∧ Below w.heap.size w w' := by
  by_cases hp : Pit s a o
  · by_cases hk : Iv t m
    · refine (exact_any s a o t m w hp hk ht).mono fun e w' h' => ?_
      rcases h' with ⟨x, hx, _, _⟩ | ⟨hx, he, hb⟩
      · exact absurd ⟨hp, hk, hx⟩ (h x)
      · exact ⟨18, .inr rfl, he, hb⟩
    · exact (exact_b2 s a o t m w hp hk ht).mono fun e w' ⟨he, hb⟩ => ⟨2, .inl rfl, he, hb⟩
  · exact (exact_b1 s a o t m w hp ht).mono fun e w' ⟨he, hb⟩ => ⟨18, .inr rfl, he, hb⟩
theorem hit_sum {s a o t m u v : Int} {q r : Int × Int × Int} (h : Hit s a o t m q) (k : Hit q.1 q.2.1 q.2.2 u v r) (l : Iv (t + u) (m + v)) : Hit s a o (t + u) (m + v) r := by
  refine ⟨h.1, l, ?_⟩
  have hf := h.2.2
  have hm := List.mem_of_find?_eq_some hf
  have hd := List.find?_some hf
  obtain ⟨hp, hn⟩ := enhL_pit q hm
  have hd2 : diaP q.1 q.2.2 = diaP s o + t := by simpa using hd
  have := k.2.2
  rw [hn, hd2] at this
  rw [show numP s a o + (m + v) = numP s a o + m + v by omega, show diaP s o + (t + u) = diaP s o + t + u by omega]
  exact this
set_option maxRecDepth 100000 in
set_option maxHeartbeats 2000000 in
theorem acLaw1 (s a o t m u v : Int) (w : World) (h : ∀ q, ¬ Hit s a o t m q) (k : ∀ q, ¬ Hit 0 0 0 u v q) (ht : PT w) (hi : IT w) :
    Calls Tryd.prog 8 #[.agg #[.int .i64 s, .int .i64 a, .int .i64 o], .agg #[.int .i64 t, .int .i64 m], .agg #[.int .i64 u, .int .i64 v]] w fun e w' => e = .returned (.bool true) ∧ Below w.heap.size w w' := by
  have B0 := Lib.hid ((((Bel.refl w).alloc (.cells #[.int .i64 s, .int .i64 a, .int .i64 o] 41)).alloc (.cells #[.int .i64 t, .int .i64 m] 23)).alloc (.cells #[.int .i64 u, .int .i64 v] 23))
  have T0 := Lib.hid (((ht.below ((Below.refl _ _).alloc (Nat.le_refl _) (.cells #[.int .i64 s, .int .i64 a, .int .i64 o] 41))).below ((Below.refl _ _).alloc (Nat.le_refl _) (.cells #[.int .i64 t, .int .i64 m] 23))).below ((Below.refl _ _).alloc (Nat.le_refl _) (.cells #[.int .i64 u, .int .i64 v] 23)))
  have I0 := Lib.hid (((hi.below ((Below.refl _ _).alloc (Nat.le_refl _) (.cells #[.int .i64 s, .int .i64 a, .int .i64 o] 41))).below ((Below.refl _ _).alloc (Nat.le_refl _) (.cells #[.int .i64 t, .int .i64 m] 23))).below ((Below.refl _ _).alloc (Nat.le_refl _) (.cells #[.int .i64 u, .int .i64 v] 23)))
  have X0 := ((Tri.new w (.int .i64 s) (.int .i64 a) (.int .i64 o) 41 (w.heap.size) (by simp)).alloc (.cells #[.int .i64 t, .int .i64 m] 23)).alloc (.cells #[.int .i64 u, .int .i64 v] 23)
  have Y0 := (Duo.new (w.alloc (.cells #[.int .i64 s, .int .i64 a, .int .i64 o] 41)) (.int .i64 t) (.int .i64 m) 23 (w.heap.size + 1) (by simp)).alloc (.cells #[.int .i64 u, .int .i64 v] 23)
  have Z0 := Duo.new ((w.alloc (.cells #[.int .i64 s, .int .i64 a, .int .i64 o] 41)).alloc (.cells #[.int .i64 t, .int .i64 m] 23)) (.int .i64 u) (.int .i64 v) 23 (w.heap.size + 1 + 1) (by simp)
  have H1 := Lib.hid h
  have H2 := Lib.hid k
  go_enter Tryd.func8, Tryd.ntmps8
  obtain ⟨xf0, xf1, xf2, xf3, xf4, xf5, xf6⟩ := id X0
  obtain ⟨yf0, yf1, yf2, yf3, yf4⟩ := id Y0
  obtain ⟨zf0, zf1, zf2, zf3, zf4⟩ := id Z0
  go_wp2_with fail
  clear xf0 xf1 xf2 xf3 xf4 xf5 xf6 yf0 yf1 yf2 yf3 yf4 zf0 zf1 zf2 zf3 zf4
  refine (exact_miss s a o t m _ H1.out T0.out).mono ?_
  rintro e w1 ⟨c, hc, rfl, hb⟩
  have c0 : 0 < c ∧ c ≤ 18 := by omega
  obtain ⟨c1, c2⟩ := c0
  clear hc
  have B1 := Lib.hid ((B0.out.up hb).alloc (.cells #[.int .i64 0, .int .i64 0, .int .i64 0] 41))
  have T1 := Lib.hid ((T0.out.below hb).below ((Below.refl _ _).alloc (Nat.le_refl _) (.cells #[.int .i64 0, .int .i64 0, .int .i64 0] 41)))
  have I1 := Lib.hid ((I0.out.below hb).below ((Below.refl _ _).alloc (Nat.le_refl _) (.cells #[.int .i64 0, .int .i64 0, .int .i64 0] 41)))
  have X1 := (X0.up hb).alloc (.cells #[.int .i64 0, .int .i64 0, .int .i64 0] 41)
  have Y1 := (Y0.up hb).alloc (.cells #[.int .i64 0, .int .i64 0, .int .i64 0] 41)
  have Z1 := (Z0.up hb).alloc (.cells #[.int .i64 0, .int .i64 0, .int .i64 0] 41)
  have V1 := Tri.new w1 (.int .i64 0) (.int .i64 0) (.int .i64 0) 41 (w1.heap.size) (by simp)
  clear hb B0 T0 I0 X0 Y0 Z0
  obtain ⟨xf0, xf1, xf2, xf3, xf4, xf5, xf6⟩ := id X1
  obtain ⟨yf0, yf1, yf2, yf3, yf4⟩ := id Y1
  obtain ⟨zf0, zf1, zf2, zf3, zf4⟩ := id Z1
  obtain ⟨vf0, vf1, vf2, vf3, vf4, vf5, vf6⟩ := id V1
  go_wp2_with fail
  clear xf0 xf1 xf2 xf3 xf4 xf5 xf6 yf0 yf1 yf2 yf3 yf4 zf0 zf1 zf2 zf3 zf4 vf0 vf1 vf2 vf3 vf4 vf5 vf6
  refine (exact_miss 0 0 0 u v _ H2.out T1.out).mono ?_
  rintro e w2 ⟨d, hd, rfl, hb⟩
  have d0 : 0 < d ∧ d ≤ 18 := by omega
  obtain ⟨d1, d2⟩ := d0
  clear hd
  have B2 := Lib.hid ((B1.out.up hb).alloc (.cells #[.int .i64 0, .int .i64 0, .int .i64 0] 41))
  have T2 := Lib.hid ((T1.out.below hb).below ((Below.refl _ _).alloc (Nat.le_refl _) (.cells #[.int .i64 0, .int .i64 0, .int .i64 0] 41)))
  have I2 := Lib.hid ((I1.out.below hb).below ((Below.refl _ _).alloc (Nat.le_refl _) (.cells #[.int .i64 0, .int .i64 0, .int .i64 0] 41)))
  have X2 := (X1.up hb).alloc (.cells #[.int .i64 0, .int .i64 0, .int .i64 0] 41)
  have Y2 := (Y1.up hb).alloc (.cells #[.int .i64 0, .int .i64 0, .int .i64 0] 41)
  have Z2 := (Z1.up hb).alloc (.cells #[.int .i64 0, .int .i64 0, .int .i64 0] 41)
  have V2 := (V1.up hb).alloc (.cells #[.int .i64 0, .int .i64 0, .int .i64 0] 41)
  have G2 := Tri.new w2 (.int .i64 0) (.int .i64 0) (.int .i64 0) 41 (w2.heap.size) (by simp)
  clear hb B1 T1 I1 X1 Y1 Z1 V1
  obtain ⟨xf0, xf1, xf2, xf3, xf4, xf5, xf6⟩ := id X2
  obtain ⟨yf0, yf1, yf2, yf3, yf4⟩ := id Y2
  obtain ⟨zf0, zf1, zf2, zf3, zf4⟩ := id Z2
  obtain ⟨vf0, vf1, vf2, vf3, vf4, vf5, vf6⟩ := id V2
  obtain ⟨gf0, gf1, gf2, gf3, gf4, gf5, gf6⟩ := id G2
  go_wp2_with fail
  clear xf0 xf1 xf2 xf3 xf4 xf5 xf6 yf0 yf1 yf2 yf3 yf4 zf0 zf1 zf2 zf3 zf4 vf0 vf1 vf2 vf3 vf4 vf5 vf6 gf0 gf1 gf2 gf3 gf4 gf5 gf6
  refine (known_any _ T2.out I2.out).mono ?_
  rintro e w3 ⟨rfl, hb⟩
  have B3 := Lib.hid (B2.out.up hb)
  have T3 := Lib.hid (T2.out.below hb)
  have I3 := Lib.hid (I2.out.below hb)
  have X3 := X2.up hb
  have Y3 := Y2.up hb
  have Z3 := Z2.up hb
  have V3 := V2.up hb
  have G3 := G2.up hb
  clear hb B2 T2 I2 X2 Y2 Z2 V2 G2
  obtain ⟨xf0, xf1, xf2, xf3, xf4, xf5, xf6⟩ := id X3
  obtain ⟨yf0, yf1, yf2, yf3, yf4⟩ := id Y3
  obtain ⟨zf0, zf1, zf2, zf3, zf4⟩ := id Z3
  obtain ⟨vf0, vf1, vf2, vf3, vf4, vf5, vf6⟩ := id V3
  obtain ⟨gf0, gf1, gf2, gf3, gf4, gf5, gf6⟩ := id G3
  go_wp2_with fail
  clear xf0 xf1 xf2 xf3 xf4 xf5 xf6 yf0 yf1 yf2 yf3 yf4 zf0 zf1 zf2 zf3 zf4 vf0 vf1 vf2 vf3 vf4 vf5 vf6 gf0 gf1 gf2 gf3 gf4 gf5 gf6
  refine (known_any _ T3.out I3.out).mono ?_
  rintro e w4 ⟨rfl, hb⟩
  have B4 := Lib.hid (B3.out.up hb)
  have T4 := Lib.hid (T3.out.below hb)
  have I4 := Lib.hid (I3.out.below hb)
  have X4 := X3.up hb
  have Y4 := Y3.up hb
  have Z4 := Z3.up hb
  have V4 := V3.up hb
  have G4 := G3.up hb
  clear hb B3 T3 I3 X3 Y3 Z3 V3 G3
  obtain ⟨xf0, xf1, xf2, xf3, xf4, xf5, xf6⟩ := id X4
  obtain ⟨yf0, yf1, yf2, yf3, yf4⟩ := id Y4
  obtain ⟨zf0, zf1, zf2, zf3, zf4⟩ := id Z4
  obtain ⟨vf0, vf1, vf2, vf3, vf4, vf5, vf6⟩ := id V4
  obtain ⟨gf0, gf1, gf2, gf3, gf4, gf5, gf6⟩ := id G4
  go_wp2_with fail
  go_ret
  exact ⟨by first | rfl | (simp; done), B4.out.out⟩
set_option maxRecDepth 100000 in
set_option maxHeartbeats 2000000 in
theorem acLaw2 (s a o t m u v : Int) (q : Int × Int × Int) (w : World) (h : ∀ q, ¬ Hit s a o t m q) (k : Hit 0 0 0 u v q) (ht : PT w) (hi : IT w) :
    Calls Tryd.prog 8 #[.agg #[.int .i64 s, .int .i64 a, .int .i64 o], .agg #[.int .i64 t, .int .i64 m], .agg #[.int .i64 u, .int .i64 v]] w fun e w' => e = .returned (.bool true) ∧ Below w.heap.size w w' := by
  have B0 := Lib.hid ((((Bel.refl w).alloc (.cells #[.int .i64 s, .int .i64 a, .int .i64 o] 41)).alloc (.cells #[.int .i64 t, .int .i64 m] 23)).alloc (.cells #[.int .i64 u, .int .i64 v] 23))
  have T0 := Lib.hid (((ht.below ((Below.refl _ _).alloc (Nat.le_refl _) (.cells #[.int .i64 s, .int .i64 a, .int .i64 o] 41))).below ((Below.refl _ _).alloc (Nat.le_refl _) (.cells #[.int .i64 t, .int .i64 m] 23))).below ((Below.refl _ _).alloc (Nat.le_refl _) (.cells #[.int .i64 u, .int .i64 v] 23)))
  have I0 := Lib.hid (((hi.below ((Below.refl _ _).alloc (Nat.le_refl _) (.cells #[.int .i64 s, .int .i64 a, .int .i64 o] 41))).below ((Below.refl _ _).alloc (Nat.le_refl _) (.cells #[.int .i64 t, .int .i64 m] 23))).below ((Below.refl _ _).alloc (Nat.le_refl _) (.cells #[.int .i64 u, .int .i64 v] 23)))
  have X0 := ((Tri.new w (.int .i64 s) (.int .i64 a) (.int .i64 o) 41 (w.heap.size) (by simp)).alloc (.cells #[.int .i64 t, .int .i64 m] 23)).alloc (.cells #[.int .i64 u, .int .i64 v] 23)
  have Y0 := (Duo.new (w.alloc (.cells #[.int .i64 s, .int .i64 a, .int .i64 o] 41)) (.int .i64 t) (.int .i64 m) 23 (w.heap.size + 1) (by simp)).alloc (.cells #[.int .i64 u, .int .i64 v] 23)
  have Z0 := Duo.new ((w.alloc (.cells #[.int .i64 s, .int .i64 a, .int .i64 o] 41)).alloc (.cells #[.int .i64 t, .int .i64 m] 23)) (.int .i64 u) (.int .i64 v) 23 (w.heap.size + 1 + 1) (by simp)
  have H1 := Lib.hid h
  have H2 := Lib.hid k
  go_enter Tryd.func8, Tryd.ntmps8
  obtain ⟨xf0, xf1, xf2, xf3, xf4, xf5, xf6⟩ := id X0
  obtain ⟨yf0, yf1, yf2, yf3, yf4⟩ := id Y0
  obtain ⟨zf0, zf1, zf2, zf3, zf4⟩ := id Z0
  go_wp2_with fail
  clear xf0 xf1 xf2 xf3 xf4 xf5 xf6 yf0 yf1 yf2 yf3 yf4 zf0 zf1 zf2 zf3 zf4
  refine (exact_miss s a o t m _ H1.out T0.out).mono ?_
  rintro e w1 ⟨c, hc, rfl, hb⟩
  have c0 : 0 < c ∧ c ≤ 18 := by omega
  obtain ⟨c1, c2⟩ := c0
  clear hc
  have B1 := Lib.hid ((B0.out.up hb).alloc (.cells #[.int .i64 0, .int .i64 0, .int .i64 0] 41))
  have T1 := Lib.hid ((T0.out.below hb).below ((Below.refl _ _).alloc (Nat.le_refl _) (.cells #[.int .i64 0, .int .i64 0, .int .i64 0] 41)))
  have I1 := Lib.hid ((I0.out.below hb).below ((Below.refl _ _).alloc (Nat.le_refl _) (.cells #[.int .i64 0, .int .i64 0, .int .i64 0] 41)))
  have X1 := (X0.up hb).alloc (.cells #[.int .i64 0, .int .i64 0, .int .i64 0] 41)
  have Y1 := (Y0.up hb).alloc (.cells #[.int .i64 0, .int .i64 0, .int .i64 0] 41)
  have Z1 := (Z0.up hb).alloc (.cells #[.int .i64 0, .int .i64 0, .int .i64 0] 41)
  have V1 := Tri.new w1 (.int .i64 0) (.int .i64 0) (.int .i64 0) 41 (w1.heap.size) (by simp)
  clear hb B0 T0 I0 X0 Y0 Z0
  obtain ⟨xf0, xf1, xf2, xf3, xf4, xf5, xf6⟩ := id X1
  obtain ⟨yf0, yf1, yf2, yf3, yf4⟩ := id Y1
  obtain ⟨zf0, zf1, zf2, zf3, zf4⟩ := id Z1
  obtain ⟨vf0, vf1, vf2, vf3, vf4, vf5, vf6⟩ := id V1
  go_wp2_with fail
  clear xf0 xf1 xf2 xf3 xf4 xf5 xf6 yf0 yf1 yf2 yf3 yf4 zf0 zf1 zf2 zf3 zf4 vf0 vf1 vf2 vf3 vf4 vf5 vf6
  refine (exact_hit 0 0 0 u v q _ H2.out T1.out).mono ?_
  rintro e w2 ⟨rfl, hb⟩
  have B2 := Lib.hid ((B1.out.up hb).alloc (.cells #[.int .i64 q.1, .int .i64 q.2.1, .int .i64 q.2.2] 41))
  have T2 := Lib.hid ((T1.out.below hb).below ((Below.refl _ _).alloc (Nat.le_refl _) (.cells #[.int .i64 q.1, .int .i64 q.2.1, .int .i64 q.2.2] 41)))
  have I2 := Lib.hid ((I1.out.below hb).below ((Below.refl _ _).alloc (Nat.le_refl _) (.cells #[.int .i64 q.1, .int .i64 q.2.1, .int .i64 q.2.2] 41)))
  have X2 := (X1.up hb).alloc (.cells #[.int .i64 q.1, .int .i64 q.2.1, .int .i64 q.2.2] 41)
  have Y2 := (Y1.up hb).alloc (.cells #[.int .i64 q.1, .int .i64 q.2.1, .int .i64 q.2.2] 41)
  have Z2 := (Z1.up hb).alloc (.cells #[.int .i64 q.1, .int .i64 q.2.1, .int .i64 q.2.2] 41)
  have V2 := (V1.up hb).alloc (.cells #[.int .i64 q.1, .int .i64 q.2.1, .int .i64 q.2.2] 41)
  have G2 := Tri.new w2 (.int .i64 q.1) (.int .i64 q.2.1) (.int .i64 q.2.2) 41 (w2.heap.size) (by simp)
  clear hb B1 T1 I1 X1 Y1 Z1 V1
  obtain ⟨xf0, xf1, xf2, xf3, xf4, xf5, xf6⟩ := id X2
  obtain ⟨yf0, yf1, yf2, yf3, yf4⟩ := id Y2
  obtain ⟨zf0, zf1, zf2, zf3, zf4⟩ := id Z2
  obtain ⟨vf0, vf1, vf2, vf3, vf4, vf5, vf6⟩ := id V2
  obtain ⟨gf0, gf1, gf2, gf3, gf4, gf5, gf6⟩ := id G2
  go_wp2_with fail
  clear xf0 xf1 xf2 xf3 xf4 xf5 xf6 yf0 yf1 yf2 yf3 yf4 zf0 zf1 zf2 zf3 zf4 vf0 vf1 vf2 vf3 vf4 vf5 vf6 gf0 gf1 gf2 gf3 gf4 gf5 gf6
  refine (known_any _ T2.out I2.out).mono ?_
  rintro e w3 ⟨rfl, hb⟩
  have B3 := Lib.hid (B2.out.up hb)
  have T3 := Lib.hid (T2.out.below hb)
  have I3 := Lib.hid (I2.out.below hb)
  have X3 := X2.up hb
  have Y3 := Y2.up hb
  have Z3 := Z2.up hb
  have V3 := V2.up hb
  have G3 := G2.up hb
  clear hb B2 T2 I2 X2 Y2 Z2 V2 G2
  obtain ⟨xf0, xf1, xf2, xf3, xf4, xf5, xf6⟩ := id X3
  obtain ⟨yf0, yf1, yf2, yf3, yf4⟩ := id Y3
  obtain ⟨zf0, zf1, zf2, zf3, zf4⟩ := id Z3
  obtain ⟨vf0, vf1, vf2, vf3, vf4, vf5, vf6⟩ := id V3
  obtain ⟨gf0, gf1, gf2, gf3, gf4, gf5, gf6⟩ := id G3
  go_wp2_with fail
  clear xf0 xf1 xf2 xf3 xf4 xf5 xf6 yf0 yf1 yf2 yf3 yf4 zf0 zf1 zf2 zf3 zf4 vf0 vf1 vf2 vf3 vf4 vf5 vf6 gf0 gf1 gf2 gf3 gf4 gf5 gf6
  refine (known_any _ T3.out I3.out).mono ?_
  rintro e w4 ⟨rfl, hb⟩
  have B4 := Lib.hid (B3.out.up hb)
  have T4 := Lib.hid (T3.out.below hb)
  have I4 := Lib.hid (I3.out.below hb)
  have X4 := X3.up hb
  have Y4 := Y3.up hb
  have Z4 := Z3.up hb
  have V4 := V3.up hb
  have G4 := G3.up hb
  clear hb B3 T3 I3 X3 Y3 Z3 V3 G3
  obtain ⟨xf0, xf1, xf2, xf3, xf4, xf5, xf6⟩ := id X4
  obtain ⟨yf0, yf1, yf2, yf3, yf4⟩ := id Y4
  obtain ⟨zf0, zf1, zf2, zf3, zf4⟩ := id Z4
  obtain ⟨vf0, vf1, vf2, vf3, vf4, vf5, vf6⟩ := id V4
  obtain ⟨gf0, gf1, gf2, gf3, gf4, gf5, gf6⟩ := id G4
  go_wp2_with fail
  go_ret
  exact ⟨by first | rfl | (simp; done), B4.out.out⟩
set_option maxRecDepth 100000 in
set_option maxHeartbeats 2000000 in
theorem acLaw3 (s a o t m u v : Int) (q : Int × Int × Int) (w : World) (h : Hit s a o t m q) (k : ∀ r, ¬ Hit q.1 q.2.1 q.2.2 u v r) (ht : PT w) (hi : IT w) :
    Calls Tryd.prog 8 #[.agg #[.int .i64 s, .int .i64 a, .int .i64 o], .agg #[.int .i64 t, .int .i64 m], .agg #[.int .i64 u, .int .i64 v]] w fun e w' => e = .returned (.bool true) ∧ Below w.heap.size w w' := by
  have B0 := Lib.hid ((((Bel.refl w).alloc (.cells #[.int .i64 s, .int .i64 a, .int .i64 o] 41)).alloc (.cells #[.int .i64 t, .int .i64 m] 23)).alloc (.cells #[.int .i64 u, .int .i64 v] 23))
  have T0 := Lib.hid (((ht.below ((Below.refl _ _).alloc (Nat.le_refl _) (.cells #[.int .i64 s, .int .i64 a, .int .i64 o] 41))).below ((Below.refl _ _).alloc (Nat.le_refl _) (.cells #[.int .i64 t, .int .i64 m] 23))).below ((Below.refl _ _).alloc (Nat.le_refl _) (.cells #[.int .i64 u, .int .i64 v] 23)))
  have I0 := Lib.hid (((hi.below ((Below.refl _ _).alloc (Nat.le_refl _) (.cells #[.int .i64 s, .int .i64 a, .int .i64 o] 41))).below ((Below.refl _ _).alloc (Nat.le_refl _) (.cells #[.int .i64 t, .int .i64 m] 23))).below ((Below.refl _ _).alloc (Nat.le_refl _) (.cells #[.int .i64 u, .int .i64 v] 23)))
  have X0 := ((Tri.new w (.int .i64 s) (.int .i64 a) (.int .i64 o) 41 (w.heap.size) (by simp)).alloc (.cells #[.int .i64 t, .int .i64 m] 23)).alloc (.cells #[.int .i64 u, .int .i64 v] 23)
  have Y0 := (Duo.new (w.alloc (.cells #[.int .i64 s, .int .i64 a, .int .i64 o] 41)) (.int .i64 t) (.int .i64 m) 23 (w.heap.size + 1) (by simp)).alloc (.cells #[.int .i64 u, .int .i64 v] 23)
  have Z0 := Duo.new ((w.alloc (.cells #[.int .i64 s, .int .i64 a, .int .i64 o] 41)).alloc (.cells #[.int .i64 t, .int .i64 m] 23)) (.int .i64 u) (.int .i64 v) 23 (w.heap.size + 1 + 1) (by simp)
  have H1 := Lib.hid h
  have H2 := Lib.hid k
  go_enter Tryd.func8, Tryd.ntmps8
  obtain ⟨xf0, xf1, xf2, xf3, xf4, xf5, xf6⟩ := id X0
  obtain ⟨yf0, yf1, yf2, yf3, yf4⟩ := id Y0
  obtain ⟨zf0, zf1, zf2, zf3, zf4⟩ := id Z0
  go_wp2_with fail
  clear xf0 xf1 xf2 xf3 xf4 xf5 xf6 yf0 yf1 yf2 yf3 yf4 zf0 zf1 zf2 zf3 zf4
  refine (exact_hit s a o t m q _ H1.out T0.out).mono ?_
  rintro e w1 ⟨rfl, hb⟩
  have B1 := Lib.hid ((B0.out.up hb).alloc (.cells #[.int .i64 q.1, .int .i64 q.2.1, .int .i64 q.2.2] 41))
  have T1 := Lib.hid ((T0.out.below hb).below ((Below.refl _ _).alloc (Nat.le_refl _) (.cells #[.int .i64 q.1, .int .i64 q.2.1, .int .i64 q.2.2] 41)))
  have I1 := Lib.hid ((I0.out.below hb).below ((Below.refl _ _).alloc (Nat.le_refl _) (.cells #[.int .i64 q.1, .int .i64 q.2.1, .int .i64 q.2.2] 41)))
  have X1 := (X0.up hb).alloc (.cells #[.int .i64 q.1, .int .i64 q.2.1, .int .i64 q.2.2] 41)
  have Y1 := (Y0.up hb).alloc (.cells #[.int .i64 q.1, .int .i64 q.2.1, .int .i64 q.2.2] 41)
  have Z1 := (Z0.up hb).alloc (.cells #[.int .i64 q.1, .int .i64 q.2.1, .int .i64 q.2.2] 41)
  have V1 := Tri.new w1 (.int .i64 q.1) (.int .i64 q.2.1) (.int .i64 q.2.2) 41 (w1.heap.size) (by simp)
  clear hb B0 T0 I0 X0 Y0 Z0
  obtain ⟨xf0, xf1, xf2, xf3, xf4, xf5, xf6⟩ := id X1
  obtain ⟨yf0, yf1, yf2, yf3, yf4⟩ := id Y1
  obtain ⟨zf0, zf1, zf2, zf3, zf4⟩ := id Z1
  obtain ⟨vf0, vf1, vf2, vf3, vf4, vf5, vf6⟩ := id V1
  go_wp2_with fail
  clear xf0 xf1 xf2 xf3 xf4 xf5 xf6 yf0 yf1 yf2 yf3 yf4 zf0 zf1 zf2 zf3 zf4 vf0 vf1 vf2 vf3 vf4 vf5 vf6
  refine (exact_miss q.1 q.2.1 q.2.2 u v _ H2.out T1.out).mono ?_
  rintro e w2 ⟨d, hd, rfl, hb⟩
  have d0 : 0 < d ∧ d ≤ 18 := by omega
  obtain ⟨d1, d2⟩ := d0
  clear hd
  have B2 := Lib.hid ((B1.out.up hb).alloc (.cells #[.int .i64 0, .int .i64 0, .int .i64 0] 41))
  have T2 := Lib.hid ((T1.out.below hb).below ((Below.refl _ _).alloc (Nat.le_refl _) (.cells #[.int .i64 0, .int .i64 0, .int .i64 0] 41)))
  have I2 := Lib.hid ((I1.out.below hb).below ((Below.refl _ _).alloc (Nat.le_refl _) (.cells #[.int .i64 0, .int .i64 0, .int .i64 0] 41)))
  have X2 := (X1.up hb).alloc (.cells #[.int .i64 0, .int .i64 0, .int .i64 0] 41)
  have Y2 := (Y1.up hb).alloc (.cells #[.int .i64 0, .int .i64 0, .int .i64 0] 41)
  have Z2 := (Z1.up hb).alloc (.cells #[.int .i64 0, .int .i64 0, .int .i64 0] 41)
  have V2 := (V1.up hb).alloc (.cells #[.int .i64 0, .int .i64 0, .int .i64 0] 41)
  have G2 := Tri.new w2 (.int .i64 0) (.int .i64 0) (.int .i64 0) 41 (w2.heap.size) (by simp)
  clear hb B1 T1 I1 X1 Y1 Z1 V1
  obtain ⟨xf0, xf1, xf2, xf3, xf4, xf5, xf6⟩ := id X2
  obtain ⟨yf0, yf1, yf2, yf3, yf4⟩ := id Y2
  obtain ⟨zf0, zf1, zf2, zf3, zf4⟩ := id Z2
  obtain ⟨vf0, vf1, vf2, vf3, vf4, vf5, vf6⟩ := id V2
  obtain ⟨gf0, gf1, gf2, gf3, gf4, gf5, gf6⟩ := id G2
  go_wp2_with fail
  clear xf0 xf1 xf2 xf3 xf4 xf5 xf6 yf0 yf1 yf2 yf3 yf4 zf0 zf1 zf2 zf3 zf4 vf0 vf1 vf2 vf3 vf4 vf5 vf6 gf0 gf1 gf2 gf3 gf4 gf5 gf6
  refine (known_any _ T2.out I2.out).mono ?_
  rintro e w3 ⟨rfl, hb⟩
  have B3 := Lib.hid (B2.out.up hb)
  have T3 := Lib.hid (T2.out.below hb)
  have I3 := Lib.hid (I2.out.below hb)
  have X3 := X2.up hb
  have Y3 := Y2.up hb
  have Z3 := Z2.up hb
  have V3 := V2.up hb
  have G3 := G2.up hb
  clear hb B2 T2 I2 X2 Y2 Z2 V2 G2
  obtain ⟨xf0, xf1, xf2, xf3, xf4, xf5, xf6⟩ := id X3
  obtain ⟨yf0, yf1, yf2, yf3, yf4⟩ := id Y3
  obtain ⟨zf0, zf1, zf2, zf3, zf4⟩ := id Z3
  obtain ⟨vf0, vf1, vf2, vf3, vf4, vf5, vf6⟩ := id V3
  obtain ⟨gf0, gf1, gf2, gf3, gf4, gf5, gf6⟩ := id G3
  go_wp2_with fail
  clear xf0 xf1 xf2 xf3 xf4 xf5 xf6 yf0 yf1 yf2 yf3 yf4 zf0 zf1 zf2 zf3 zf4 vf0 vf1 vf2 vf3 vf4 vf5 vf6 gf0 gf1 gf2 gf3 gf4 gf5 gf6
  refine (known_any _ T3.out I3.out).mono ?_
  rintro e w4 ⟨rfl, hb⟩
  have B4 := Lib.hid (B3.out.up hb)
  have T4 := Lib.hid (T3.out.below hb)
  have I4 := Lib.hid (I3.out.below hb)
  have X4 := X3.up hb
  have Y4 := Y3.up hb
  have Z4 := Z3.up hb
  have V4 := V3.up hb
  have G4 := G3.up hb
  clear hb B3 T3 I3 X3 Y3 Z3 V3 G3
  obtain ⟨xf0, xf1, xf2, xf3, xf4, xf5, xf6⟩ := id X4
  obtain ⟨yf0, yf1, yf2, yf3, yf4⟩ := id Y4
  obtain ⟨zf0, zf1, zf2, zf3, zf4⟩ := id Z4
  obtain ⟨vf0, vf1, vf2, vf3, vf4, vf5, vf6⟩ := id V4
  obtain ⟨gf0, gf1, gf2, gf3, gf4, gf5, gf6⟩ := id G4
  go_wp2_with fail
  go_ret
  exact ⟨by first | rfl | (simp; done), B4.out.out⟩
set_option maxRecDepth 100000 in
set_option maxHeartbeats 2000000 in
theorem acLaw4 (s a o t m u v : Int) (q r : Int × Int × Int) (w : World) (h : Hit s a o t m q) (k : Hit q.1 q.2.1 q.2.2 u v r) (l : ¬ Iv (t + u) (m + v)) (ht : PT w) (hi : IT w) :
    Calls Tryd.prog 8 #[.agg #[.int .i64 s, .int .i64 a, .int .i64 o], .agg #[.int .i64 t, .int .i64 m], .agg #[.int .i64 u, .int .i64 v]] w fun e w' => e = .returned (.bool true) ∧ Below w.heap.size w w' := by
  have B0 := Lib.hid ((((Bel.refl w).alloc (.cells #[.int .i64 s, .int .i64 a, .int .i64 o] 41)).alloc (.cells #[.int .i64 t, .int .i64 m] 23)).alloc (.cells #[.int .i64 u, .int .i64 v] 23))
  have T0 := Lib.hid (((ht.below ((Below.refl _ _).alloc (Nat.le_refl _) (.cells #[.int .i64 s, .int .i64 a, .int .i64 o] 41))).below ((Below.refl _ _).alloc (Nat.le_refl _) (.cells #[.int .i64 t, .int .i64 m] 23))).below ((Below.refl _ _).alloc (Nat.le_refl _) (.cells #[.int .i64 u, .int .i64 v] 23)))
  have I0 := Lib.hid (((hi.below ((Below.refl _ _).alloc (Nat.le_refl _) (.cells #[.int .i64 s, .int .i64 a, .int .i64 o] 41))).below ((Below.refl _ _).alloc (Nat.le_refl _) (.cells #[.int .i64 t, .int .i64 m] 23))).below ((Below.refl _ _).alloc (Nat.le_refl _) (.cells #[.int .i64 u, .int .i64 v] 23)))
  have X0 := ((Tri.new w (.int .i64 s) (.int .i64 a) (.int .i64 o) 41 (w.heap.size) (by simp)).alloc (.cells #[.int .i64 t, .int .i64 m] 23)).alloc (.cells #[.int .i64 u, .int .i64 v] 23)
  have Y0 := (Duo.new (w.alloc (.cells #[.int .i64 s, .int .i64 a, .int .i64 o] 41)) (.int .i64 t) (.int .i64 m) 23 (w.heap.size + 1) (by simp)).alloc (.cells #[.int .i64 u, .int .i64 v] 23)
  have Z0 := Duo.new ((w.alloc (.cells #[.int .i64 s, .int .i64 a, .int .i64 o] 41)).alloc (.cells #[.int .i64 t, .int .i64 m] 23)) (.int .i64 u) (.int .i64 v) 23 (w.heap.size + 1 + 1) (by simp)
  have H1 := Lib.hid h
  have H2 := Lib.hid k
  have H3 := Lib.hid l
  go_enter Tryd.func8, Tryd.ntmps8
  obtain ⟨xf0, xf1, xf2, xf3, xf4, xf5, xf6⟩ := id X0
  obtain ⟨yf0, yf1, yf2, yf3, yf4⟩ := id Y0
  obtain ⟨zf0, zf1, zf2, zf3, zf4⟩ := id Z0
  go_wp2_with fail
  clear xf0 xf1 xf2 xf3 xf4 xf5 xf6 yf0 yf1 yf2 yf3 yf4 zf0 zf1 zf2 zf3 zf4
  refine (exact_hit s a o t m q _ H1.out T0.out).mono ?_
  rintro e w1 ⟨rfl, hb⟩
  have B1 := Lib.hid ((B0.out.up hb).alloc (.cells #[.int .i64 q.1, .int .i64 q.2.1, .int .i64 q.2.2] 41))
  have T1 := Lib.hid ((T0.out.below hb).below ((Below.refl _ _).alloc (Nat.le_refl _) (.cells #[.int .i64 q.1, .int .i64 q.2.1, .int .i64 q.2.2] 41)))
  have I1 := Lib.hid ((I0.out.below hb).below ((Below.refl _ _).alloc (Nat.le_refl _) (.cells #[.int .i64 q.1, .int .i64 q.2.1, .int .i64 q.2.2] 41)))
  have X1 := (X0.up hb).alloc (.cells #[.int .i64 q.1, .int .i64 q.2.1, .int .i64 q.2.2] 41)
  have Y1 := (Y0.up hb).alloc (.cells #[.int .i64 q.1, .int .i64 q.2.1, .int .i64 q.2.2] 41)
  have Z1 := (Z0.up hb).alloc (.cells #[.int .i64 q.1, .int .i64 q.2.1, .int .i64 q.2.2] 41)
  have V1 := Tri.new w1 (.int .i64 q.1) (.int .i64 q.2.1) (.int .i64 q.2.2) 41 (w1.heap.size) (by simp)
  clear hb B0 T0 I0 X0 Y0 Z0
  obtain ⟨xf0, xf1, xf2, xf3, xf4, xf5, xf6⟩ := id X1
  obtain ⟨yf0, yf1, yf2, yf3, yf4⟩ := id Y1
  obtain ⟨zf0, zf1, zf2, zf3, zf4⟩ := id Z1
  obtain ⟨vf0, vf1, vf2, vf3, vf4, vf5, vf6⟩ := id V1
  go_wp2_with fail
  clear xf0 xf1 xf2 xf3 xf4 xf5 xf6 yf0 yf1 yf2 yf3 yf4 zf0 zf1 zf2 zf3 zf4 vf0 vf1 vf2 vf3 vf4 vf5 vf6
  refine (exact_hit q.1 q.2.1 q.2.2 u v r _ H2.out T1.out).mono ?_
  rintro e w2 ⟨rfl, hb⟩
  have B2 := Lib.hid ((B1.out.up hb).alloc (.cells #[.int .i64 r.1, .int .i64 r.2.1, .int .i64 r.2.2] 41))
  have T2 := Lib.hid ((T1.out.below hb).below ((Below.refl _ _).alloc (Nat.le_refl _) (.cells #[.int .i64 r.1, .int .i64 r.2.1, .int .i64 r.2.2] 41)))
  have I2 := Lib.hid ((I1.out.below hb).below ((Below.refl _ _).alloc (Nat.le_refl _) (.cells #[.int .i64 r.1, .int .i64 r.2.1, .int .i64 r.2.2] 41)))
  have X2 := (X1.up hb).alloc (.cells #[.int .i64 r.1, .int .i64 r.2.1, .int .i64 r.2.2] 41)
  have Y2 := (Y1.up hb).alloc (.cells #[.int .i64 r.1, .int .i64 r.2.1, .int .i64 r.2.2] 41)
  have Z2 := (Z1.up hb).alloc (.cells #[.int .i64 r.1, .int .i64 r.2.1, .int .i64 r.2.2] 41)
  have V2 := (V1.up hb).alloc (.cells #[.int .i64 r.1, .int .i64 r.2.1, .int .i64 r.2.2] 41)
  have G2 := Tri.new w2 (.int .i64 r.1) (.int .i64 r.2.1) (.int .i64 r.2.2) 41 (w2.heap.size) (by simp)
  clear hb B1 T1 I1 X1 Y1 Z1 V1
  obtain ⟨xf0, xf1, xf2, xf3, xf4, xf5, xf6⟩ := id X2
  obtain ⟨yf0, yf1, yf2, yf3, yf4⟩ := id Y2
  obtain ⟨zf0, zf1, zf2, zf3, zf4⟩ := id Z2
  obtain ⟨vf0, vf1, vf2, vf3, vf4, vf5, vf6⟩ := id V2
  obtain ⟨gf0, gf1, gf2, gf3, gf4, gf5, gf6⟩ := id G2
  go_wp2_with fail
  clear xf0 xf1 xf2 xf3 xf4 xf5 xf6 yf0 yf1 yf2 yf3 yf4 zf0 zf1 zf2 zf3 zf4 vf0 vf1 vf2 vf3 vf4 vf5 vf6 gf0 gf1 gf2 gf3 gf4 gf5 gf6
  refine (known_any _ T2.out I2.out).mono ?_
  rintro e w3 ⟨rfl, hb⟩
  have B3 := Lib.hid (B2.out.up hb)
  have T3 := Lib.hid (T2.out.below hb)
  have I3 := Lib.hid (I2.out.below hb)
  have X3 := X2.up hb
  have Y3 := Y2.up hb
  have Z3 := Z2.up hb
  have V3 := V2.up hb
  have G3 := G2.up hb
  clear hb B2 T2 I2 X2 Y2 Z2 V2 G2
  obtain ⟨xf0, xf1, xf2, xf3, xf4, xf5, xf6⟩ := id X3
  obtain ⟨yf0, yf1, yf2, yf3, yf4⟩ := id Y3
  obtain ⟨zf0, zf1, zf2, zf3, zf4⟩ := id Z3
  obtain ⟨vf0, vf1, vf2, vf3, vf4, vf5, vf6⟩ := id V3
  obtain ⟨gf0, gf1, gf2, gf3, gf4, gf5, gf6⟩ := id G3
  go_wp2_with fail
  clear xf0 xf1 xf2 xf3 xf4 xf5 xf6 yf0 yf1 yf2 yf3 yf4 zf0 zf1 zf2 zf3 zf4 vf0 vf1 vf2 vf3 vf4 vf5 vf6 gf0 gf1 gf2 gf3 gf4 gf5 gf6
  refine (add_n3 t m u v _ H1.out.2.1 H2.out.2.1 H3.out).mono ?_
  rintro e w4 ⟨rfl, hb⟩
  have B4 := Lib.hid ((B3.out.up hb).alloc (.cells #[.int .i64 0, .int .i64 0] 23))
  have T4 := Lib.hid ((T3.out.below hb).below ((Below.refl _ _).alloc (Nat.le_refl _) (.cells #[.int .i64 0, .int .i64 0] 23)))
  have I4 := Lib.hid ((I3.out.below hb).below ((Below.refl _ _).alloc (Nat.le_refl _) (.cells #[.int .i64 0, .int .i64 0] 23)))
  have X4 := (X3.up hb).alloc (.cells #[.int .i64 0, .int .i64 0] 23)
  have Y4 := (Y3.up hb).alloc (.cells #[.int .i64 0, .int .i64 0] 23)
  have Z4 := (Z3.up hb).alloc (.cells #[.int .i64 0, .int .i64 0] 23)
  have V4 := (V3.up hb).alloc (.cells #[.int .i64 0, .int .i64 0] 23)
  have G4 := (G3.up hb).alloc (.cells #[.int .i64 0, .int .i64 0] 23)
  have L4 := Duo.new w4 (.int .i64 0) (.int .i64 0) 23 (w4.heap.size) (by simp)
  clear hb B3 T3 I3 X3 Y3 Z3 V3 G3
  obtain ⟨xf0, xf1, xf2, xf3, xf4, xf5, xf6⟩ := id X4
  obtain ⟨yf0, yf1, yf2, yf3, yf4⟩ := id Y4
  obtain ⟨zf0, zf1, zf2, zf3, zf4⟩ := id Z4
  obtain ⟨vf0, vf1, vf2, vf3, vf4, vf5, vf6⟩ := id V4
  obtain ⟨gf0, gf1, gf2, gf3, gf4, gf5, gf6⟩ := id G4
  obtain ⟨lf0, lf1, lf2, lf3, lf4⟩ := id L4
  go_wp2_with fail
  go_ret
  exact ⟨by first | rfl | (simp; done), B4.out.out⟩
set_option maxRecDepth 100000 in
set_option maxHeartbeats 2000000 in
theorem acLaw5 (s a o t m u v : Int) (q r : Int × Int × Int) (w : World) (h : Hit s a o t m q) (k : Hit q.1 q.2.1 q.2.2 u v r) (l : Iv (t + u) (m + v)) (ht : PT w) (hi : IT w) :
    Calls Tryd.prog 8 #[.agg #[.int .i64 s, .int .i64 a, .int .i64 o], .agg #[.int .i64 t, .int .i64 m], .agg #[.int .i64 u, .int .i64 v]] w fun e w' => e = .returned (.bool true) ∧ Below w.heap.size w w' := by
  have B0 := Lib.hid ((((Bel.refl w).alloc (.cells #[.int .i64 s, .int .i64 a, .int .i64 o] 41)).alloc (.cells #[.int .i64 t, .int .i64 m] 23)).alloc (.cells #[.int .i64 u, .int .i64 v] 23))
  have T0 := Lib.hid (((ht.below ((Below.refl _ _).alloc (Nat.le_refl _) (.cells #[.int .i64 s, .int .i64 a, .int .i64 o] 41))).below ((Below.refl _ _).alloc (Nat.le_refl _) (.cells #[.int .i64 t, .int .i64 m] 23))).below ((Below.refl _ _).alloc (Nat.le_refl _) (.cells #[.int .i64 u, .int .i64 v] 23)))
  have I0 := Lib.hid (((hi.below ((Below.refl _ _).alloc (Nat.le_refl _) (.cells #[.int .i64 s, .int .i64 a, .int .i64 o] 41))).below ((Below.refl _ _).alloc (Nat.le_refl _) (.cells #[.int .i64 t, .int .i64 m] 23))).below ((Below.refl _ _).alloc (Nat.le_refl _) (.cells #[.int .i64 u, .int .i64 v] 23)))
  have X0 := ((Tri.new w (.int .i64 s) (.int .i64 a) (.int .i64 o) 41 (w.heap.size) (by simp)).alloc (.cells #[.int .i64 t, .int .i64 m] 23)).alloc (.cells #[.int .i64 u, .int .i64 v] 23)
  have Y0 := (Duo.new (w.alloc (.cells #[.int .i64 s, .int .i64 a, .int .i64 o] 41)) (.int .i64 t) (.int .i64 m) 23 (w.heap.size + 1) (by simp)).alloc (.cells #[.int .i64 u, .int .i64 v] 23)
  have Z0 := Duo.new ((w.alloc (.cells #[.int .i64 s, .int .i64 a, .int .i64 o] 41)).alloc (.cells #[.int .i64 t, .int .i64 m] 23)) (.int .i64 u) (.int .i64 v) 23 (w.heap.size + 1 + 1) (by simp)
  have H1 := Lib.hid h
  have H2 := Lib.hid k
  have H3 := Lib.hid l
  have H4 := Lib.hid (hit_sum h k l)
  go_enter Tryd.func8, Tryd.ntmps8
  obtain ⟨xf0, xf1, xf2, xf3, xf4, xf5, xf6⟩ := id X0
  obtain ⟨yf0, yf1, yf2, yf3, yf4⟩ := id Y0
  obtain ⟨zf0, zf1, zf2, zf3, zf4⟩ := id Z0
  go_wp2_with fail
  clear xf0 xf1 xf2 xf3 xf4 xf5 xf6 yf0 yf1 yf2 yf3 yf4 zf0 zf1 zf2 zf3 zf4
  refine (exact_hit s a o t m q _ H1.out T0.out).mono ?_
  rintro e w1 ⟨rfl, hb⟩
  have B1 := Lib.hid ((B0.out.up hb).alloc (.cells #[.int .i64 q.1, .int .i64 q.2.1, .int .i64 q.2.2] 41))
  have T1 := Lib.hid ((T0.out.below hb).below ((Below.refl _ _).alloc (Nat.le_refl _) (.cells #[.int .i64 q.1, .int .i64 q.2.1, .int .i64 q.2.2] 41)))
  have I1 := Lib.hid ((I0.out.below hb).below ((Below.refl _ _).alloc (Nat.le_refl _) (.cells #[.int .i64 q.1, .int .i64 q.2.1, .int .i64 q.2.2] 41)))
  have X1 := (X0.up hb).alloc (.cells #[.int .i64 q.1, .int .i64 q.2.1, .int .i64 q.2.2] 41)
  have Y1 := (Y0.up hb).alloc (.cells #[.int .i64 q.1, .int .i64 q.2.1, .int .i64 q.2.2] 41)
  have Z1 := (Z0.up hb).alloc (.cells #[.int .i64 q.1, .int .i64 q.2.1, .int .i64 q.2.2] 41)
  have V1 := Tri.new w1 (.int .i64 q.1) (.int .i64 q.2.1) (.int .i64 q.2.2) 41 (w1.heap.size) (by simp)
  clear hb B0 T0 I0 X0 Y0 Z0
  obtain ⟨xf0, xf1, xf2, xf3, xf4, xf5, xf6⟩ := id X1
  obtain ⟨yf0, yf1, yf2, yf3, yf4⟩ := id Y1
  obtain ⟨zf0, zf1, zf2, zf3, zf4⟩ := id Z1
  obtain ⟨vf0, vf1, vf2, vf3, vf4, vf5, vf6⟩ := id V1
  go_wp2_with fail
  clear xf0 xf1 xf2 xf3 xf4 xf5 xf6 yf0 yf1 yf2 yf3 yf4 zf0 zf1 zf2 zf3 zf4 vf0 vf1 vf2 vf3 vf4 vf5 vf6
  refine (exact_hit q.1 q.2.1 q.2.2 u v r _ H2.out T1.out).mono ?_
  rintro e w2 ⟨rfl, hb⟩
  have B2 := Lib.hid ((B1.out.up hb).alloc (.cells #[.int .i64 r.1, .int .i64 r.2.1, .int .i64 r.2.2] 41))
  have T2 := Lib.hid ((T1.out.below hb).below ((Below.refl _ _).alloc (Nat.le_refl _) (.cells #[.int .i64 r.1, .int .i64 r.2.1, .int .i64 r.2.2] 41)))
  have I2 := Lib.hid ((I1.out.below hb).below ((Below.refl _ _).alloc (Nat.le_refl _) (.cells #[.int .i64 r.1, .int .i64 r.2.1, .int .i64 r.2.2] 41)))
  have X2 := (X1.up hb).alloc (.cells #[.int .i64 r.1, .int .i64 r.2.1, .int .i64 r.2.2] 41)
  have Y2 := (Y1.up hb).alloc (.cells #[.int .i64 r.1, .int .i64 r.2.1, .int .i64 r.2.2] 41)
  have Z2 := (Z1.up hb).alloc (.cells #[.int .i64 r.1, .int .i64 r.2.1, .int .i64 r.2.2] 41)
  have V2 := (V1.up hb).alloc (.cells #[.int .i64 r.1, .int .i64 r.2.1, .int .i64 r.2.2] 41)
  have G2 := Tri.new w2 (.int .i64 r.1) (.int .i64 r.2.1) (.int .i64 r.2.2) 41 (w2.heap.size) (by simp)
  clear hb B1 T1 I1 X1 Y1 Z1 V1
  obtain ⟨xf0, xf1, xf2, xf3, xf4, xf5, xf6⟩ := id X2
  obtain ⟨yf0, yf1, yf2, yf3, yf4⟩ := id Y2
  obtain ⟨zf0, zf1, zf2, zf3, zf4⟩ := id Z2
  obtain ⟨vf0, vf1, vf2, vf3, vf4, vf5, vf6⟩ := id V2
  obtain ⟨gf0, gf1, gf2, gf3, gf4, gf5, gf6⟩ := id G2
  go_wp2_with fail
  clear xf0 xf1 xf2 xf3 xf4 xf5 xf6 yf0 yf1 yf2 yf3 yf4 zf0 zf1 zf2 zf3 zf4 vf0 vf1 vf2 vf3 vf4 vf5 vf6 gf0 gf1 gf2 gf3 gf4 gf5 gf6
  refine (known_any _ T2.out I2.out).mono ?_
  rintro e w3 ⟨rfl, hb⟩
  have B3 := Lib.hid (B2.out.up hb)
  have T3 := Lib.hid (T2.out.below hb)
  have I3 := Lib.hid (I2.out.below hb)
  have X3 := X2.up hb
  have Y3 := Y2.up hb
  have Z3 := Z2.up hb
  have V3 := V2.up hb
  have G3 := G2.up hb
  clear hb B2 T2 I2 X2 Y2 Z2 V2 G2
  obtain ⟨xf0, xf1, xf2, xf3, xf4, xf5, xf6⟩ := id X3
  obtain ⟨yf0, yf1, yf2, yf3, yf4⟩ := id Y3
  obtain ⟨zf0, zf1, zf2, zf3, zf4⟩ := id Z3
  obtain ⟨vf0, vf1, vf2, vf3, vf4, vf5, vf6⟩ := id V3
  obtain ⟨gf0, gf1, gf2, gf3, gf4, gf5, gf6⟩ := id G3
  go_wp2_with fail
  clear xf0 xf1 xf2 xf3 xf4 xf5 xf6 yf0 yf1 yf2 yf3 yf4 zf0 zf1 zf2 zf3 zf4 vf0 vf1 vf2 vf3 vf4 vf5 vf6 gf0 gf1 gf2 gf3 gf4 gf5 gf6
  refine (add_y t m u v _ H1.out.2.1 H2.out.2.1 H3.out).mono ?_
  rintro e w4 ⟨rfl, hb⟩
  have B4 := Lib.hid ((B3.out.up hb).alloc (.cells #[.int .i64 (t + u), .int .i64 (m + v)] 23))
  have T4 := Lib.hid ((T3.out.below hb).below ((Below.refl _ _).alloc (Nat.le_refl _) (.cells #[.int .i64 (t + u), .int .i64 (m + v)] 23)))
  have I4 := Lib.hid ((I3.out.below hb).below ((Below.refl _ _).alloc (Nat.le_refl _) (.cells #[.int .i64 (t + u), .int .i64 (m + v)] 23)))
  have X4 := (X3.up hb).alloc (.cells #[.int .i64 (t + u), .int .i64 (m + v)] 23)
  have Y4 := (Y3.up hb).alloc (.cells #[.int .i64 (t + u), .int .i64 (m + v)] 23)
  have Z4 := (Z3.up hb).alloc (.cells #[.int .i64 (t + u), .int .i64 (m + v)] 23)
  have V4 := (V3.up hb).alloc (.cells #[.int .i64 (t + u), .int .i64 (m + v)] 23)
  have G4 := (G3.up hb).alloc (.cells #[.int .i64 (t + u), .int .i64 (m + v)] 23)
  have L4 := Duo.new w4 (.int .i64 (t + u)) (.int .i64 (m + v)) 23 (w4.heap.size) (by simp)
  clear hb B3 T3 I3 X3 Y3 Z3 V3 G3
  obtain ⟨xf0, xf1, xf2, xf3, xf4, xf5, xf6⟩ := id X4
  obtain ⟨yf0, yf1, yf2, yf3, yf4⟩ := id Y4
  obtain ⟨zf0, zf1, zf2, zf3, zf4⟩ := id Z4
  obtain ⟨vf0, vf1, vf2, vf3, vf4, vf5, vf6⟩ := id V4
  obtain ⟨gf0, gf1, gf2, gf3, gf4, gf5, gf6⟩ := id G4
  obtain ⟨lf0, lf1, lf2, lf3, lf4⟩ := id L4
  go_wp2_with fail
  clear xf0 xf1 xf2 xf3 xf4 xf5 xf6 yf0 yf1 yf2 yf3 yf4 zf0 zf1 zf2 zf3 zf4 vf0 vf1 vf2 vf3 vf4 vf5 vf6 gf0 gf1 gf2 gf3 gf4 gf5 gf6 lf0 lf1 lf2 lf3 lf4
  refine (exact_hit s a o (t + u) (m + v) r _ H4.out T4.out).mono ?_
  rintro e w5 ⟨rfl, hb⟩
  have B5 := Lib.hid ((B4.out.up hb).alloc (.cells #[.int .i64 r.1, .int .i64 r.2.1, .int .i64 r.2.2] 41))
  have T5 := Lib.hid ((T4.out.below hb).below ((Below.refl _ _).alloc (Nat.le_refl _) (.cells #[.int .i64 r.1, .int .i64 r.2.1, .int .i64 r.2.2] 41)))
  have I5 := Lib.hid ((I4.out.below hb).below ((Below.refl _ _).alloc (Nat.le_refl _) (.cells #[.int .i64 r.1, .int .i64 r.2.1, .int .i64 r.2.2] 41)))
  have X5 := (X4.up hb).alloc (.cells #[.int .i64 r.1, .int .i64 r.2.1, .int .i64 r.2.2] 41)
  have Y5 := (Y4.up hb).alloc (.cells #[.int .i64 r.1, .int .i64 r.2.1, .int .i64 r.2.2] 41)
  have Z5 := (Z4.up hb).alloc (.cells #[.int .i64 r.1, .int .i64 r.2.1, .int .i64 r.2.2] 41)
  have V5 := (V4.up hb).alloc (.cells #[.int .i64 r.1, .int .i64 r.2.1, .int .i64 r.2.2] 41)
  have G5 := (G4.up hb).alloc (.cells #[.int .i64 r.1, .int .i64 r.2.1, .int .i64 r.2.2] 41)
  have L5 := (L4.up hb).alloc (.cells #[.int .i64 r.1, .int .i64 r.2.1, .int .i64 r.2.2] 41)
  have K5 := Tri.new w5 (.int .i64 r.1) (.int .i64 r.2.1) (.int .i64 r.2.2) 41 (w5.heap.size) (by simp)
  clear hb B4 T4 I4 X4 Y4 Z4 V4 G4 L4
  obtain ⟨xf0, xf1, xf2, xf3, xf4, xf5, xf6⟩ := id X5
  obtain ⟨yf0, yf1, yf2, yf3, yf4⟩ := id Y5
  obtain ⟨zf0, zf1, zf2, zf3, zf4⟩ := id Z5
  obtain ⟨vf0, vf1, vf2, vf3, vf4, vf5, vf6⟩ := id V5
  obtain ⟨gf0, gf1, gf2, gf3, gf4, gf5, gf6⟩ := id G5
  obtain ⟨lf0, lf1, lf2, lf3, lf4⟩ := id L5
  obtain ⟨kf0, kf1, kf2, kf3, kf4, kf5, kf6⟩ := id K5
  go_wp2_with fail
  go_ret
  exact ⟨by first | rfl | (simp; done), B5.out.out⟩
theorem law_IntervalActs (s a o t m u v : Int) (w : World) (ht : PT w) (hi : IT w) :
    Calls Tryd.prog 8 #[.agg #[.int .i64 s, .int .i64 a, .int .i64 o], .agg #[.int .i64 t, .int .i64 m], .agg #[.int .i64 u, .int .i64 v]] w fun e w' => e = .returned (.bool true) ∧ Below w.heap.size w w' := by
  by_cases h : ∃ q, Hit s a o t m q
  · obtain ⟨q, h⟩ := h
    by_cases k : ∃ r, Hit q.1 q.2.1 q.2.2 u v r
    · obtain ⟨r, k⟩ := k
      by_cases l : Iv (t + u) (m + v)
      · exact acLaw5 s a o t m u v q r w h k l ht hi
      · exact acLaw4 s a o t m u v q r w h k l ht hi
    · exact acLaw3 s a o t m u v q w h (fun r hr => k ⟨r, hr⟩) ht hi
  · by_cases k : ∃ q, Hit 0 0 0 u v q
    · obtain ⟨q, k⟩ := k
      exact acLaw2 s a o t m u v q w (fun r hr => h ⟨r, hr⟩) k ht hi
    · exact acLaw1 s a o t m u v w (fun r hr => h ⟨r, hr⟩) (fun r hr => k ⟨r, hr⟩) ht hi
end Go.Proofs.YtfbogakmhaiddaaDoor
