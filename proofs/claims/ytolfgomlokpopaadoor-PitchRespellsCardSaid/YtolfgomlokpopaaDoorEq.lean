/- The law PitchRespells, whole. -/
import Derived.Test.YtolfgomlokpopaaDoorEr
namespace Go.Proofs.YtolfgomlokpopaaDoor
open Go.RowKit
set_option linter.unusedVariables false
set_option linter.unusedSimpArgs false

set_option maxRecDepth 100000 in
set_option maxHeartbeats 1000000 in
theorem respell_bad (s a o d : Int) (w : World) (h : ¬ Pit s a o) (ht : PT w) :
    Calls Tryd.prog 22 #[.agg #[.int .i64 s, .int .i64 a, .int .i64 o], .int .i64 d] w fun e w' => e = .returned (.tuple #[.agg #[.int .i64 0, .int .i64 0, .int .i64 0], .int .i64 18]) ∧ Below w.heap.size w w' := by
  have HP := Lib.hid h
  have HT := Lib.hid ((ht.alloc (.cells #[.int .i64 s, .int .i64 a, .int .i64 o] 23)).alloc (.cells #[.int .i64 0, .int .i64 0, .int .i64 0] 23))
  have B0 := Lib.hid (((Bel.refl w).alloc (.cells #[.int .i64 s, .int .i64 a, .int .i64 o] 23)).alloc (.cells #[.int .i64 0, .int .i64 0, .int .i64 0] 23))
  have R0 := Tri.new (w.alloc (.cells #[.int .i64 s, .int .i64 a, .int .i64 o] 23)) (.int .i64 0) (.int .i64 0) (.int .i64 0) 23 (w.heap.size + 1) (by simp)
  clear ht h
  go_enter Tryd.func22, Tryd.ntmps22
  go_wp2_with fail
  refine (check_bad s a o _ HP.out HT.out).mono ?_
  rintro e w1 ⟨rfl, hb⟩
  have B1 := Lib.hid (B0.out.up hb)
  have R1 := R0.up hb
  clear hb B0 R0
  obtain ⟨r0, r1, r2, r3, r4, r5, r6⟩ := id R1
  go_wp2_with fail
  have Tf := R1.store (u := .int .i64 0) (v := .int .i64 0) (t := .int .i64 0)
  exact bodyPost_ret (v := .tuple #[.agg #[.int .i64 0, .int .i64 0, .int .i64 0], .int .i64 18]) (by simp [results, Tryd.results22, go_sem, Tf.c0, Tf.c1, Tf.c2]) rfl ⟨rfl, ((B1.out.set (Nat.le_succ _) _ _).set (Nat.le_succ _) _ _).set (Nat.le_succ _) _ _⟩
theorem dia_inj {s a o t b u : Int} (hp : Pit s a o) (hq : Pit t b u) (hn : numP s a o = numP t b u) (hd : diaP s o = diaP t u) : s = t ∧ a = b ∧ o = u := by
  have := hp.s0; have := hp.s1; have := hq.s0; have := hq.s1
  unfold diaP at hd
  have e1 : s = t := by omega
  have e2 : o = u := by omega
  subst e1 e2
  unfold numP at hn
  exact ⟨rfl, by omega, rfl⟩
theorem find_back {s a o d : Int} {q : Int × Int × Int} (h : Pit s a o) (hq : findD (enhL (numP s a o)) (diaP s o + d) = some q) :
    Pit q.1 q.2.1 q.2.2 ∧ -76 ≤ d ∧ d ≤ 76 ∧ findD (enhL (numP q.1 q.2.1 q.2.2)) (diaP q.1 q.2.2 + -d) = some (s, a, o) := by
  unfold findD at hq
  have hm := List.mem_of_find?_eq_some hq
  have hd := List.find?_some hq
  obtain ⟨hp, hn⟩ := enhL_pit q hm
  have hd' : diaP q.1 q.2.2 = diaP s o + d := by simpa using hd
  have b1 := dia_bd h
  have b2 := dia_bd hp
  refine ⟨hp, by omega, by omega, ?_⟩
  rw [hn, show diaP q.1 q.2.2 + -d = diaP s o by omega]
  unfold findD
  cases hf : (enhL (numP s a o)).find? (fun r => diaP r.1 r.2.2 == diaP s o) with
  | none =>
    have := List.find?_eq_none.1 hf _ (mem_enhL h)
    simp at this
  | some r =>
    have hm := List.mem_of_find?_eq_some hf
    have hd := List.find?_some hf
    obtain ⟨hr, hrn⟩ := enhL_pit r hm
    have hd2 : diaP r.1 r.2.2 = diaP s o := by simpa using hd
    obtain ⟨x1, x2, x3⟩ := dia_inj hr h hrn hd2
    obtain ⟨r1, r2, r3⟩ := r
    simp only at x1 x2 x3
    rw [x1, x2, x3]
set_option maxRecDepth 100000 in
set_option maxHeartbeats 2000000 in
theorem rspLaw_bad (s a o d : Int) (w : World) (h : ¬ Pit s a o) (d0 : -9223372036854775808 ≤ d) (d1 : d ≤ 9223372036854775807) (ht : PW w) :
    Calls Tryd.prog 6 #[.agg #[.int .i64 s, .int .i64 a, .int .i64 o], .int .i64 d] w fun e w' => e = .returned (.bool true) ∧ Below w.heap.size w w' := by
  have B0 := Lib.hid ((Bel.refl w).alloc (.cells #[.int .i64 s, .int .i64 a, .int .i64 o] 23))
  have T0 := Lib.hid (ht.below ((Below.refl _ _).alloc (Nat.le_refl _) (.cells #[.int .i64 s, .int .i64 a, .int .i64 o] 23)))
  have X0 := Tri.new w (.int .i64 s) (.int .i64 a) (.int .i64 o) 23 w.heap.size rfl
  have HP := Lib.hid h
  clear ht h
  go_enter Tryd.func6, Tryd.ntmps6
  go_wp2_with fail
  refine (respell_bad s a o d _ HP.out T0.out.t).mono ?_
  rintro e w1 ⟨rfl, hb⟩
  have B1 := Lib.hid ((B0.out.up hb).alloc (.cells #[.int .i64 0, .int .i64 0, .int .i64 0] 23))
  have T1 := Lib.hid ((T0.out.below hb).below ((Below.refl _ _).alloc (Nat.le_refl _) (.cells #[.int .i64 0, .int .i64 0, .int .i64 0] 23)))
  have X1 := (X0.up hb).alloc (.cells #[.int .i64 0, .int .i64 0, .int .i64 0] 23)
  have Y1 := Tri.new w1 (.int .i64 0) (.int .i64 0) (.int .i64 0) 23 w1.heap.size rfl
  clear hb B0 T0 X0
  obtain ⟨xf0, xf1, xf2, xf3, xf4, xf5, xf6⟩ := id X1
  obtain ⟨yf0, yf1, yf2, yf3, yf4, yf5, yf6⟩ := id Y1
  go_wp2_with fail
  clear xf0 xf1 xf2 xf3 xf4 xf5 xf6
  clear yf0 yf1 yf2 yf3 yf4 yf5 yf6
  refine (known_any _ T1.out).mono ?_
  rintro e w2 ⟨rfl, hb⟩
  have B2 := Lib.hid (B1.out.up hb)
  have T2 := Lib.hid (T1.out.below hb)
  have X2 := X1.up hb
  have Y2 := Y1.up hb
  clear hb B1 T1 X1 Y1
  obtain ⟨xf0, xf1, xf2, xf3, xf4, xf5, xf6⟩ := id X2
  obtain ⟨yf0, yf1, yf2, yf3, yf4, yf5, yf6⟩ := id Y2
  go_wp2_with fail
  clear xf0 xf1 xf2 xf3 xf4 xf5 xf6
  clear yf0 yf1 yf2 yf3 yf4 yf5 yf6
  refine (exists_no s a o _ HP.out).mono ?_
  rintro e w3 ⟨rfl, hb⟩
  have B3 := Lib.hid (B2.out.up hb)
  have T3 := Lib.hid (T2.out.below hb)
  have X3 := X2.up hb
  have Y3 := Y2.up hb
  clear hb B2 T2 X2 Y2
  obtain ⟨xf0, xf1, xf2, xf3, xf4, xf5, xf6⟩ := id X3
  obtain ⟨yf0, yf1, yf2, yf3, yf4, yf5, yf6⟩ := id Y3
  go_wp2_with fail
  go_ret
  exact ⟨rfl, B3.out.out⟩
set_option maxRecDepth 100000 in
set_option maxHeartbeats 2000000 in
theorem rspLaw_none (s a o d : Int) (w : World) (h : Pit s a o) (hn : findD (enhL (numP s a o)) (diaP s o + d) = none) (d0 : -9223372036854775808 ≤ d) (d1 : d ≤ 9223372036854775807) (ht : PW w) :
    Calls Tryd.prog 6 #[.agg #[.int .i64 s, .int .i64 a, .int .i64 o], .int .i64 d] w fun e w' => e = .returned (.bool true) ∧ Below w.heap.size w w' := by
  have B0 := Lib.hid ((Bel.refl w).alloc (.cells #[.int .i64 s, .int .i64 a, .int .i64 o] 23))
  have T0 := Lib.hid (ht.below ((Below.refl _ _).alloc (Nat.le_refl _) (.cells #[.int .i64 s, .int .i64 a, .int .i64 o] 23)))
  have X0 := Tri.new w (.int .i64 s) (.int .i64 a) (.int .i64 o) 23 w.heap.size rfl
  have HP := Lib.hid h
  have HN := Lib.hid hn
  clear ht h hn
  go_enter Tryd.func6, Tryd.ntmps6
  go_wp2_with fail
  refine (respell_ok s a o d _ HP.out d0 d1 T0.out.t).mono ?_
  rintro e w1 h
  rcases h with ⟨q, hq, -, -⟩ | ⟨-, rfl, hb⟩
  · rw [HN.out] at hq; cases hq
  have B1 := Lib.hid ((B0.out.up hb).alloc (.cells #[.int .i64 0, .int .i64 0, .int .i64 0] 23))
  have T1 := Lib.hid ((T0.out.below hb).below ((Below.refl _ _).alloc (Nat.le_refl _) (.cells #[.int .i64 0, .int .i64 0, .int .i64 0] 23)))
  have X1 := (X0.up hb).alloc (.cells #[.int .i64 0, .int .i64 0, .int .i64 0] 23)
  have Y1 := Tri.new w1 (.int .i64 0) (.int .i64 0) (.int .i64 0) 23 w1.heap.size rfl
  clear hb B0 T0 X0
  obtain ⟨xf0, xf1, xf2, xf3, xf4, xf5, xf6⟩ := id X1
  obtain ⟨yf0, yf1, yf2, yf3, yf4, yf5, yf6⟩ := id Y1
  go_wp2_with fail
  clear xf0 xf1 xf2 xf3 xf4 xf5 xf6
  clear yf0 yf1 yf2 yf3 yf4 yf5 yf6
  refine (known_any _ T1.out).mono ?_
  rintro e w2 ⟨rfl, hb⟩
  have B2 := Lib.hid (B1.out.up hb)
  have T2 := Lib.hid (T1.out.below hb)
  have X2 := X1.up hb
  have Y2 := Y1.up hb
  clear hb B1 T1 X1 Y1
  obtain ⟨xf0, xf1, xf2, xf3, xf4, xf5, xf6⟩ := id X2
  obtain ⟨yf0, yf1, yf2, yf3, yf4, yf5, yf6⟩ := id Y2
  go_wp2_with fail
  clear xf0 xf1 xf2 xf3 xf4 xf5 xf6
  clear yf0 yf1 yf2 yf3 yf4 yf5 yf6
  refine (exists_yes s a o _ HP.out).mono ?_
  rintro e w3 ⟨rfl, hb⟩
  have B3 := Lib.hid (B2.out.up hb)
  have T3 := Lib.hid (T2.out.below hb)
  have X3 := X2.up hb
  have Y3 := Y2.up hb
  clear hb B2 T2 X2 Y2
  obtain ⟨xf0, xf1, xf2, xf3, xf4, xf5, xf6⟩ := id X3
  obtain ⟨yf0, yf1, yf2, yf3, yf4, yf5, yf6⟩ := id Y3
  go_wp2_with fail
  clear xf0 xf1 xf2 xf3 xf4 xf5 xf6
  clear yf0 yf1 yf2 yf3 yf4 yf5 yf6
  refine (refRespell_ok s a o d _ HP.out d0 d1).mono ?_
  rintro e w4 h
  rcases h with ⟨q, hq, -, -⟩ | ⟨-, rfl, hb⟩
  · rw [HN.out] at hq; cases hq
  have B4 := Lib.hid ((B3.out.up hb).alloc (.cells #[.int .i64 0, .int .i64 0, .int .i64 0] 23))
  have T4 := Lib.hid ((T3.out.below hb).below ((Below.refl _ _).alloc (Nat.le_refl _) (.cells #[.int .i64 0, .int .i64 0, .int .i64 0] 23)))
  have X4 := (X3.up hb).alloc (.cells #[.int .i64 0, .int .i64 0, .int .i64 0] 23)
  have Y4 := (Y3.up hb).alloc (.cells #[.int .i64 0, .int .i64 0, .int .i64 0] 23)
  have Z4 := Tri.new w4 (.int .i64 0) (.int .i64 0) (.int .i64 0) 23 w4.heap.size rfl
  clear hb B3 T3 X3 Y3
  obtain ⟨xf0, xf1, xf2, xf3, xf4, xf5, xf6⟩ := id X4
  obtain ⟨yf0, yf1, yf2, yf3, yf4, yf5, yf6⟩ := id Y4
  obtain ⟨zf0, zf1, zf2, zf3, zf4, zf5, zf6⟩ := id Z4
  go_wp2_with fail
  go_ret
  exact ⟨rfl, B4.out.out⟩
set_option maxRecDepth 100000 in
set_option maxHeartbeats 2000000 in
theorem rspLaw_some (s a o d : Int) (w : World) (q : Int × Int × Int) (h : Pit s a o) (hn : findD (enhL (numP s a o)) (diaP s o + d) = some q) (d0 : -9223372036854775808 ≤ d) (d1 : d ≤ 9223372036854775807) (ht : PW w) :
    Calls Tryd.prog 6 #[.agg #[.int .i64 s, .int .i64 a, .int .i64 o], .int .i64 d] w fun e w' => e = .returned (.bool true) ∧ Below w.heap.size w w' := by
  have B0 := Lib.hid ((Bel.refl w).alloc (.cells #[.int .i64 s, .int .i64 a, .int .i64 o] 23))
  have T0 := Lib.hid (ht.below ((Below.refl _ _).alloc (Nat.le_refl _) (.cells #[.int .i64 s, .int .i64 a, .int .i64 o] 23)))
  have X0 := Tri.new w (.int .i64 s) (.int .i64 a) (.int .i64 o) 23 w.heap.size rfl
  have HP := Lib.hid h
  have HN := Lib.hid hn
  obtain ⟨hq, u0, u1, hk⟩ := find_back h hn
  have HQ := Lib.hid hq
  have HK := Lib.hid hk
  clear ht h hn hq hk
  go_enter Tryd.func6, Tryd.ntmps6
  go_wp2_with fail
  refine (respell_ok s a o d _ HP.out d0 d1 T0.out.t).mono ?_
  rintro e w1 h
  rcases h with ⟨p, hp, rfl, hb⟩ | ⟨hp, -, -⟩
  rotate_left
  · rw [HN.out] at hp; cases hp
  rw [HN.out] at hp
  cases hp
  have B1 := Lib.hid ((B0.out.up hb).alloc (.cells #[.int .i64 q.1, .int .i64 q.2.1, .int .i64 q.2.2] 23))
  have T1 := Lib.hid ((T0.out.below hb).below ((Below.refl _ _).alloc (Nat.le_refl _) (.cells #[.int .i64 q.1, .int .i64 q.2.1, .int .i64 q.2.2] 23)))
  have X1 := (X0.up hb).alloc (.cells #[.int .i64 q.1, .int .i64 q.2.1, .int .i64 q.2.2] 23)
  have Y1 := Tri.new w1 (.int .i64 q.1) (.int .i64 q.2.1) (.int .i64 q.2.2) 23 w1.heap.size rfl
  clear hb B0 T0 X0
  obtain ⟨xf0, xf1, xf2, xf3, xf4, xf5, xf6⟩ := id X1
  obtain ⟨yf0, yf1, yf2, yf3, yf4, yf5, yf6⟩ := id Y1
  go_wp2_with fail
  clear xf0 xf1 xf2 xf3 xf4 xf5 xf6
  clear yf0 yf1 yf2 yf3 yf4 yf5 yf6
  refine (known_any _ T1.out).mono ?_
  rintro e w2 ⟨rfl, hb⟩
  have B2 := Lib.hid (B1.out.up hb)
  have T2 := Lib.hid (T1.out.below hb)
  have X2 := X1.up hb
  have Y2 := Y1.up hb
  clear hb B1 T1 X1 Y1
  obtain ⟨xf0, xf1, xf2, xf3, xf4, xf5, xf6⟩ := id X2
  obtain ⟨yf0, yf1, yf2, yf3, yf4, yf5, yf6⟩ := id Y2
  go_wp2_with fail
  clear xf0 xf1 xf2 xf3 xf4 xf5 xf6
  clear yf0 yf1 yf2 yf3 yf4 yf5 yf6
  refine (exists_yes s a o _ HP.out).mono ?_
  rintro e w3 ⟨rfl, hb⟩
  have B3 := Lib.hid (B2.out.up hb)
  have T3 := Lib.hid (T2.out.below hb)
  have X3 := X2.up hb
  have Y3 := Y2.up hb
  clear hb B2 T2 X2 Y2
  obtain ⟨xf0, xf1, xf2, xf3, xf4, xf5, xf6⟩ := id X3
  obtain ⟨yf0, yf1, yf2, yf3, yf4, yf5, yf6⟩ := id Y3
  go_wp2_with fail
  clear xf0 xf1 xf2 xf3 xf4 xf5 xf6
  clear yf0 yf1 yf2 yf3 yf4 yf5 yf6
  refine (refRespell_ok s a o d _ HP.out d0 d1).mono ?_
  rintro e w4 h
  rcases h with ⟨p, hp, rfl, hb⟩ | ⟨hp, -, -⟩
  rotate_left
  · rw [HN.out] at hp; cases hp
  rw [HN.out] at hp
  cases hp
  have B4 := Lib.hid ((B3.out.up hb).alloc (.cells #[.int .i64 q.1, .int .i64 q.2.1, .int .i64 q.2.2] 23))
  have T4 := Lib.hid ((T3.out.below hb).below ((Below.refl _ _).alloc (Nat.le_refl _) (.cells #[.int .i64 q.1, .int .i64 q.2.1, .int .i64 q.2.2] 23)))
  have X4 := (X3.up hb).alloc (.cells #[.int .i64 q.1, .int .i64 q.2.1, .int .i64 q.2.2] 23)
  have Y4 := (Y3.up hb).alloc (.cells #[.int .i64 q.1, .int .i64 q.2.1, .int .i64 q.2.2] 23)
  have Z4 := Tri.new w4 (.int .i64 q.1) (.int .i64 q.2.1) (.int .i64 q.2.2) 23 w4.heap.size rfl
  clear hb B3 T3 X3 Y3
  obtain ⟨xf0, xf1, xf2, xf3, xf4, xf5, xf6⟩ := id X4
  obtain ⟨yf0, yf1, yf2, yf3, yf4, yf5, yf6⟩ := id Y4
  obtain ⟨zf0, zf1, zf2, zf3, zf4, zf5, zf6⟩ := id Z4
  go_wp2_with fail
  clear xf0 xf1 xf2 xf3 xf4 xf5 xf6
  clear yf0 yf1 yf2 yf3 yf4 yf5 yf6
  clear zf0 zf1 zf2 zf3 zf4 zf5 zf6
  refine (respell_ok q.1 q.2.1 q.2.2 (-d) _ HQ.out (by omega) (by omega) T4.out.t).mono ?_
  rintro e w5 h
  rcases h with ⟨p, hp, rfl, hb⟩ | ⟨hp, -, -⟩
  rotate_left
  · rw [HK.out] at hp; cases hp
  rw [HK.out] at hp
  cases hp
  have B5 := Lib.hid ((B4.out.up hb).alloc (.cells #[.int .i64 s, .int .i64 a, .int .i64 o] 23))
  have T5 := Lib.hid ((T4.out.below hb).below ((Below.refl _ _).alloc (Nat.le_refl _) (.cells #[.int .i64 s, .int .i64 a, .int .i64 o] 23)))
  have X5 := (X4.up hb).alloc (.cells #[.int .i64 s, .int .i64 a, .int .i64 o] 23)
  have Y5 := (Y4.up hb).alloc (.cells #[.int .i64 s, .int .i64 a, .int .i64 o] 23)
  have Z5 := (Z4.up hb).alloc (.cells #[.int .i64 s, .int .i64 a, .int .i64 o] 23)
  have V5 := Tri.new w5 (.int .i64 s) (.int .i64 a) (.int .i64 o) 23 w5.heap.size rfl
  clear hb B4 T4 X4 Y4 Z4
  obtain ⟨xf0, xf1, xf2, xf3, xf4, xf5, xf6⟩ := id X5
  obtain ⟨yf0, yf1, yf2, yf3, yf4, yf5, yf6⟩ := id Y5
  obtain ⟨zf0, zf1, zf2, zf3, zf4, zf5, zf6⟩ := id Z5
  obtain ⟨vf0, vf1, vf2, vf3, vf4, vf5, vf6⟩ := id V5
  go_wp2_with fail
  go_ret
  exact ⟨rfl, B5.out.out⟩
theorem law_PitchRespells (s a o d : Int) (w : World) (d0 : -9223372036854775808 ≤ d) (d1 : d ≤ 9223372036854775807) (ht : PW w) :
    Calls Tryd.prog 6 #[.agg #[.int .i64 s, .int .i64 a, .int .i64 o], .int .i64 d] w fun e w' => e = .returned (.bool true) ∧ Below w.heap.size w w' := by
  by_cases h : Pit s a o
  · cases hf : findD (enhL (numP s a o)) (diaP s o + d) with
    | none => exact rspLaw_none s a o d w h hf d0 d1 ht
    | some q => exact rspLaw_some s a o d w q h hf d0 d1 ht
  · exact rspLaw_bad s a o d w h d0 d1 ht
end Go.Proofs.YtolfgomlokpopaaDoor
