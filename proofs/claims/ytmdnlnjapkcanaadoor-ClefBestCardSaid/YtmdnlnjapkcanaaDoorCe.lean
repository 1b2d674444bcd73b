/- Clefs: Position. -/
import Derived.Test.YtmdnlnjapkcanaaDoorCd
namespace Go.Proofs.YtmdnlnjapkcanaaDoor
open Go.RowKit
set_option linter.unusedVariables false
set_option linter.unusedSimpArgs false

theorem tab_new (w : World) (xs : Array Value) (t : TypeId) (n : Nat) (hn : n = w.heap.size) : ∀ (i : Nat) (v : Value), xs[i]? = some v → (w.alloc (.cells xs t)).cell? ⟨n, i, none⟩ = some v := by
  intro i v h
  subst hn
  simp [h]
set_option maxRecDepth 100000 in
set_option maxHeartbeats 4000000 in
theorem clefs_ok (w : World) :
    Calls Tryd.prog 29 #[] w fun e w' => ∃ b, e = .returned (.slice (some ⟨b, 0, none⟩) 9 9) ∧ Tab w' b ∧ Below w.heap.size w w' := by
  go_enter Tryd.func29, Tryd.ntmps29
  go_wp2_with fail
  go_ret
  refine ⟨w.heap.size, rfl, fun i v hv => ?_, (Below.refl _ _).alloc (Nat.le_refl _) _⟩
  exact tab_new w tabV.toArray _ _ rfl i v (by simpa using hv)
set_option maxRecDepth 100000 in
set_option maxHeartbeats 2000000 in
theorem pos_bad1 (c s a o : Int) (w : World) (h : ¬ Cl c) (hc : CW w) :
    Calls Tryd.prog 13 #[.int .i64 c, .agg #[.int .i64 s, .int .i64 a, .int .i64 o]] w fun e w' => e = .returned (.tuple #[.int .i64 0, .int .i64 11]) ∧ Below w.heap.size w w' := by
  have HP := Lib.hid h
  have B0 := Lib.hid ((Bel.refl w).alloc (.cells #[.int .i64 s, .int .i64 a, .int .i64 o] 23))
  have C0 := Lib.hid (hc.below ((Below.refl _ _).alloc (Nat.le_refl _) (.cells #[.int .i64 s, .int .i64 a, .int .i64 o] 23)))
  have X0 := Tri.new w (.int .i64 s) (.int .i64 a) (.int .i64 o) 23 (w.heap.size) (by simp)
  go_enter Tryd.func13, Tryd.ntmps13
  obtain ⟨xf0, xf1, xf2, xf3, xf4, xf5, xf6⟩ := id X0
  go_wp2_with fail
  clear xf0 xf1 xf2 xf3 xf4 xf5 xf6
  refine (checkC_bad c _ HP.out).mono ?_
  rintro e w1 ⟨rfl, hb⟩
  have B1 := Lib.hid (B0.out.up hb)
  have C1 := Lib.hid (C0.out.below hb)
  have X1 := X0.up hb
  clear hb B0 C0 X0
  obtain ⟨xf0, xf1, xf2, xf3, xf4, xf5, xf6⟩ := id X1
  go_wp2_with fail
  go_ret2
  exact ⟨rfl, B1.out.out⟩
set_option maxRecDepth 100000 in
set_option maxHeartbeats 2000000 in
theorem pos_bad2 (c s a o : Int) (w : World) (h : Cl c) (hp : ¬ Pit s a o) (hc : CW w) :
    Calls Tryd.prog 13 #[.int .i64 c, .agg #[.int .i64 s, .int .i64 a, .int .i64 o]] w fun e w' => e = .returned (.tuple #[.int .i64 0, .int .i64 18]) ∧ Below w.heap.size w w' := by
  have HP := Lib.hid h
  have HQ := Lib.hid hp
  have B0 := Lib.hid ((Bel.refl w).alloc (.cells #[.int .i64 s, .int .i64 a, .int .i64 o] 23))
  have C0 := Lib.hid (hc.below ((Below.refl _ _).alloc (Nat.le_refl _) (.cells #[.int .i64 s, .int .i64 a, .int .i64 o] 23)))
  have X0 := Tri.new w (.int .i64 s) (.int .i64 a) (.int .i64 o) 23 (w.heap.size) (by simp)
  go_enter Tryd.func13, Tryd.ntmps13
  obtain ⟨xf0, xf1, xf2, xf3, xf4, xf5, xf6⟩ := id X0
  go_wp2_with fail
  clear xf0 xf1 xf2 xf3 xf4 xf5 xf6
  refine (checkC_ok c _ HP.out).mono ?_
  rintro e w1 ⟨rfl, hb⟩
  have B1 := Lib.hid (B0.out.up hb)
  have C1 := Lib.hid (C0.out.below hb)
  have X1 := X0.up hb
  clear hb B0 C0 X0
  obtain ⟨xf0, xf1, xf2, xf3, xf4, xf5, xf6⟩ := id X1
  go_wp2_with fail
  clear xf0 xf1 xf2 xf3 xf4 xf5 xf6
  refine (dia2_bad s a o _ HQ.out C1.out.t).mono ?_
  rintro e w2 ⟨rfl, hb⟩
  have B2 := Lib.hid (B1.out.up hb)
  have C2 := Lib.hid (C1.out.below hb)
  have X2 := X1.up hb
  clear hb B1 C1 X1
  obtain ⟨xf0, xf1, xf2, xf3, xf4, xf5, xf6⟩ := id X2
  go_wp2_with fail
  go_ret2
  exact ⟨rfl, B2.out.out⟩
set_option maxRecDepth 100000 in
set_option maxHeartbeats 2000000 in
theorem pos_ok (c s a o : Int) (w : World) (h : Cl c) (hp : Pit s a o) (hc : CW w) :
    Calls Tryd.prog 13 #[.int .i64 c, .agg #[.int .i64 s, .int .i64 a, .int .i64 o]] w fun e w' => e = .returned (.tuple #[.int .i64 (diaP s o - midI c), .int .i64 0]) ∧ Below w.heap.size w w' := by
  have HP := Lib.hid h
  have HQ := Lib.hid hp
  obtain ⟨c0, c1⟩ := id h
  have d01 := dia_bd hp
  obtain ⟨d0, d1⟩ := d01
  obtain ⟨m0, m1⟩ := mid_bd c
  have B0 := Lib.hid ((Bel.refl w).alloc (.cells #[.int .i64 s, .int .i64 a, .int .i64 o] 23))
  have C0 := Lib.hid (hc.below ((Below.refl _ _).alloc (Nat.le_refl _) (.cells #[.int .i64 s, .int .i64 a, .int .i64 o] 23)))
  have X0 := Tri.new w (.int .i64 s) (.int .i64 a) (.int .i64 o) 23 (w.heap.size) (by simp)
  go_enter Tryd.func13, Tryd.ntmps13
  obtain ⟨xf0, xf1, xf2, xf3, xf4, xf5, xf6⟩ := id X0
  go_wp2_with fail
  clear xf0 xf1 xf2 xf3 xf4 xf5 xf6
  refine (checkC_ok c _ HP.out).mono ?_
  rintro e w1 ⟨rfl, hb⟩
  have B1 := Lib.hid (B0.out.up hb)
  have C1 := Lib.hid (C0.out.below hb)
  have X1 := X0.up hb
  clear hb B0 C0 X0
  obtain ⟨xf0, xf1, xf2, xf3, xf4, xf5, xf6⟩ := id X1
  go_wp2_with fail
  clear xf0 xf1 xf2 xf3 xf4 xf5 xf6
  refine (dia2_ok s a o _ HQ.out C1.out.t).mono ?_
  rintro e w2 ⟨rfl, hb⟩
  have B2 := Lib.hid (B1.out.up hb)
  have C2 := Lib.hid (C1.out.below hb)
  have X2 := X1.up hb
  clear hb B1 C1 X1
  obtain ⟨xf0, xf1, xf2, xf3, xf4, xf5, xf6⟩ := id X2
  have q4 := (C2.out.c.row HP.out).r4
  go_wp2_with fail
  try (go_quiet (fail); go_wp2_with fail)
  go_ret2
  exact ⟨rfl, B2.out.out⟩
end Go.Proofs.YtmdnlnjapkcanaaDoor
