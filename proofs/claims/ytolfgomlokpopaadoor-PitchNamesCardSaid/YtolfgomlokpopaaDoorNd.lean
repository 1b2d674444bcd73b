/- The law PitchNames. -/
import Derived.Test.YtolfgomlokpopaaDoorNa
import Derived.Test.YtolfgomlokpopaaDoorNb
namespace Go.Proofs.YtolfgomlokpopaaDoor
open Go.RowKit
set_option linter.unusedVariables false
set_option linter.unusedSimpArgs false

set_option maxRecDepth 100000 in
set_option maxHeartbeats 2000000 in
theorem name_bad (s a o : Int) (w : World) (h : ¬ Pit s a o) (ht : PT w) :
    Calls Tryd.prog 26 #[.agg #[.int .i64 s, .int .i64 a, .int .i64 o]] w fun e w' => e = .returned (.tuple #[.string ⟨#[]⟩, .int .i64 18]) ∧ Below w.heap.size w w' := by
  have HP := Lib.hid h
  have B0 := Lib.hid ((Bel.refl w).alloc (.cells #[.int .i64 s, .int .i64 a, .int .i64 o] 23))
  have T0 := Lib.hid (ht.alloc (.cells #[.int .i64 s, .int .i64 a, .int .i64 o] 23))
  clear h ht
  go_enter Tryd.func26, Tryd.ntmps26
  go_wp2_with fail
  refine (check_bad s a o _ HP.out T0.out).mono ?_
  rintro e w1 ⟨rfl, hb⟩
  have B1 := Lib.hid (B0.out.up hb)
  go_wp2_with fail
  go_ret2
  exact ⟨rfl, B1.out.out⟩
set_option maxRecDepth 100000 in
set_option maxHeartbeats 2000000 in
theorem names_no (s a o : Int) (w : World) (h : ¬ Pit s a o) (ht : PW w) :
    Calls Tryd.prog 8 #[.agg #[.int .i64 s, .int .i64 a, .int .i64 o]] w fun e w' => e = .returned (.bool true) ∧ Below w.heap.size w w' := by
  have HP := Lib.hid h
  have B0 := Lib.hid ((Bel.refl w).alloc (.cells #[.int .i64 s, .int .i64 a, .int .i64 o] 23))
  have T0 := Lib.hid (ht.below ((Below.refl _ _).alloc (Nat.le_refl _) (.cells #[.int .i64 s, .int .i64 a, .int .i64 o] 23)))
  have X0 := Tri.new w (.int .i64 s) (.int .i64 a) (.int .i64 o) 23 w.heap.size rfl
  clear ht h
  go_enter Tryd.func8, Tryd.ntmps8
  go_wp2_with fail
  refine (name_bad s a o _ HP.out T0.out.t).mono ?_
  rintro e w1 ⟨rfl, hb⟩
  have B1 := Lib.hid (B0.out.up hb)
  have T1 := Lib.hid (T0.out.below hb)
  replace X0 := X0.up hb
  clear B0 T0 hb
  obtain ⟨x0, x1, x2, x3, x4, x5, x6⟩ := id X0
  go_wp2_with fail
  clear x0 x1 x2 x3 x4 x5 x6
  refine (exists_no s a o _ HP.out).mono ?_
  rintro e w2 ⟨rfl, hb⟩
  have B2 := Lib.hid (B1.out.up hb)
  have T2 := Lib.hid (T1.out.below hb)
  clear B1 T1 hb
  go_wp2_with fail
  refine (known_any _ T2.out).mono ?_
  rintro e w3 ⟨rfl, hb⟩
  have B3 := Lib.hid (B2.out.up hb)
  clear B2 T2 hb
  go_wp2_with fail
  go_ret
  exact ⟨rfl, B3.out.out⟩
theorem parse_name2 (i k : Nat) (o : Int) (w : World) (hp : Pit (i : Int) ((k : Int) - 2) o) (ht : PW w) :
    Calls Tryd.prog 27 #[.string (nameB i k o)] w fun e w' => e = .returned (.tuple #[.agg #[.int .i64 (i : Int), .int .i64 ((k : Int) - 2), .int .i64 o], .int .i64 0, .int .i64 0]) ∧ Below w.heap.size w w' := by
  have h := parse_name i ((k : Int) - 2) o w hp ht
  rw [show ((k : Int) - 2 + 2).toNat = k by omega] at h
  exact h
theorem refName2 (i k : Nat) (o : Int) (w : World) (hp : Pit (i : Int) ((k : Int) - 2) o) :
    Calls Tryd.prog 28 #[.agg #[.int .i64 (i : Int), .int .i64 ((k : Int) - 2), .int .i64 o]] w fun e w' => e = .returned (.string (nameB i k o)) ∧ Below w.heap.size w w' := by
  have h := refName_ok i ((k : Int) - 2) o w (by have := hp.s1; omega) hp.a0 hp.a1 hp.o0 hp.o1
  rw [show ((k : Int) - 2 + 2).toNat = k by omega] at h
  exact h
set_option maxRecDepth 100000 in
set_option maxHeartbeats 2000000 in
theorem names_yes (i k : Nat) (o : Int) (w : World) (h : Pit (i : Int) ((k : Int) - 2) o) (ht : PW w) :
    Calls Tryd.prog 8 #[.agg #[.int .i64 (i : Int), .int .i64 ((k : Int) - 2), .int .i64 o]] w fun e w' => e = .returned (.bool true) ∧ Below w.heap.size w w' := by
  have HP := Lib.hid h
  have B0 := Lib.hid ((Bel.refl w).alloc (.cells #[.int .i64 (i : Int), .int .i64 ((k : Int) - 2), .int .i64 o] 23))
  have T0 := Lib.hid (ht.below ((Below.refl _ _).alloc (Nat.le_refl _) (.cells #[.int .i64 (i : Int), .int .i64 ((k : Int) - 2), .int .i64 o] 23)))
  have X0 := Tri.new w (.int .i64 (i : Int)) (.int .i64 ((k : Int) - 2)) (.int .i64 o) 23 w.heap.size rfl
  clear ht h
  go_enter Tryd.func8, Tryd.ntmps8
  go_wp2_with fail
  refine (name_ok i k o _ HP.out T0.out).mono ?_
  rintro e w1 ⟨rfl, hb⟩
  have B1 := Lib.hid (B0.out.up hb)
  have T1 := Lib.hid (T0.out.below hb)
  have X1 := X0.up hb
  clear B0 T0 X0 hb
  obtain ⟨x0, x1, x2, x3, x4, x5, x6⟩ := id X1
  go_wp2_with fail
  clear x0 x1 x2 x3 x4 x5 x6
  refine (exists_yes _ _ _ _ HP.out).mono ?_
  rintro e w2 ⟨rfl, hb⟩
  have B2 := Lib.hid (B1.out.up hb)
  have T2 := Lib.hid (T1.out.below hb)
  have X2 := X1.up hb
  clear B1 T1 X1 hb
  obtain ⟨x0, x1, x2, x3, x4, x5, x6⟩ := id X2
  go_wp2_with fail
  clear x0 x1 x2 x3 x4 x5 x6
  refine (parse_name2 i k o _ HP.out T2.out).mono ?_
  rintro e w3 ⟨rfl, hb⟩
  have B3 := Lib.hid ((B2.out.up hb).alloc (.cells #[.int .i64 (i : Int), .int .i64 ((k : Int) - 2), .int .i64 o] 23))
  have T3 := Lib.hid ((T2.out.below hb).below ((Below.refl _ _).alloc (Nat.le_refl _) (.cells #[.int .i64 (i : Int), .int .i64 ((k : Int) - 2), .int .i64 o] 23)))
  have X3 := (X2.up hb).alloc (.cells #[.int .i64 (i : Int), .int .i64 ((k : Int) - 2), .int .i64 o] 23)
  have Y3 := Tri.new w3 (.int .i64 (i : Int)) (.int .i64 ((k : Int) - 2)) (.int .i64 o) 23 w3.heap.size rfl
  clear B2 T2 X2 hb
  obtain ⟨x0, x1, x2, x3, x4, x5, x6⟩ := id X3
  have hnn : ((nameB i k o).toList == (nameB i k o).toList) = true := by simp
  have HR := Lib.hid (fun v => refName2 i k o v HP.out)
  generalize nameB i k o = S at *
  go_wp2_with fail
  clear x0 x1 x2 x3 x4 x5 x6
  refine (known_any _ T3.out).mono ?_
  rintro e w4 ⟨rfl, hb⟩
  have B4 := Lib.hid (B3.out.up hb)
  have X4 := X3.up hb
  have Y4 := Y3.up hb
  clear B3 T3 X3 Y3 hb
  obtain ⟨x0, x1, x2, x3, x4, x5, x6⟩ := id X4
  obtain ⟨y0, y1, y2, y3, y4, y5, y6⟩ := id Y4
  go_wp2_with fail
  clear x0 x1 x2 x3 x4 x5 x6 y0 y1 y2 y3 y4 y5 y6
  refine (HR.out _).mono ?_
  rintro e w5 ⟨rfl, hb⟩
  have B5 := Lib.hid (B4.out.up hb)
  have X5 := X4.up hb
  have Y5 := Y4.up hb
  clear B4 X4 Y4 hb
  obtain ⟨x0, x1, x2, x3, x4, x5, x6⟩ := id X5
  obtain ⟨y0, y1, y2, y3, y4, y5, y6⟩ := id Y5
  go_wp2_with fail
  go_ret
  exact ⟨by first | rfl | simp, B5.out.out⟩
theorem law_PitchNames (s a o : Int) (w : World) (ht : PW w) :
    Calls Tryd.prog 8 #[.agg #[.int .i64 s, .int .i64 a, .int .i64 o]] w fun e w' => e = .returned (.bool true) ∧ Below w.heap.size w w' := by
  by_cases h : Pit s a o
  · obtain ⟨i, rfl⟩ : ∃ i : Nat, s = (i : Int) := ⟨s.toNat, by have := h.s0; omega⟩
    obtain ⟨k, rfl⟩ : ∃ k : Nat, a = (k : Int) - 2 := ⟨(a + 2).toNat, by have := h.a0; omega⟩
    exact names_yes i k o w h ht
  · exact names_no s a o w h ht
end Go.Proofs.YtolfgomlokpopaaDoor
