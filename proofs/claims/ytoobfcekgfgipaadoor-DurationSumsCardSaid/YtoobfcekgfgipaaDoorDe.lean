/- Note values: the beginnings of lists. -/
import Derived.Test.YtoobfcekgfgipaaDoorDd
import Derived.Outline
namespace Go.Proofs.YtoobfcekgfgipaaDoor
open Go.RowKit
set_option linter.unusedVariables false
set_option linter.unusedSimpArgs false

/-- whether a note value has a duration, and which -/
def hasV (t : Int) : Bool := decide (∃ x : Fin 40, lenV (lgV x) (dtV x) = t)
/-- three cells of a block that the call made -/
structure Thr (w : World) (b : Nat) (x y z : Value) : Prop where
  c0 : w.cell? ⟨b, 0, none⟩ = some x
  c1 : w.cell? ⟨b, 1, none⟩ = some y
  c2 : w.cell? ⟨b, 2, none⟩ = some z
  f0 : w.frozen? ⟨b, 0, none⟩ = false
  f1 : w.frozen? ⟨b, 1, none⟩ = false
  f2 : w.frozen? ⟨b, 2, none⟩ = false
theorem Thr.up {w w' : World} {b : Nat} {x y z : Value} (h : Thr w b x y z) (hb : Below w.heap.size w w') : Thr w' b x y z :=
  ⟨cell_up hb h.c0, cell_up hb h.c1, cell_up hb h.c2, (hb.frozen (p := ⟨b, 0, none⟩) (lt_of_cell h.c0)).trans h.f0, (hb.frozen (p := ⟨b, 1, none⟩) (lt_of_cell h.c1)).trans h.f1, (hb.frozen (p := ⟨b, 2, none⟩) (lt_of_cell h.c2)).trans h.f2⟩
theorem Thr.new (w : World) (x y z : Value) (t : TypeId) (n : Nat) (hn : n = w.heap.size) : Thr (w.alloc (.cells #[x, y, z] t)) n x y z := by
  subst hn
  refine ⟨?_, ?_, ?_, ?_, ?_, ?_⟩ <;> simp [go_sem]
theorem Thr.put {w : World} {b : Nat} {x y z x' y' z' : Value} (h : Thr w b x y z) : Thr (((w.setCell ⟨b, 0, none⟩ x').setCell ⟨b, 1, none⟩ y').setCell ⟨b, 2, none⟩ z') b x' y' z' := by
  obtain ⟨h0, h1, h2, h3, h4, h5⟩ := h
  refine ⟨?_, ?_, ?_, ?_, ?_, ?_⟩ <;> simp [go_sem, *]
set_option maxRecDepth 100000 in
set_option maxHeartbeats 2000000 in
theorem first_0 (t : Int) (m : Value) (w : World) :
    Calls Tryd.prog 32 #[m, .agg #[.int .i64 t, .int .i64 0]] w fun e w' => e = .returned (.agg #[.int .i64 0, .int .i64 0, .bool (t == 0)]) ∧ Below w.heap.size w w' := by
  have B0 := Lib.hid (((Bel.refl w).alloc (.cells #[.int .i64 t, .int .i64 0] 63)).alloc (.cells #[.int .i64 0, .int .i64 0, .bool (t == 0)] 60))
  go_enter Tryd.func32, Tryd.ntmps32
  go_wp2_with fail
  exact bodyPost_ret (v := .agg #[.int .i64 0, .int .i64 0, .bool (t == 0)]) (by simp [results, Tryd.results32, go_sem]) rfl ⟨rfl, B0.out.out⟩
set_option maxRecDepth 100000 in
set_option maxHeartbeats 2000000 in
theorem first_1 (t : Int) (m : Value) (w : World) :
    Calls Tryd.prog 32 #[m, .agg #[.int .i64 t, .int .i64 1]] w fun e w' =>
      ((∃ x : Fin 40, lenV (lgV x) (dtV x) = t ∧ e = .returned (.agg #[.int .i64 (lgV x), .int .i64 (dtV x), .bool true])) ∨
       ((∀ x : Fin 40, lenV (lgV x) (dtV x) ≠ t) ∧ e = .returned (.agg #[.int .i64 0, .int .i64 0, .bool false]))) ∧ Below w.heap.size w w' := by
  have B0 := Lib.hid (((Bel.refl w).alloc (.cells #[.int .i64 t, .int .i64 1] 63)).alloc (.cells #[.int .i64 0, .int .i64 0, .bool false] 60))
  have T0 := Lib.hid (Thr.new (w.alloc (.cells #[.int .i64 t, .int .i64 1] 63)) (.int .i64 0) (.int .i64 0) (.bool false) 60 (w.heap.size + 1) (by simp))
  go_enter Tryd.func32, Tryd.ntmps32
  go_wp2_with fail
  refine (find_ok t _).mono ?_
  rintro e w1 ⟨⟨x, hx, rfl⟩ | ⟨hn, rfl⟩, hb⟩
  · obtain ⟨L, hL⟩ : ∃ L, lgV x = L := ⟨_, rfl⟩
    obtain ⟨D, hD⟩ : ∃ D, dtV x = D := ⟨_, rfl⟩
    have HX := Lib.hid hx
    have HL := Lib.hid hL
    have HD := Lib.hid hD
    rw [hL, hD]
    clear hx hL hD
    have T1 := Lib.hid (T0.out.up hb)
    have hlt : w.heap.size + 1 < w1.heap.size := lt_of_cell T1.out.c0
    have hne : w.heap.size + 1 ≠ w1.heap.size := by omega
    have hne2 : w1.heap.size ≠ w.heap.size + 1 := by omega
    have B2 := Lib.hid (((((B0.out.up hb).set (b := w.heap.size + 1) (by omega) 0 (.int .i64 L)).set (b := w.heap.size + 1) (by omega) 1 (.int .i64 D)).set (b := w.heap.size + 1) (by omega) 2 (.bool true)).alloc (.cells #[.int .i64 L, .int .i64 D] 23))
    have T2 := Lib.hid ((T1.out.put (x' := .int .i64 L) (y' := .int .i64 D) (z' := .bool true)).up ((Below.refl _ _).alloc (Nat.le_refl _) (.cells #[.int .i64 L, .int .i64 D] 23)))
    obtain ⟨d0, d1, d2, g0, g1, g2⟩ := id T1.out
    clear hb
    go_wp2_with fail
    exact bodyPost_ret (v := .agg #[.int .i64 L, .int .i64 D, .bool true]) (by simp [results, Tryd.results32, go_sem, T2.out.c0, T2.out.c1, T2.out.c2]) rfl ⟨.inl ⟨x, HX.out, by rw [HL.out, HD.out]⟩, B2.out.out⟩
  · have HN := Lib.hid hn
    clear hn
    have T1 := Lib.hid (T0.out.up hb)
    have hlt : w.heap.size + 1 < w1.heap.size := lt_of_cell T1.out.c0
    have hne : w.heap.size + 1 ≠ w1.heap.size := by omega
    have hne2 : w1.heap.size ≠ w.heap.size + 1 := by omega
    have B2 := Lib.hid (((((B0.out.up hb).set (b := w.heap.size + 1) (by omega) 0 (.int .i64 0)).set (b := w.heap.size + 1) (by omega) 1 (.int .i64 0)).set (b := w.heap.size + 1) (by omega) 2 (.bool false)).alloc (.cells #[.int .i64 0, .int .i64 0] 23))
    have T2 := Lib.hid ((T1.out.put (x' := .int .i64 0) (y' := .int .i64 0) (z' := .bool false)).up ((Below.refl _ _).alloc (Nat.le_refl _) (.cells #[.int .i64 0, .int .i64 0] 23)))
    obtain ⟨d0, d1, d2, g0, g1, g2⟩ := id T1.out
    clear hb
    go_wp2_with fail
    exact bodyPost_ret (v := .agg #[.int .i64 0, .int .i64 0, .bool false]) (by simp [results, Tryd.results32, go_sem, T2.out.c0, T2.out.c1, T2.out.c2]) rfl ⟨.inr ⟨HN.out, rfl⟩, B2.out.out⟩
end Go.Proofs.YtoobfcekgfgipaaDoor
