/- Accidentals: Of. -/
import Derived.Test.YthmdjpfjaojihaaDoorAf
namespace Go.Proofs.YthmdjpfjaojihaaDoor
open Go.RowKit
set_option linter.unusedVariables false
set_option linter.unusedSimpArgs false

theorem wpQuiet_load_mid {P : Program} {ops : Array Oper} {C : World → Prop} {Q : Act → Prop} {a : Act} {op : Oper} {rest : List Oper} (hgd : op.guard = none) (ty : TypeId) (x : Operand) (ho : op.op = .load ty x)
    (b o : Nat) (hx : a.eval x = .pointer (some ⟨b, o, none⟩)) (cs : List Value) (d : TypeDesc) (hS : ∀ w, C w → w.rangeAt b o cs)
    (hu : P.underlying ty = some d) (hd : d.isRow = true) (hi : (P.info? ty).map (·.size) = some cs.length) (h : wpQuiet P ops C Q rest (a.put op.dst (.agg cs.toArray))) : wpQuiet P ops C Q (op :: rest) a :=
  wpQuiet_step fun K hK => by
    simp only [Region.wanted, hgd, if_true]
    refine ⟨_, fun w hw => ?_, hK _ h⟩
    unfold Oper.quietAt execOp
    simp only [ho, hx, Instr.loadAt, Instr.sureAddr, Sem.run_bind, Sem.run_pure, Result.andThen_ok, run_loadVar_mid w b o ty cs d (hS w hw) hu hd hi]
    exact ⟨rfl, rfl⟩
theorem results_tct {fn : Func} {t p u : Tmp} {ty : TypeId} (h : fn.results = #[.tmp t, .cell p ty, .tmp u]) (tmps : Array Value) (P : Program) (w : World) :
    (results fn tmps).run P w =
      ((asAddr (tmps.getD p undef)).run P w).andThen fun a w₁ => ((loadVar ty a).run P w₁).andThen fun v w₂ => .ok (.tuple #[tmps.getD t undef, v, tmps.getD u undef]) w₂ := by
  simp only [results, h]
  simp [Sem.run_bind, Result.andThen]
theorem FilM.asideN {w : World} {b c n : Nat} {ms : Nat → Int × Bool} {L : List Value} (h : FilM w b n ms) (hn : c ≠ b) : FilM (w.setCells c 0 L) b n ms := fun j hj => by
  obtain ⟨⟨h0, h1⟩, h2, h3⟩ := h j hj
  have hcell : ∀ (o : Nat) (v : Value), w.cell? ⟨b, o, none⟩ = some v → (w.setCells c 0 L).cell? ⟨b, o, none⟩ = some v := fun o v hv => by
    have hr : w.rangeAt b o [v] := fun j u hu => by
      cases j with
      | zero => simp at hu; subst hu; simpa using hv
      | succ j => simp at hu
    have := World.rangeAt_setCells_apart hr c 0 L (.inl (fun e => hn e.symm)) 0 v rfl
    simpa using this
  exact ⟨⟨hcell _ _ h0, hcell _ _ h1⟩, by rw [World.frozen?_setCells]; exact h2, by rw [World.frozen?_setCells]; exact h3⟩
set_option maxRecDepth 100000 in
set_option maxHeartbeats 2000000 in
theorem of_y (a : Int) (w : World) (h0 : -2 ≤ a) (h1 : a ≤ 2) :
    Calls Tryd.prog 32 #[.int .i64 a] w fun e w' => e = .returned (.tuple #[.int .i64 (a + 3), .int .i64 0]) ∧ Below w.heap.size w w' := by
  have B0 := Lib.hid (Bel.refl w)
  go_enter Tryd.func32, Tryd.ntmps32
  go_wp2_with fail
  refine (isAlt_y a _ h0 h1).mono ?_
  rintro e w1 ⟨rfl, hb⟩
  have B1 := Lib.hid (B0.out.up hb)
  go_wp2_with fail
  exact bodyPost_ret (v := .tuple #[.int .i64 (a + 3), .int .i64 0]) (by first | (simp [results, Tryd.results32, go_sem]; done) | (simp [results, Tryd.results32, go_sem]; omega)) rfl ⟨rfl, B1.out.out⟩
set_option maxRecDepth 100000 in
set_option maxHeartbeats 2000000 in
theorem of_n (a : Int) (w : World) (h : a < -2 ∨ 2 < a) :
    Calls Tryd.prog 32 #[.int .i64 a] w fun e w' => e = .returned (.tuple #[.int .i64 0, .int .i64 2]) ∧ Below w.heap.size w w' := by
  have B0 := Lib.hid (Bel.refl w)
  have HH := Lib.hid h
  clear h
  go_enter Tryd.func32, Tryd.ntmps32
  go_wp2_with fail
  refine (isAlt_n a _ HH.out).mono ?_
  rintro e w1 ⟨rfl, hb⟩
  have B1 := Lib.hid (B0.out.up hb)
  go_wp2_with fail
  exact bodyPost_ret (v := .tuple #[.int .i64 0, .int .i64 2]) (by first | (simp [results, Tryd.results32, go_sem]; done) | (simp [results, Tryd.results32, go_sem]; omega)) rfl ⟨rfl, B1.out.out⟩
end Go.Proofs.YthmdjpfjaojihaaDoor
