/- Operations that make and fill new blocks. -/
import Derived.Test.YtabafabebodojaaDoorSl
import Derived.Test.YtabafabebodojaaDoorQf
import Derived.Laws.EntriesVeiled
namespace Go.Proofs.YtabafabebodojaaDoor
open Go Go.RowKit
set_option linter.unusedVariables false
set_option linter.unusedSimpArgs false

theorem exec_alloc {P : Program} {o : Oper} {T : TypeId} {zs : List Value} (ho : o.op = .alloc T) (hz : ∀ w : World, (Instr.alloc T true (.tuple #[])).run P w = .ok (.pointer (some ⟨w.heap.size, 0, none⟩)) (w.alloc (.cells zs.toArray T))) (a : Act) (w : World) :
    (execOp a.eval o).run P w = .ok (.value (.pointer (some ⟨w.heap.size, 0, none⟩))) (w.alloc (.cells zs.toArray T)) := by
  unfold execOp
  simp only [ho, Sem.run_bind, hz, Result.andThen_ok, Sem.run_pure]
theorem exec_store {P : Program} {o : Oper} {T : TypeId} {x y : Operand} {b : Nat} {cs : List Value} {a : Act} {w : World} (ho : o.op = .store T x y) (hx : a.eval x = .pointer (some ⟨b, 0, none⟩)) (hy : a.eval y = .agg cs.toArray)
    (ht : w.there b 0 cs.length) (hi : (P.info? T).map (·.size) = some cs.length) (h1 : cs.toArray.all (·.oneCell') = true) :
    (execOp a.eval o).run P w = .ok .skip (w.setCells b 0 cs) := by
  unfold execOp
  have := run_storeAt_mid (P := P) w b 0 T cs.toArray (by simpa using ht) (by simpa using hi) h1
  simp only [ho, hx, hy, Sem.run_bind, this, Result.andThen_ok, Sem.run_pure]
theorem storeAt_func {P : Program} {w : World} {b : Nat} {T : TypeId} {fn : Fn} {c d : Array Value} (hi : (P.info? T).map (·.size) = some 1) (ht : w.there b 0 1) :
    (Instr.storeAt T (.pointer (some ⟨b, 0, none⟩)) (.func fn c d)).run P w = .ok () (w.setCells b 0 [.func fn c d]) := by
  obtain ⟨h1, h2⟩ := ht 0 (by omega)
  obtain ⟨u, hu⟩ := Option.isSome_iff_exists.1 h1
  have hu' : w.cell? ⟨b, 0, none⟩ = some u := by simpa using hu
  have hf : w.frozen? ⟨b, 0, none⟩ = false := by simpa using h2
  cases hq : P.info? T with
  | none => simp [hq] at hi
  | some i =>
    have hs : i.size = 1 := by simpa [hq] using hi
    simp [Instr.storeAt, Instr.sureAddr, storeVar, sizeOf, typeInfo, hq, hs, Value.cells, go_sem, hu', hf, World.setCells]
theorem exec_storeF {P : Program} {o : Oper} {T : TypeId} {x y : Operand} {b : Nat} {fn : Fn} {c d : Array Value} {a : Act} {w : World} (ho : o.op = .store T x y) (hx : a.eval x = .pointer (some ⟨b, 0, none⟩)) (hy : a.eval y = .func fn c d)
    (ht : w.there b 0 1) (hi : (P.info? T).map (·.size) = some 1) :
    (execOp a.eval o).run P w = .ok .skip (w.setCells b 0 [.func fn c d]) := by
  unfold execOp
  have := storeAt_func (P := P) (w := w) (b := b) (T := T) (fn := fn) (c := c) (d := d) hi ht
  simp only [ho, hx, hy, Sem.run_bind, this, Result.andThen_ok, Sem.run_pure]
theorem allocG (w : World) : (Instr.alloc 82 true (.tuple #[])).run Tryd.prog w = .ok (.pointer (some ⟨w.heap.size, 0, none⟩)) (w.alloc (.cells [.int .i64 0, .int .i64 0, .int .i64 0].toArray 82)) := by
  simp [go_sem]
theorem allocF (w : World) : (Instr.alloc 39 true (.tuple #[])).run Tryd.prog w = .ok (.pointer (some ⟨w.heap.size, 0, none⟩)) (w.alloc (.cells [.nilFunc].toArray 39)) := by
  simp [go_sem]
theorem infoG1 : (Tryd.prog.info? 82).map (·.size) = some 3 := by kernel_rfl
theorem infoF1 : (Tryd.prog.info? 39).map (·.size) = some 1 := by kernel_rfl
end Go.Proofs.YtabafabebodojaaDoor
