/- Spans: groups as keys. -/
import Derived.Test.YtabafabebodojaaDoorSk
import Derived.DeepKeys4
import Derived.Maps.Keyed
namespace Go.Proofs.YtabafabebodojaaDoor
open Go Go.RowKit Go.MapKept
open Go.Maps (Keyed)
set_option linter.unusedVariables false
set_option linter.unusedSimpArgs false

def gv (g : Gr) : Value := .agg #[.int .i64 g.k, .int .i64 g.s, .int .i64 g.v]
def okG (g : Gr) : Prop := (Lit.int .i64 g.k).wf = true ∧ (Lit.int .i64 g.s).wf = true ∧ (Lit.int .i64 g.v).wf = true
theorem laidOutP : laidOutB Tryd.prog = true := by kernel_rfl
theorem rowG : (82 : TypeId) < Tryd.prog.types.size := of_decide_eq_true (by kernel_rfl)
set_option maxRecDepth 100000 in
theorem wideG : (match Tryd.prog.underlying 82 with | some (.array _ _) | some (.struct _) => true | _ => false) = true := by rw [Tryd.underlying82]
set_option maxRecDepth 100000 in
theorem lawG : Keyed Tryd.prog 82 := Keyed.of_law (deep_law_laid laidOutP (m := 2) (by omega) rowG (by kernel_rfl) wideG)
theorem cellsG : Tryd.prog.cellsOf 82 = 3 := by kernel_rfl
theorem cellsI : Tryd.prog.cellsOf 3 = 1 := by kernel_rfl
theorem key_g (g : Gr) (h : okG g) : ∃ l, keyOf Tryd.prog 82 (gv g) = some l := by
  obtain ⟨h1, h2, h3⟩ := h
  obtain ⟨m, hm⟩ : ∃ m, Tryd.prog.types.size + 1 = m + 2 := ⟨Tryd.prog.types.size - 1, by have h : 0 < Tryd.prog.types.size := Nat.lt_of_le_of_lt (Nat.zero_le _) rowG; omega⟩
  have hf : Value.formed Tryd.prog 82 (.agg #[.int .i64 g.k, .int .i64 g.s, .int .i64 g.v]) = true := by simp [Value.formed, Tryd.underlying82, cellsG]
  have hk : Tryd.prog.keyType 82 = true := by kernel_rfl
  unfold keyOf
  rw [hm]
  simp [Tryd.underlying82, hf, hk, gv, Value.cells, Program.keyLits, Tryd.underlying3, cellsG, cellsI, h1, h2, h3]
theorem gv_inj (g g' : Gr) (h : gv g = gv g') : g = g' := by
  cases g; cases g'
  simp [gv] at h
  simp [h]
theorem zeroSl (w : World) : (zeroValue 43).run Tryd.prog w = .ok (.slice none 0 0) w := by kernel_rfl
abbrev GsP (w : World) (base b : Nat) (G : Gr → List Sp) : Prop := Gs gv okG spc 31 9 w base b G
theorem ok_grp {s : Sp} (h : proper s = 0) : okG (grp s) ∧ isK s.k = true := by
  have hk : isK s.k = true := by
    cases e : isK s.k
    · simp [proper, e] at h
    · rfl
  have hf : isP s.f = true := by
    cases e : isP s.f
    · simp [proper, hk, e] at h
    · rfl
  refine ⟨?_, hk⟩
  simp only [isK, isP, upTo, Bool.and_eq_true, decide_eq_true_eq] at hk hf
  unfold okG grp gK
  refine ⟨WalkArith.wf_i64 ?_, WalkArith.wf_i64 (by simp only; omega), WalkArith.wf_i64 ?_⟩
  · simp only
    repeat' split
    all_goals omega
  · simp only
    split <;> omega
theorem er_ok {f : Nat → Sp} {k : Nat} (h : er f k = 0) : proper (f k) = 0 ∧ cl f k = false := by
  unfold er at h
  split at h
  · omega
  · rename_i h0
    refine ⟨by omega, ?_⟩
    cases e : cl f k
    · rfl
    · rw [if_pos e] at h; omega
end Go.Proofs.YtabafabebodojaaDoor
