/- Arguments that are spans, places, or slices of such. -/
import Derived.Test.YtabafabebodojaaDoorSk
import Derived.ProofKit
import Derived.OpenShut
import Derived.Lib.SmallJoins
import Derived.Deep.Strs
namespace Go.Proofs.YtabafabebodojaaDoor
open Go.RowKit
set_option linter.unusedVariables false
set_option linter.unusedSimpArgs false

section
open Go.ChangeShapes Go.WideShapes Go.ChangeAt Go.RowKit Go.Joins Go.Deep
variable {H : Type} {enc : TypeId × Value → H} {P : Program} {w : World} {base : Nat} {spare : Nat → Bool} {held : Bool}
/-- an argument that is a slice: its elements, each of them with its cells -/
theorem open_rows {r : Reach} {b0 c : Nat} {t e : TypeId} {v : Value} {d : DataW H} {p : List MemPlace} (ht : P.underlying t = some (.slice e)) (hce : P.cellsOf e = c) (hc0 : 0 < c)
    (hv : Value.okWide P w r b0 t v) (h : DataW.Trod enc P w base spare held t v d p) :
    (∃ ao cap, v = .slice ao 0 cap ∧ cap ≤ maxLen) ∨ ∃ (b off len cap : Nat), v = .slice (some ⟨b, off, none⟩) len cap ∧ 0 < len ∧ len ≤ cap ∧ cap ≤ maxLen ∧
      ∀ k, k < len → ∃ (cs : List Value) (n : Nat) (y : DataW H × List MemPlace), cs.length = c ∧ DataW.trod enc P w base spare held n e cs = some y ∧ ∀ j (x : Value), cs[j]? = some x → w.cell? ⟨b, off + k * c + j, none⟩ = some x := by
  obtain ⟨a0, l0, c0, rfl⟩ := okWide_slice ht hv
  obtain ⟨fuel, hf0⟩ := h
  rcases open_slice ht hf0 with ⟨hcs, hx⟩ | ⟨a, len, cap, m, n, D, Pl, hcs, hb, hl, hm, hmm, hx, hi⟩
  · simp [Value.cells] at hcs
    obtain ⟨rfl, rfl, rfl⟩ := hcs
    exact .inl ⟨_, _, rfl, by simp [maxLen]⟩
  · simp [Value.cells] at hcs
    obtain ⟨rfl, rfl, rfl⟩ := hcs
    by_cases h0 : l0 = 0
    · subst h0; exact .inl ⟨_, _, rfl, hm⟩
    · right
      have hlm : l0 ≤ m := by rw [hmm]; split <;> omega
      have each : ∀ i, i < l0 → ∃ (cs : List Value) (y : DataW H × List MemPlace), cs.length = c ∧ DataW.trod enc P w base spare held n e cs = some y ∧ ∀ j (x : Value), cs[j]? = some x → w.cell? ((a.add (i * c)).add j) = some x := by
        intro i hil
        obtain ⟨cs', hc, ht'⟩ := hi i (by omega)
        rw [hce] at hc
        obtain ⟨_, hcl, hat⟩ := World.cells?_some hc
        refine ⟨cs', _, hcl, ht', fun j x hx => ?_⟩
        have hj := (List.getElem?_eq_some_iff.1 hx).1
        have := hat j (by omega)
        rw [hx] at this
        exact this
      obtain ⟨b, off, spot⟩ := a
      have hspot : spot = none := by
        obtain ⟨cs, y, hcl, _, hat⟩ := each 0 (by omega)
        obtain ⟨x, hx⟩ : ∃ x, cs[0]? = some x := ⟨_, List.getElem?_eq_getElem (by omega)⟩
        have := hat 0 x hx
        simpa [Addr.add] using World.cell?_spot this
      subst hspot
      refine ⟨b, off, l0, c0, rfl, by omega, hl, hm, fun k hk => ?_⟩
      obtain ⟨cs, y, hcl, htr, hat⟩ := each k hk
      refine ⟨cs, n, y, hcl, htr, fun j x hx => ?_⟩
      have := hat j x hx
      rw [add_add, add_plain, ← Nat.add_assoc] at this
      exact this
end
theorem choose_tp {α : Type} {P : Nat → α → Prop} (x0 : α) : ∀ n : Nat, (∀ k, k < n → ∃ x, P k x) → ∃ f : Nat → α, ∀ k, k < n → P k (f k)
  | 0, _ => ⟨fun _ => x0, fun k hk => by omega⟩
  | n + 1, h => by
    obtain ⟨f, hf⟩ := choose_tp x0 n (fun k hk => h k (by omega))
    obtain ⟨x, hx⟩ := h n (by omega)
    refine ⟨fun k => if k = n then x else f k, fun k hk => ?_⟩
    by_cases e : k = n
    · subst e; simpa using hx
    · simp only [e, if_false]; exact hf k (by omega)
/-- a slice of integers -/
def IsAt (w : World) (ad : Option Addr) (n : Nat) (f : Nat → Int) : Prop := ∀ k, k < n → ∃ b off, ad = some ⟨b, off, none⟩ ∧ w.cell? ⟨b, off + k, none⟩ = some (.int .i64 (f k))
theorem IsAt.up {w w' : World} {ad : Option Addr} {n : Nat} {f : Nat → Int} (h : IsAt w ad n f) (hb : Below w.heap.size w w') : IsAt w' ad n f := fun k hk => by
  obtain ⟨b, off, h0, h1⟩ := h k hk
  exact ⟨b, off, h0, cell_up hb h1⟩
theorem IsAt.below {w w' : World} {ad : Option Addr} {n : Nat} {f : Nat → Int} (h : IsAt w ad n f) (hb : Below w.heap.size w w') : IsAt w' ad n f := h.up hb
theorem IsAt.le {w : World} {ad : Option Addr} {n m : Nat} {f : Nat → Int} (h : IsAt w ad n f) (hm : m ≤ n) : IsAt w ad m f := fun k hk => h k (by omega)
section
open Go.ChangeShapes Go.WideShapes Go.ChangeAt Go.RowKit Go.Joins Go.Deep
variable {H : Type} {enc : TypeId × Value → H} {w : World} {base : Nat} {spare : Nat → Bool} {held : Bool}
set_option maxRecDepth 100000 in
theorem open_is {r : Reach} {b0 : Nat} {v : Value} {d : DataW H} {p : List MemPlace}
    (hv : Value.okWide Tryd.prog w r b0 51 v) (h : DataW.Trod enc Tryd.prog w base spare held 51 v d p) :
    ∃ (ad : Option Addr) (n cap : Nat) (f : Nat → Int), v = .slice ad n cap ∧ n ≤ cap ∧ cap ≤ maxLen ∧ IsAt w ad n f := by
  rcases open_rows Tryd.underlying51 (show Tryd.prog.cellsOf 3 = 1 by kernel_rfl) (by omega) hv h with ⟨ao, cap, rfl, hm⟩ | ⟨b, off, len, cap, rfl, h0, hl, hm, hc⟩
  · exact ⟨ao, 0, cap, fun _ => 0, rfl, by omega, hm, fun k hk => by omega⟩
  · obtain ⟨f, hf⟩ := choose_tp (P := fun k (t : Int) => w.cell? ⟨b, off + k, none⟩ = some (.int .i64 t)) 0 len (fun k hk => by
      obtain ⟨cs, n, y, hcl, htr, hat⟩ := hc k hk
      match cs, hcl with
      | [c0], _ =>
        obtain ⟨u0, e0, _, _⟩ := DataW.trod_int Tryd.underlying3 htr
        simp at e0
        subst e0
        exact ⟨u0, by simpa using hat 0 _ rfl⟩)
    exact ⟨_, len, cap, f, rfl, hl, hm, fun k hk => ⟨b, off, rfl, hf k hk⟩⟩
theorem array9 {xs : Array Value} (h : xs.size = 9) : ∃ c0 c1 c2 c3 c4 c5 c6 c7 c8, xs = #[c0, c1, c2, c3, c4, c5, c6, c7, c8] := by
  obtain ⟨l⟩ := xs
  match l, h with
  | [c0, c1, c2, c3, c4, c5, c6, c7, c8], _ => exact ⟨_, _, _, _, _, _, _, _, _, rfl⟩
theorem array4x {xs : Array Value} (h : xs.size = 4) : ∃ c0 c1 c2 c3, xs = #[c0, c1, c2, c3] := by
  obtain ⟨l⟩ := xs
  match l, h with
  | [c0, c1, c2, c3], _ => exact ⟨_, _, _, _, rfl⟩
set_option maxRecDepth 100000 in
theorem open_s {r : Reach} {b0 : Nat} {v : Value} {d : DataW H} {p : List MemPlace}
    (hv : Value.okWide Tryd.prog w r b0 25 v) (h : DataW.Trod enc Tryd.prog w base spare held 25 v d p) : ∃ s : Sp, v = .agg #[.int .i64 s.k, .int .i64 s.f.m, .int .i64 s.f.a, .int .i64 s.f.s, .int .i64 s.f.v, .int .i64 s.t.m, .int .i64 s.t.a, .int .i64 s.t.s, .int .i64 s.t.v] := by
  obtain ⟨cs, rfl, hsz⟩ := okWide_struct Tryd.underlying25 hv
  obtain ⟨c0, c1, c2, c3, c4, c5, c6, c7, c8, rfl⟩ := array9 (hsz.trans (show Tryd.prog.cellsOf 25 = 9 by kernel_rfl))
  obtain ⟨fuel, htr⟩ := h
  simp only [Value.cells] at htr
  have cI : Tryd.prog.cellsOf 3 = 1 := by kernel_rfl
  have cP : Tryd.prog.cellsOf 23 = 4 := by kernel_rfl
  obtain ⟨z0, z1, z2, m, _, _, g0, g1, g2⟩ := trod_struct3 Tryd.underlying25 htr
  obtain ⟨y1, y2, y3, y4, q, _, _, k1, k2, k3, k4⟩ := trod_struct4 Tryd.underlying23 (show DataW.trod enc Tryd.prog w base spare held m 23 [c1, c2, c3, c4] = some z1 by simpa [cI, cP] using g1)
  obtain ⟨y5, y6, y7, y8, q2, _, _, k5, k6, k7, k8⟩ := trod_struct4 Tryd.underlying23 (show DataW.trod enc Tryd.prog w base spare held m 23 [c5, c6, c7, c8] = some z2 by simpa [cI, cP] using g2)
  obtain ⟨u0, e0, _, _⟩ := DataW.trod_int Tryd.underlying3 (show DataW.trod enc Tryd.prog w base spare held m 3 [c0] = some z0 by simpa [cI, cP] using g0)
  obtain ⟨u1, e1, _, _⟩ := DataW.trod_int Tryd.underlying3 (show DataW.trod enc Tryd.prog w base spare held q 3 [c1] = some y1 by simpa [cI, cP] using k1)
  obtain ⟨u2, e2, _, _⟩ := DataW.trod_int Tryd.underlying3 (show DataW.trod enc Tryd.prog w base spare held q 3 [c2] = some y2 by simpa [cI, cP] using k2)
  obtain ⟨u3, e3, _, _⟩ := DataW.trod_int Tryd.underlying3 (show DataW.trod enc Tryd.prog w base spare held q 3 [c3] = some y3 by simpa [cI, cP] using k3)
  obtain ⟨u4, e4, _, _⟩ := DataW.trod_int Tryd.underlying3 (show DataW.trod enc Tryd.prog w base spare held q 3 [c4] = some y4 by simpa [cI, cP] using k4)
  obtain ⟨u5, e5, _, _⟩ := DataW.trod_int Tryd.underlying3 (show DataW.trod enc Tryd.prog w base spare held q2 3 [c5] = some y5 by simpa [cI, cP] using k5)
  obtain ⟨u6, e6, _, _⟩ := DataW.trod_int Tryd.underlying3 (show DataW.trod enc Tryd.prog w base spare held q2 3 [c6] = some y6 by simpa [cI, cP] using k6)
  obtain ⟨u7, e7, _, _⟩ := DataW.trod_int Tryd.underlying3 (show DataW.trod enc Tryd.prog w base spare held q2 3 [c7] = some y7 by simpa [cI, cP] using k7)
  obtain ⟨u8, e8, _, _⟩ := DataW.trod_int Tryd.underlying3 (show DataW.trod enc Tryd.prog w base spare held q2 3 [c8] = some y8 by simpa [cI, cP] using k8)
  simp at e0 e1 e2 e3 e4 e5 e6 e7 e8
  subst e0 e1 e2 e3 e4 e5 e6 e7 e8
  exact ⟨⟨u0, ⟨u1, u2, u3, u4⟩, ⟨u5, u6, u7, u8⟩⟩, rfl⟩
set_option maxRecDepth 100000 in
theorem open_p {r : Reach} {b0 : Nat} {v : Value} {d : DataW H} {p : List MemPlace}
    (hv : Value.okWide Tryd.prog w r b0 23 v) (h : DataW.Trod enc Tryd.prog w base spare held 23 v d p) : ∃ q : Pl, v = .agg #[.int .i64 q.m, .int .i64 q.a, .int .i64 q.s, .int .i64 q.v] := by
  obtain ⟨cs, rfl, hsz⟩ := okWide_struct Tryd.underlying23 hv
  obtain ⟨c1, c2, c3, c4, rfl⟩ := array4x (hsz.trans (show Tryd.prog.cellsOf 23 = 4 by kernel_rfl))
  obtain ⟨fuel, htr⟩ := h
  simp only [Value.cells] at htr
  have cI : Tryd.prog.cellsOf 3 = 1 := by kernel_rfl
  obtain ⟨y1, y2, y3, y4, q, _, _, k1, k2, k3, k4⟩ := trod_struct4 Tryd.underlying23 htr
  obtain ⟨u1, e1, _, _⟩ := DataW.trod_int Tryd.underlying3 (show DataW.trod enc Tryd.prog w base spare held q 3 [c1] = some y1 by simpa [cI] using k1)
  obtain ⟨u2, e2, _, _⟩ := DataW.trod_int Tryd.underlying3 (show DataW.trod enc Tryd.prog w base spare held q 3 [c2] = some y2 by simpa [cI] using k2)
  obtain ⟨u3, e3, _, _⟩ := DataW.trod_int Tryd.underlying3 (show DataW.trod enc Tryd.prog w base spare held q 3 [c3] = some y3 by simpa [cI] using k3)
  obtain ⟨u4, e4, _, _⟩ := DataW.trod_int Tryd.underlying3 (show DataW.trod enc Tryd.prog w base spare held q 3 [c4] = some y4 by simpa [cI] using k4)
  simp at e1 e2 e3 e4
  subst e1 e2 e3 e4
  exact ⟨⟨u1, u2, u3, u4⟩, rfl⟩
set_option maxRecDepth 100000 in
theorem open_ss {r : Reach} {b0 : Nat} {v : Value} {d : DataW H} {p : List MemPlace}
    (hv : Value.okWide Tryd.prog w r b0 40 v) (h : DataW.Trod enc Tryd.prog w base spare held 40 v d p) :
    ∃ (ad : Option Addr) (n cap : Nat) (f : Nat → Sp), v = .slice ad n cap ∧ n ≤ cap ∧ cap ≤ maxLen ∧ SpAt w ad n f := by
  rcases open_rows Tryd.underlying40 (show Tryd.prog.cellsOf 25 = 9 by kernel_rfl) (by omega) hv h with ⟨ao, cap, rfl, hm⟩ | ⟨b, off, len, cap, rfl, h0, hl, hm, hc⟩
  · exact ⟨ao, 0, cap, fun _ => sp0, rfl, by omega, hm, fun k hk => by omega⟩
  · obtain ⟨f, hf⟩ := choose_tp (P := fun k (t : Sp) => w.cell? ⟨b, off + k * 9, none⟩ = some (.int .i64 t.k) ∧ w.cell? ⟨b, off + k * 9 + 1, none⟩ = some (.int .i64 t.f.m) ∧ w.cell? ⟨b, off + k * 9 + 2, none⟩ = some (.int .i64 t.f.a) ∧ w.cell? ⟨b, off + k * 9 + 3, none⟩ = some (.int .i64 t.f.s) ∧ w.cell? ⟨b, off + k * 9 + 4, none⟩ = some (.int .i64 t.f.v) ∧ w.cell? ⟨b, off + k * 9 + 5, none⟩ = some (.int .i64 t.t.m) ∧ w.cell? ⟨b, off + k * 9 + 6, none⟩ = some (.int .i64 t.t.a) ∧ w.cell? ⟨b, off + k * 9 + 7, none⟩ = some (.int .i64 t.t.s) ∧ w.cell? ⟨b, off + k * 9 + 8, none⟩ = some (.int .i64 t.t.v)) sp0 len (fun k hk => by
      obtain ⟨cs, n, y, hcl, htr, hat⟩ := hc k hk
      match cs, hcl with
      | [c0, c1, c2, c3, c4, c5, c6, c7, c8], _ =>
        have cI : Tryd.prog.cellsOf 3 = 1 := by kernel_rfl
        have cP : Tryd.prog.cellsOf 23 = 4 := by kernel_rfl
        obtain ⟨z0, z1, z2, m, _, _, g0, g1, g2⟩ := trod_struct3 Tryd.underlying25 htr
        obtain ⟨y1, y2, y3, y4, q, _, _, k1, k2, k3, k4⟩ := trod_struct4 Tryd.underlying23 (show DataW.trod enc Tryd.prog w base spare held m 23 [c1, c2, c3, c4] = some z1 by simpa [cI, cP] using g1)
        obtain ⟨y5, y6, y7, y8, q2, _, _, k5, k6, k7, k8⟩ := trod_struct4 Tryd.underlying23 (show DataW.trod enc Tryd.prog w base spare held m 23 [c5, c6, c7, c8] = some z2 by simpa [cI, cP] using g2)
        obtain ⟨u0, e0, _, _⟩ := DataW.trod_int Tryd.underlying3 (show DataW.trod enc Tryd.prog w base spare held m 3 [c0] = some z0 by simpa [cI, cP] using g0)
        obtain ⟨u1, e1, _, _⟩ := DataW.trod_int Tryd.underlying3 (show DataW.trod enc Tryd.prog w base spare held q 3 [c1] = some y1 by simpa [cI, cP] using k1)
        obtain ⟨u2, e2, _, _⟩ := DataW.trod_int Tryd.underlying3 (show DataW.trod enc Tryd.prog w base spare held q 3 [c2] = some y2 by simpa [cI, cP] using k2)
        obtain ⟨u3, e3, _, _⟩ := DataW.trod_int Tryd.underlying3 (show DataW.trod enc Tryd.prog w base spare held q 3 [c3] = some y3 by simpa [cI, cP] using k3)
        obtain ⟨u4, e4, _, _⟩ := DataW.trod_int Tryd.underlying3 (show DataW.trod enc Tryd.prog w base spare held q 3 [c4] = some y4 by simpa [cI, cP] using k4)
        obtain ⟨u5, e5, _, _⟩ := DataW.trod_int Tryd.underlying3 (show DataW.trod enc Tryd.prog w base spare held q2 3 [c5] = some y5 by simpa [cI, cP] using k5)
        obtain ⟨u6, e6, _, _⟩ := DataW.trod_int Tryd.underlying3 (show DataW.trod enc Tryd.prog w base spare held q2 3 [c6] = some y6 by simpa [cI, cP] using k6)
        obtain ⟨u7, e7, _, _⟩ := DataW.trod_int Tryd.underlying3 (show DataW.trod enc Tryd.prog w base spare held q2 3 [c7] = some y7 by simpa [cI, cP] using k7)
        obtain ⟨u8, e8, _, _⟩ := DataW.trod_int Tryd.underlying3 (show DataW.trod enc Tryd.prog w base spare held q2 3 [c8] = some y8 by simpa [cI, cP] using k8)
        simp at e0 e1 e2 e3 e4 e5 e6 e7 e8
        subst e0 e1 e2 e3 e4 e5 e6 e7 e8
        exact ⟨⟨u0, ⟨u1, u2, u3, u4⟩, ⟨u5, u6, u7, u8⟩⟩, by simpa using hat 0 _ rfl, by simpa using hat 1 _ rfl, by simpa using hat 2 _ rfl, by simpa using hat 3 _ rfl, by simpa using hat 4 _ rfl, by simpa using hat 5 _ rfl, by simpa using hat 6 _ rfl, by simpa using hat 7 _ rfl, by simpa using hat 8 _ rfl⟩)
    exact ⟨_, len, cap, f, rfl, hl, hm, fun k hk => ⟨b, off, rfl, hf k hk⟩⟩
end
end Go.Proofs.YtabafabebodojaaDoor
