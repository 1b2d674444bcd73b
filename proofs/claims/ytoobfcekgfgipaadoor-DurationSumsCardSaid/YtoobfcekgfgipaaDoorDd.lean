/- Note values: Find. -/
import Derived.Test.YtoobfcekgfgipaaDoorDc
namespace Go.Proofs.YtoobfcekgfgipaaDoor
open Go.RowKit Go.Shelf
set_option linter.unusedVariables false
set_option linter.unusedSimpArgs false

attribute [local go_sem] Oper.semAt_some
/-- what Find's loop keeps: the box of the number, the cells of the results -/
structure FI (w : World) (t : Int) (a b c : Int) (W : World) : Prop where
  bel : Below w.heap.size w W
  tk : W.cell? ⟨w.heap.size, 0, none⟩ = some (.int .i64 t)
  r0 : W.cell? ⟨w.heap.size + 1, 0, none⟩ = some (.int .i64 a)
  r1 : W.cell? ⟨w.heap.size + 1, 1, none⟩ = some (.int .i64 b)
  r2 : W.cell? ⟨w.heap.size + 1 + 1, 0, none⟩ = some (.int .i64 c)
  f0 : W.frozen? ⟨w.heap.size + 1, 0, none⟩ = false
  f1 : W.frozen? ⟨w.heap.size + 1, 1, none⟩ = false
  f2 : W.frozen? ⟨w.heap.size + 1 + 1, 0, none⟩ = false
theorem FI.own {β : Type} {w : World} {t a b c : Int} : OwnFrom (w.heap.size + 3) (fun (_ : β) W => FI w t a b c W) := by
  intro s W W' row h hg hr
  have hr2 : ∀ r, row = some r → ∃ o : Obj, W.heap[r]? = some o ∧ o.isCells = false := fun r e => (hr r e).2
  refine ⟨?_, cell_kept h.tk hg hr2, cell_kept h.r0 hg hr2, cell_kept h.r1 hg hr2, cell_kept h.r2 hg hr2, (frozen_kept h.r0 hg hr2).trans h.f0, (frozen_kept h.r1 hg hr2).trans h.f1, (frozen_kept h.r2 hg hr2).trans h.f2⟩
  exact ownFrom_below (β := Unit) (n₀ := w.heap.size) (w₀ := w) (B := w.heap.size + 3) (Nat.le_refl _) (by omega) () W W' row h.bel hg hr
theorem FI.up {w W W' : World} {t a b c : Int} (h : FI w t a b c W) (hb : Below W.heap.size W W') : FI w t a b c W' :=
  ⟨Bel.up h.bel hb, cell_up hb h.tk, cell_up hb h.r0, cell_up hb h.r1, cell_up hb h.r2, (hb.frozen (p := ⟨w.heap.size + 1, 0, none⟩) (lt_of_cell h.r0)).trans h.f0, (hb.frozen (p := ⟨w.heap.size + 1, 1, none⟩) (lt_of_cell h.r1)).trans h.f1, (hb.frozen (p := ⟨w.heap.size + 1 + 1, 0, none⟩) (lt_of_cell h.r2)).trans h.f2⟩
theorem FI.sz {w W : World} {t a b c : Int} (h : FI w t a b c W) : w.heap.size + 2 < W.heap.size := lt_of_cell h.r2
theorem FI.start (w : World) (t : Int) (t1 t2 t3 : TypeId) : FI w t 0 0 0 (((w.alloc (.cells #[.int .i64 t] t1)).alloc (.cells #[.int .i64 0, .int .i64 0] t2)).alloc (.cells #[.int .i64 0] t3)) := by
  refine ⟨((((Below.refl _ w).alloc (Nat.le_refl _) _).alloc (by simp) _).alloc (by simp; omega) _), ?_, ?_, ?_, ?_, ?_, ?_, ?_⟩ <;> simp [go_sem]
theorem FI.put {w W : World} {t a b c a' b' c' : Int} (h : FI w t a b c W) : FI w t a' b' c' (((W.setCell ⟨w.heap.size + 1, 0, none⟩ (.int .i64 a')).setCell ⟨w.heap.size + 1, 1, none⟩ (.int .i64 b')).setCell ⟨w.heap.size + 1 + 1, 0, none⟩ (.int .i64 c')) := by
  obtain ⟨h0, h1, h2, h3, h4, h5, h6, h7⟩ := h
  refine ⟨((h0.setCell (by simp) _).setCell (by simp) _).setCell (by simp; omega) _, ?_, ?_, ?_, ?_, ?_, ?_, ?_⟩ <;> simp [go_sem, *]
theorem below_drew {B : Nat} {a w : World} (h : Below B a w) : Below B a w.drew := ⟨h.os, h.tape, h.output, h.size, h.block⟩
theorem keepsOthers_of_below {W W' : World} (h : Below W.heap.size W W') : KeepsOthers W W' := ⟨h.size, fun k o hk _ => (h.block k (Array.getElem?_eq_some_iff.1 hk).1).trans hk⟩
/-- what Find answers -/
def FindR (t : Int) (w : World) (e : Ending) (w' : World) : Prop :=
  ((∃ x : Fin 40, lenV (lgV x) (dtV x) = t ∧ e = .returned (.tuple #[.agg #[.int .i64 (lgV x), .int .i64 (dtV x)], .int .i64 0])) ∨
    ((∀ x : Fin 40, lenV (lgV x) (dtV x) ≠ t) ∧ e = .returned (.tuple #[.agg #[.int .i64 0, .int .i64 0], .int .i64 17]))) ∧ Below w.heap.size w w'
theorem mem_upV40 (x : Fin 40) : x ∈ upV 40 := by
  unfold upV
  rw [List.take_of_length_le (by simp)]
  exact List.mem_finRange x
set_option maxRecDepth 100000 in
set_option maxHeartbeats 4000000 in
theorem find_ok (t : Int) (w : World) :
    Calls Tryd.prog 13 #[.int .i64 t] w (FindR t w) := by
  have h1 : 1 ≤ 3 := by omega
  refine (callsIn_wide (n := 3)).1 ?_
  refine callsIn_of_wp_marks Tryd.func13 rfl trivial ?_ rfl
  simp only [Tryd.ntmps13, List.size_toArray, List.length_cons, List.length_nil, Nat.reduceAdd, Nat.reduceSub, Array.replicate_succ, Array.replicate_zero, List.push_toArray, List.append_toArray, List.nil_append, List.cons_append]
  gi_wp2_with (refine ⟨trivial, ?_⟩; gi_at_call 27; refine (values_in Fence.wide (3 - 1) trivial rfl _).mono ?_; rintro e w' ⟨rfl, rfl⟩)
  have F0 := FI.start w t 3 23 24
  obtain ⟨W0, hW0⟩ : ∃ W0, (((w.alloc (.cells #[.int .i64 t] 3)).alloc (.cells #[.int .i64 0, .int .i64 0] 23)).alloc (.cells #[.int .i64 0] 24)) = W0 := ⟨_, rfl⟩
  have s3 : W0.heap.size = w.heap.size + 3 := by rw [← hW0]; simp
  rw [hW0] at F0 ⊢
  clear hW0
  refine wpIn_rangeFunc_ownH (Kp := fun _ _ => True) rfl h1 (gf := 34) (lb := #[]) rfl trivial (enters_of Tryd.func34 (by kernel_rfl) rfl)
    (encs := encV) (S := fun ys => ys = upV 40) (Sp := fun pre => ∃ k, k ≤ 40 ∧ pre = upV k) (N := 40) (w0 := W0)
    (fun l J Jx W _ _ _ hY h0 => values1_in Fence.wide (3 - 1) trivial rfl (by omega) l (fun _ _ => True) J Jx hY W h0)
    (fun _ _ => trivial) (fun _ _ _ _ _ _ _ _ => trivial) (Below.refl _ _) (fun x => rfl)
    (fun pre W => (∀ y ∈ pre, lenV (lgV y) (dtV y) ≠ t) ∧ FI w t 0 0 0 W)
    (fun c _ W => c = .ret ∧ ∃ y : Fin 40, lenV (lgV y) (dtV y) = t ∧ FI w t (lgV y) (dtV y) 0 W)
    (by rw [s3]; exact OwnFrom.and (fun _ _ _ _ h _ _ => h) FI.own)
    (by
      rw [s3]
      intro c s W W' row h hg hr
      obtain ⟨hc, y, hy, hF⟩ := h
      exact ⟨hc, y, hy, FI.own (β := Unit) () W W' row hF hg hr⟩)
    ⟨(fun y hy => by cases hy), F0⟩
    (fun x a' W => ∃ q : Nat, a' = { tmps := #[.int .i64 t, .pointer (some ⟨w.heap.size, 0, none⟩), .pointer (some ⟨w.heap.size + 1, 0, none⟩), .pointer (some ⟨w.heap.size + 1 + 1, 0, none⟩), .pointer (some ⟨q, 0, none⟩), .func (.func 34) #[] #[], .agg #[.int .i64 (lgV x), .int .i64 (dtV x)], undef, undef, undef, undef, undef, undef], defers := [] } ∧ w.heap.size + 3 ≤ q ∧ W.cell? ⟨q, 0, none⟩ = some (.int .i64 (lgV x)) ∧ W.cell? ⟨q, 1, none⟩ = some (.int .i64 (dtV x)))
    (by
      intro x a' s W W' row h hg hr
      obtain ⟨q, h0, h1, h2, h3⟩ := h
      have hr2 : ∀ r, row = some r → ∃ o : Obj, W.heap[r]? = some o ∧ o.isCells = false := fun r e => (hr r e).2
      exact ⟨q, h0, h1, cell_kept h2 hg hr2, cell_kept h3 hg hr2⟩)
    ?assign ?body ?done ?stop
  case assign =>
    rintro l pre x W K ⟨hne, hF⟩ hK
    have hsz := hF.sz
    have hup : Below W.heap.size W (W.alloc (.cells #[.int .i64 (lgV x), .int .i64 (dtV x)] 23)) := (Below.refl _ W).alloc (Nat.le_refl _) _
    simp only [encV]
    gi_wp2
    refine hK _ _ ((KeepsOthers.alloc _ _).from _) trivial ⟨hne, hF.up hup⟩ ⟨W.heap.size, rfl, by omega, by simp [go_sem], by simp [go_sem]⟩
  case body =>
    rintro l pre x a' W _ _ ⟨hne, hF⟩ ⟨q, rfl, hq, v0, v1⟩ _
    have hv := va_at x
    have hqW : q < W.heap.size := lt_of_cell v0
    have tk := hF.tk
    have HF := Lib.hid hF
    have HNE := Lib.hid hne
    generalize hL : lgV x = L at *
    generalize hD : dtV x = D at *
    clear hF hne
    by_cases hx : lenV L D = t
    · have hxb : (lenV L D == t) = true := by simpa using hx
      gi_wp2
      gi_region_with ((refine ⟨trivial, ?_⟩; gi_at_call 25; refine (CallsIn.inRound l (callsIn_wide.2 (length_ok L D _ hv))).mono ?_; rintro e W1 ⟨rfl, hb⟩; have tk1 := cell_up hb tk))
      all_goals
        have hbW : Below W.heap.size W W1 := (below_drew (Below.refl _ W)).trans hb
        have hF1 := HF.out.up hbW
        obtain ⟨_, _, r0, r1, r2, f0, f1, f2⟩ := id hF1
        have y0 := cell_up hbW v0
        have y1 := cell_up hbW v1
        have FP := Lib.hid (FI.put hF1 (a' := L) (b' := D) (c' := 0))
        have KB := Lib.hid ((((keepsOthers_of_below hbW).trans (KeepsOthers.setCell W1 ⟨w.heap.size + 1, 0, none⟩ (.int .i64 L))).trans (KeepsOthers.setCell _ ⟨w.heap.size + 1, 1, none⟩ (.int .i64 D))).trans (KeepsOthers.setCell _ ⟨w.heap.size + 1 + 1, 0, none⟩ (.int .i64 0)))
        clear hF1
        gi_wp2
        exact ⟨KB.out.from _, rfl, x, by rw [hL, hD]; exact hx, by rw [hL, hD]; exact FP.out⟩
    · have hxb : (lenV L D == t) = false := by simpa using hx
      gi_wp2
      gi_region_with ((refine ⟨trivial, ?_⟩; gi_at_call 25; refine (CallsIn.inRound l (callsIn_wide.2 (length_ok L D _ hv))).mono ?_; rintro e W1 ⟨rfl, hb⟩; have tk1 := cell_up hb tk))
      all_goals
        have hbW : Below W.heap.size W W1 := (below_drew (Below.refl _ W)).trans hb
        have hF1 := Lib.hid (HF.out.up hbW)
        gi_wp2
        refine ⟨(keepsOthers_of_below hbW).from _, trivial, fun y hy => ?_, hF1.out⟩
        rcases List.mem_append.1 hy with h | h
        · exact HNE.out y h
        · simp at h
          subst h
          rw [hL, hD]
          exact hx
  case done =>
    rintro D xs W hD rfl ⟨hne, hF⟩ hK
    obtain ⟨_, _, r0, r1, r2, f0, f1, f2⟩ := id hF
    have FP := Lib.hid (FI.put hF (a' := 0) (b' := 0) (c' := 17))
    have KB := Lib.hid (((KeepsOthers.setCell W ⟨w.heap.size + 1, 0, none⟩ (.int .i64 0)).trans (KeepsOthers.setCell _ ⟨w.heap.size + 1, 1, none⟩ (.int .i64 0))).trans (KeepsOthers.setCell _ ⟨w.heap.size + 1 + 1, 0, none⟩ (.int .i64 17)))
    have HNE := Lib.hid hne
    clear hF hne
    gi_wp2
    have hK2 := KB.out.same D _ hK rfl
    have FP2 := OwnFrom.putObj (β := Unit) FI.own (s := ()) (.deferred none) FP.out (by omega) hK2 rfl
    refine ⟨by simp, .inl ⟨_, _, rfl, run_takeDeferred hK2, ?_⟩⟩
    obtain ⟨b0, _, q0, q1, q2, _, _, _⟩ := id FP2
    refine ⟨.tuple #[.agg #[.int .i64 0, .int .i64 0], .int .i64 17], ?_, ⟨.inr ⟨fun x => HNE.out x (mem_upV40 x), rfl⟩, b0⟩⟩
    first | (simp [results, Tryd.results13, go_sem, q0, q1, q2]; done) | (simp [results, Tryd.f13, go_sem, q0, q1, q2]; done)
  case stop =>
    rintro D c pre W hD _ ⟨rfl, y, hy, hF⟩ hK
    gi_wp2
    have FP2 := OwnFrom.putObj (β := Unit) FI.own (s := ()) (.deferred none) hF (by omega) hK rfl
    refine ⟨by simp, .inl ⟨_, _, rfl, run_takeDeferred hK, ?_⟩⟩
    obtain ⟨b0, _, q0, q1, q2, _, _, _⟩ := id FP2
    refine ⟨.tuple #[.agg #[.int .i64 (lgV y), .int .i64 (dtV y)], .int .i64 0], ?_, ⟨.inl ⟨y, hy, rfl⟩, b0⟩⟩
    first | (simp [results, Tryd.results13, go_sem, q0, q1, q2]; done) | (simp [results, Tryd.f13, go_sem, q0, q1, q2]; done)
end Go.Proofs.YtoobfcekgfgipaaDoor
