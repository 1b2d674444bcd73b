/- Note values: search for a list of two. -/
import Derived.Test.YtoobfcekgfgipaaDoorDe
namespace Go.Proofs.YtoobfcekgfgipaaDoor
open Go.RowKit Go.Shelf
set_option linter.unusedVariables false
set_option linter.unusedSimpArgs false

attribute [local go_sem] Oper.semAt_some
theorem fld1 (a b : Int) (c : Bool) (w : World) : (Instr.field 60 (.agg #[.int .i64 a, .int .i64 b, .bool c]) 1).run Tryd.prog w = .ok (.bool c) w := by kernel_rfl
theorem fld0 (a b : Int) (c : Bool) (w : World) : (Instr.field 60 (.agg #[.int .i64 a, .int .i64 b, .bool c]) 0).run Tryd.prog w = .ok (.agg #[.int .i64 a, .int .i64 b]) w := by kernel_rfl
theorem lenV_inj : ∀ x y : Fin 40, lenV (lgV x) (dtV x) = lenV (lgV y) (dtV y) → x = y := by decide +kernel
theorem first_1y (t : Int) (m : Value) (z : Fin 40) (w : World) (hz : lenV (lgV z) (dtV z) = t) :
    Calls Tryd.prog 32 #[m, .agg #[.int .i64 t, .int .i64 1]] w fun e w' => e = .returned (.agg #[.int .i64 (lgV z), .int .i64 (dtV z), .bool true]) ∧ Below w.heap.size w w' :=
  (first_1 t m w).mono fun e w' ⟨h, hb⟩ => by
    rcases h with ⟨x, hx, he⟩ | ⟨hn, _⟩
    · have := lenV_inj x z (hx.trans hz.symm)
      subst this
      exact ⟨he, hb⟩
    · exact absurd hz (hn z)
theorem first_1n (t : Int) (m : Value) (w : World) (hn : ∀ x : Fin 40, lenV (lgV x) (dtV x) ≠ t) :
    Calls Tryd.prog 32 #[m, .agg #[.int .i64 t, .int .i64 1]] w fun e w' => e = .returned (.agg #[.int .i64 0, .int .i64 0, .bool false]) ∧ Below w.heap.size w w' :=
  (first_1 t m w).mono fun e w' ⟨h, hb⟩ => by
    rcases h with ⟨x, hx, _⟩ | ⟨_, he⟩
    · exact absurd hx (hn x)
    · exact ⟨he, hb⟩
theorem mem_upV {y : Fin 40} {k : Nat} (h : y.val < k) : y ∈ upV k := by
  refine List.mem_iff_getElem?.2 ⟨y.val, ?_⟩
  unfold upV
  rw [List.getElem?_take, if_pos h]
  simp
theorem upV_last {k : Nat} {pre : List (Fin 40)} {x : Fin 40} (hk : k ≤ 40) (h : pre ++ [x] = upV k) : pre = upV (k - 1) ∧ x.val = k - 1 := by
  cases k with
  | zero => simp [upV] at h
  | succ k =>
    rw [upV_succ (by omega)] at h
    obtain ⟨h1, h2⟩ := List.append_inj' h rfl
    simp only [List.cons.injEq, and_true] at h2
    exact ⟨by simpa using h1, by rw [h2]; simp⟩
/-- a value that can begin a list of two with a duration -/
def goodV (t : Int) (y : Fin 40) : Prop := lenV (lgV y) (dtV y) ≤ t ∧ ∃ z : Fin 40, lenV (lgV z) (dtV z) = t - lenV (lgV y) (dtV y)
instance (t : Int) (y : Fin 40) : Decidable (goodV t y) := by unfold goodV; infer_instance
theorem good7 : goodV 2419200 7 := by decide +kernel
theorem good_lt : ∀ x : Fin 40, x.val < 7 → ¬ goodV 2419200 x := by decide +kernel
theorem good_le : ∀ x : Fin 40, x.val ≤ 7 → ¬ lenV (lgV x) (dtV x) * 2 < 2419200 := by decide +kernel
/-- what search's loop keeps -/
structure SI (w : World) (m : Value) (t c : Int) (a b : Int) (d : Bool) (W : World) : Prop where
  bel : Below w.heap.size w W
  mp : W.cell? ⟨w.heap.size, 0, none⟩ = some m
  l0 : W.cell? ⟨w.heap.size + 1, 0, none⟩ = some (.int .i64 t)
  l1 : W.cell? ⟨w.heap.size + 1, 1, none⟩ = some (.int .i64 c)
  r : Thr W (w.heap.size + 1 + 1) (.int .i64 a) (.int .i64 b) (.bool d)
theorem SI.own {β : Type} {w : World} {m : Value} {t c a b : Int} {d : Bool} : OwnFrom (w.heap.size + 3) (fun (_ : β) W => SI w m t c a b d W) := by
  intro s W W' row h hg hr
  have hr2 : ∀ r, row = some r → ∃ o : Obj, W.heap[r]? = some o ∧ o.isCells = false := fun r e => (hr r e).2
  obtain ⟨h0, h1, h2, h3, ⟨c0, c1, c2, f0, f1, f2⟩⟩ := h
  refine ⟨?_, cell_kept h1 hg hr2, cell_kept h2 hg hr2, cell_kept h3 hg hr2, ⟨cell_kept c0 hg hr2, cell_kept c1 hg hr2, cell_kept c2 hg hr2, (frozen_kept c0 hg hr2).trans f0, (frozen_kept c1 hg hr2).trans f1, (frozen_kept c2 hg hr2).trans f2⟩⟩
  exact ownFrom_below (β := Unit) (n₀ := w.heap.size) (w₀ := w) (B := w.heap.size + 3) (Nat.le_refl _) (by omega) () W W' row h0 hg hr
theorem SI.up {w W W' : World} {m : Value} {t c a b : Int} {d : Bool} (h : SI w m t c a b d W) (hb : Below W.heap.size W W') : SI w m t c a b d W' :=
  ⟨Bel.up h.bel hb, cell_up hb h.mp, cell_up hb h.l0, cell_up hb h.l1, h.r.up hb⟩
theorem SI.sz {w W : World} {m : Value} {t c a b : Int} {d : Bool} (h : SI w m t c a b d W) : w.heap.size + 2 < W.heap.size := lt_of_cell h.r.c0
theorem SI.start (w : World) (m : Value) (t c : Int) (t1 t2 t3 : TypeId) : SI w m t c 0 0 false (((w.alloc (.cells #[m] t1)).alloc (.cells #[.int .i64 t, .int .i64 c] t2)).alloc (.cells #[.int .i64 0, .int .i64 0, .bool false] t3)) := by
  refine ⟨((((Below.refl _ w).alloc (Nat.le_refl _) _).alloc (by simp) _).alloc (by simp; omega) _), ?_, ?_, ?_, Thr.new _ _ _ _ _ _ (by simp)⟩ <;> simp [go_sem]
theorem SI.put {w W : World} {m : Value} {t c a b a' b' : Int} {d d' : Bool} (h : SI w m t c a b d W) : SI w m t c a' b' d' (((W.setCell ⟨w.heap.size + 1 + 1, 0, none⟩ (.int .i64 a')).setCell ⟨w.heap.size + 1 + 1, 1, none⟩ (.int .i64 b')).setCell ⟨w.heap.size + 1 + 1, 2, none⟩ (.bool d')) := by
  obtain ⟨h0, h1, h2, h3, hr⟩ := h
  refine ⟨((h0.setCell (by simp; omega) _).setCell (by simp; omega) _).setCell (by simp; omega) _, ?_, ?_, ?_, hr.put⟩ <;> simp [go_sem, *]
set_option maxRecDepth 100000 in
set_option maxHeartbeats 8000000 in
theorem search_2 (mb : Nat) (w : World) :
    Calls Tryd.prog 45 #[.map (some mb), .agg #[.int .i64 2419200, .int .i64 2]] w fun e w' => e = .returned (.agg #[.int .i64 0, .int .i64 0, .bool true]) ∧ Below w.heap.size w w' := by
  have h1 : 1 ≤ 3 := by omega
  refine (callsIn_wide (n := 3)).1 ?_
  refine callsIn_of_wp_marks Tryd.func45 rfl trivial ?_ rfl
  simp only [Tryd.ntmps45, List.size_toArray, List.length_cons, List.length_nil, Nat.reduceAdd, Nat.reduceSub, Array.replicate_succ, Array.replicate_zero, List.push_toArray, List.append_toArray, List.nil_append, List.cons_append]
  gi_wp2_with (refine ⟨trivial, ?_⟩; gi_at_call 27; refine (values_in Fence.wide (3 - 1) trivial rfl _).mono ?_; rintro e w' ⟨rfl, rfl⟩)
  have F0 := SI.start w (.map (some mb)) 2419200 2 58 63 60
  obtain ⟨W0, hW0⟩ : ∃ W0, (((w.alloc (.cells #[.map (some mb)] 58)).alloc (.cells #[.int .i64 2419200, .int .i64 2] 63)).alloc (.cells #[.int .i64 0, .int .i64 0, .bool false] 60)) = W0 := ⟨_, rfl⟩
  have s3 : W0.heap.size = w.heap.size + 3 := by rw [← hW0]; simp
  rw [hW0] at F0 ⊢
  clear hW0
  refine wpIn_rangeFunc_ownH (Kp := fun _ _ => True) rfl h1 (gf := 34) (lb := #[]) rfl trivial (enters_of Tryd.func34 (by kernel_rfl) rfl)
    (encs := encV) (S := fun ys => ys = upV 40) (Sp := fun pre => ∃ k, k ≤ 40 ∧ pre = upV k) (N := 40) (w0 := W0)
    (fun l J Jx W _ _ _ hY h0 => values1_in Fence.wide (3 - 1) trivial rfl (by omega) l (fun _ _ => True) J Jx hY W h0)
    (fun _ _ => trivial) (fun _ _ _ _ _ _ _ _ => trivial) (Below.refl _ _) (fun x => rfl)
    (fun pre W => (∀ y ∈ pre, ¬ goodV 2419200 y) ∧ SI w (.map (some mb)) 2419200 2 0 0 false W)
    (fun c pr W => ∃ pre x, pr = pre ++ [x] ∧ (∀ y ∈ pre, ¬ goodV 2419200 y) ∧ ((c = .ret ∧ goodV 2419200 x ∧ SI w (.map (some mb)) 2419200 2 (lgV x) (dtV x) true W) ∨ lenV (lgV x) (dtV x) * 2 < 2419200))
    (by rw [s3]; exact OwnFrom.and (fun _ _ _ _ h _ _ => h) SI.own)
    (by
      rw [s3]
      intro c s W W' row h hg hr
      obtain ⟨pre, x, hp, hn, h⟩ := h
      refine ⟨pre, x, hp, hn, ?_⟩
      rcases h with ⟨hc, hgd, hF⟩ | h
      · exact .inl ⟨hc, hgd, SI.own (β := Unit) () W W' row hF hg hr⟩
      · exact .inr h)
    ⟨(fun y hy => by cases hy), F0⟩
    (fun x a' W => ∃ q : Nat, a' = { tmps := #[.map (some mb), .agg #[.int .i64 2419200, .int .i64 2], .pointer (some ⟨w.heap.size, 0, none⟩), .pointer (some ⟨w.heap.size + 1, 0, none⟩), .pointer (some ⟨w.heap.size + 1 + 1, 0, none⟩), .pointer (some ⟨q, 0, none⟩), undef, .func (.func 34) #[] #[], .agg #[.int .i64 (lgV x), .int .i64 (dtV x)], undef, undef, undef, undef, undef, undef, undef, undef, undef, undef, undef, undef, undef, undef, undef, undef, undef, undef, undef, undef, undef, undef, undef, undef, undef, undef, undef, undef, undef], defers := [] } ∧ w.heap.size + 3 ≤ q ∧ W.cell? ⟨q, 0, none⟩ = some (.int .i64 (lgV x)) ∧ W.cell? ⟨q, 1, none⟩ = some (.int .i64 (dtV x)))
    (by
      intro x a' s W W' row h hg hr
      obtain ⟨q, h0, h1, h2, h3⟩ := h
      have hr2 : ∀ r, row = some r → ∃ o : Obj, W.heap[r]? = some o ∧ o.isCells = false := fun r e => (hr r e).2
      exact ⟨q, h0, h1, cell_kept h2 hg hr2, cell_kept h3 hg hr2⟩)
    ?assign ?body ?done ?stop
  case assign =>
    rintro l pre x W K ⟨hne, hF⟩ hK
    have hsz := hF.sz
    have hup : Below W.heap.size W (W.alloc (.cells #[.int .i64 (lgV x), .int .i64 (dtV x)] 23)) := (Below.refl _ W).alloc (Nat.le_refl _) _
    simp only [encV]
    gi_wp2
    refine hK _ _ ((KeepsOthers.alloc _ _).from _) trivial ⟨hne, hF.up hup⟩ ⟨W.heap.size, rfl, by omega, by simp [go_sem], by simp [go_sem]⟩
  case body =>
    rintro l pre x a' W _ _ ⟨hne, hF⟩ ⟨q, rfl, hq, v0, v1⟩ _
    have hv := va_at x
    have hbd := lenV_bd hv
    have HF := Lib.hid hF
    have HNE := Lib.hid hne
    have HG := Lib.hid (show goodV 2419200 x ↔ lenV (lgV x) (dtV x) ≤ 2419200 ∧ ∃ z : Fin 40, lenV (lgV z) (dtV z) = 2419200 - lenV (lgV x) (dtV x) from Iff.rfl)
    obtain ⟨L, hL⟩ : ∃ L, lgV x = L := ⟨_, rfl⟩
    obtain ⟨D, hD⟩ : ∃ D, dtV x = D := ⟨_, rfl⟩
    have KL := fun wz => length_ok L D wz (by rw [← hL, ← hD]; exact hv)
    rw [hL, hD] at hbd HG
    rw [hL] at v0
    rw [hD] at v1
    obtain ⟨M, hM⟩ : ∃ M, lenV L D = M := ⟨_, rfl⟩
    rw [hM] at hbd HG
    simp only [hM] at KL
    have KL := Lib.hid KL
    have HL := Lib.hid hL
    have HD := Lib.hid hD
    have HM := Lib.hid hM
    simp only [hL, hD]
    clear hF hne hL hD hM hv
    obtain ⟨hM0, hM1⟩ := hbd
    have hf1 := fld1
    by_cases c1 : M * 2 < 2419200
    · have c1d : decide (M * 2 < 2419200) = true := by simpa using c1
      have HC := Lib.hid c1
      gi_wp2_with ((refine ⟨trivial, ?_⟩; gi_at_call 25; refine (CallsIn.inRound l (callsIn_wide.2 (KL.out _))).mono ?_; rintro e W1 ⟨rfl, hb⟩; have mp1 := (HF.out.up hb).mp; have l01 := (HF.out.up hb).l0; have l11 := (HF.out.up hb).l1))
      exact ⟨(keepsOthers_of_below (by assumption)).from _, pre, x, rfl, HNE.out, .inr (by rw [HL.out, HD.out, HM.out]; exact HC.out)⟩
    · have c1d : decide (M * 2 < 2419200) = false := by simpa using c1
      by_cases c2 : M ≤ 2419200
      · have c2d : decide (M ≤ 2419200) = true := by simpa using c2
        by_cases c3 : ∃ z : Fin 40, lenV (lgV z) (dtV z) = 2419200 - M
        · obtain ⟨z, hz⟩ := c3
          have HZ := Lib.hid hz
          have HC := Lib.hid (HG.out.2 ⟨c2, z, hz⟩)
          clear hz
          gi_wp2_with (first | (refine ⟨trivial, ?_⟩; gi_at_call 25; refine (CallsIn.inRound l (callsIn_wide.2 (KL.out _))).mono ?_; rintro e W1 ⟨rfl, hb⟩; have mp1 := (HF.out.up hb).mp; have l01 := (HF.out.up hb).l0; have l11 := (HF.out.up hb).l1) | (refine ⟨trivial, ?_⟩; gi_at_call 32; refine (CallsIn.inRound l (callsIn_wide.2 (first_1y (2419200 - M) (.map (some mb)) z _ HZ.out))).mono ?_; rintro e W2 ⟨rfl, hb2⟩; have hS2 := Lib.hid ((HF.out.up hb).up hb2); obtain ⟨_, _, _, _, ⟨r0, r1, r2, f0, f1, f2⟩⟩ := id hS2.out; have y0 := cell_up hb2 (cell_up hb v0); have y1 := cell_up hb2 (cell_up hb v1); dsimp only; refine ‹∀ (a : Act) (w : World), _ → _› _ _ ?_))
          exact ⟨((((keepsOthers_of_below (by assumption)).trans (keepsOthers_of_below (by assumption))).trans (KeepsOthers.setCell _ _ _)).trans ((KeepsOthers.setCell _ _ _).trans (KeepsOthers.setCell _ _ _))).from _, pre, x, rfl, HNE.out, .inl ⟨rfl, HC.out, by rw [HL.out, HD.out]; exact SI.put (Hid.out (by assumption))⟩⟩
        · have HZ := Lib.hid (fun z hz => c3 ⟨z, hz⟩)
          have HC := Lib.hid (fun h : goodV 2419200 x => c3 (HG.out.1 h).2)
          clear c3
          gi_wp2_with (first | (refine ⟨trivial, ?_⟩; gi_at_call 25; refine (CallsIn.inRound l (callsIn_wide.2 (KL.out _))).mono ?_; rintro e W1 ⟨rfl, hb⟩; have mp1 := (HF.out.up hb).mp; have l01 := (HF.out.up hb).l0; have l11 := (HF.out.up hb).l1) | (refine ⟨trivial, ?_⟩; gi_at_call 32; refine (CallsIn.inRound l (callsIn_wide.2 (first_1n (2419200 - M) (.map (some mb)) _ HZ.out))).mono ?_; rintro e W2 ⟨rfl, hb2⟩; have hS2 := Lib.hid ((HF.out.up hb).up hb2); dsimp only; refine ‹∀ (a : Act) (w : World), _ → _› _ _ ?_))
          refine ⟨((keepsOthers_of_below (by assumption)).trans (keepsOthers_of_below (by assumption))).from _, trivial, fun y hy => ?_, Hid.out (by assumption)⟩
          rcases List.mem_append.1 hy with h | h
          · exact HNE.out y h
          · simp at h
            subst h
            exact HC.out
      · have c2d : decide (M ≤ 2419200) = false := by simpa using c2
        have HC := Lib.hid (fun h : goodV 2419200 x => c2 (HG.out.1 h).1)
        gi_wp2_with (first | (refine ⟨trivial, ?_⟩; gi_at_call 25; refine (CallsIn.inRound l (callsIn_wide.2 (KL.out _))).mono ?_; rintro e W1 ⟨rfl, hb⟩; have mp1 := (HF.out.up hb).mp; have l01 := (HF.out.up hb).l0; have l11 := (HF.out.up hb).l1; have hS1 := Lib.hid (HF.out.up hb)) | (refine ⟨trivial, ?_⟩; refine ‹∀ (a : Act) (w : World), _ → _› _ _ ?_))
        refine ⟨(keepsOthers_of_below (by assumption)).from _, trivial, fun y hy => ?_, Hid.out (by assumption)⟩
        rcases List.mem_append.1 hy with h | h
        · exact HNE.out y h
        · simp at h
          subst h
          exact HC.out
  case done =>
    rintro D xs W hD rfl ⟨hne, hF⟩ hK
    exact absurd good7 (hne 7 (mem_upV40 7))
  case stop =>
    rintro D c pr W hD ⟨k, hk, hpr⟩ ⟨pre, x, hp, hn, hc⟩ hK
    rw [hp] at hpr
    obtain ⟨hpre, hxk⟩ := upV_last hk hpr
    have hle : x.val ≤ 7 := by
      rcases Nat.lt_or_ge 7 x.val with h | h
      · exact absurd good7 (hn 7 (by rw [hpre]; exact mem_upV (by rw [← hxk]; exact h)))
      · exact h
    rcases hc with ⟨rfl, hgd, hF⟩ | hc
    · have hx7 : x = 7 := by
        apply Fin.ext
        rcases Nat.lt_or_ge x.val 7 with h | h
        · exact absurd hgd (good_lt x h)
        · show x.val = 7
          omega
      subst hx7
      gi_wp2
      have FP2 := OwnFrom.putObj (β := Unit) SI.own (s := ()) (.deferred none) hF (by omega) hK rfl
      refine ⟨by simp, .inl ⟨_, _, rfl, run_takeDeferred hK, ?_⟩⟩
      obtain ⟨b0, _, _, _, ⟨q0, q1, q2, _, _, _⟩⟩ := id FP2
      refine ⟨.agg #[.int .i64 (lgV 7), .int .i64 (dtV 7), .bool true], ?_, ⟨rfl, b0⟩⟩
      simp [results, Tryd.results45, go_sem, q0, q1, q2]
    · exact absurd hc (good_le x hle)
end Go.Proofs.YtoobfcekgfgipaaDoor
