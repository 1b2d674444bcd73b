/- The law PitchRespells. -/
import Derived.Test.YtolfgomlokpopaaDoorEt
namespace Go.Proofs.YtolfgomlokpopaaDoor
open Go.RowKit
set_option linter.unusedVariables false
set_option linter.unusedSimpArgs false

theorem refDia3 (s a o : Int) (w : World) (s0 : 0 ≤ s) (s1 : s ≤ 6) (o0 : -1 ≤ o) (o1 : o ≤ 9) :
    Calls Tryd.prog 17 #[.agg #[.int .i64 s, .int .i64 a, .int .i64 o]] w fun e w' => e = .returned (.int .i64 (diaP s o)) ∧ Below w.heap.size w w' := by
  unfold diaP
  go_enter Tryd.func17, Tryd.ntmps17
  go_wp2
  try go_quiet (fail)
  go_wp2
  go_ret
  first
    | exact ⟨rfl, (Below.refl _ _).alloc (Nat.le_refl _) _⟩
    | exact ⟨rfl, below_drewN ((Below.refl _ _).alloc (Nat.le_refl _) _) _⟩
/-- what the reference's Respell returns -/
def RefPost (s a o d : Int) (w : World) (e : Ending) (w' : World) : Prop :=
  (∃ q, findD (enhL (numP s a o)) (diaP s o + d) = some q ∧ e = .returned (.tuple #[.agg #[.int .i64 q.1, .int .i64 q.2.1, .int .i64 q.2.2], .bool true]) ∧ Below w.heap.size w w') ∨
  (findD (enhL (numP s a o)) (diaP s o + d) = none ∧ e = .returned (.tuple #[.agg #[.int .i64 0, .int .i64 0, .int .i64 0], .bool false]) ∧ Below w.heap.size w w')
set_option maxRecDepth 100000 in
set_option maxHeartbeats 2000000 in
theorem refRespell_ok (s a o d : Int) (w : World) (h : Pit s a o) (d0 : -9223372036854775808 ≤ d) (d1 : d ≤ 9223372036854775807) :
    Calls Tryd.prog 23 #[.agg #[.int .i64 s, .int .i64 a, .int .i64 o], .int .i64 d] w (RefPost s a o d w) := by
  have HP := Lib.hid h
  have h0 := h.s0; have h1 := h.s1; have h2 := h.a0; have h3 := h.a1; have h4 := h.o0; have h5 := h.o1; have k0 := h.n0; have k1 := h.n1
  have B0 := Lib.hid (((Bel.refl w).alloc (.cells #[.int .i64 s, .int .i64 a, .int .i64 o] 23)).alloc (.cells #[.int .i64 0, .int .i64 0, .int .i64 0] 23))
  have X0 := (Tri.new w (.int .i64 s) (.int .i64 a) (.int .i64 o) 23 w.heap.size rfl).alloc (.cells #[.int .i64 0, .int .i64 0, .int .i64 0] 23)
  have R0 := Tri.new (w.alloc (.cells #[.int .i64 s, .int .i64 a, .int .i64 o] 23)) (.int .i64 0) (.int .i64 0) (.int .i64 0) 23 (w.heap.size + 1) (by simp)
  clear h
  go_enter Tryd.func23, Tryd.ntmps23
  go_wp2_with fail
  refine (refNumber_any s a o _ h0 h1 h2 h3 h4 h5).mono ?_
  rintro e w2 ⟨rfl, hb⟩
  have B2 := Lib.hid (B0.out.up hb)
  have X2 := X0.up hb
  have R2 := R0.up hb
  clear hb X0 B0 R0
  go_wp2_with fail
  refine (refEnh_any _ _).mono ?_
  rintro e w3 ⟨v, rfl, hown, hb⟩
  rw [refE_enh k0 k1] at hown
  have B3 := Lib.hid (B2.out.up hb)
  have X3 := X2.up hb
  have R3 := R2.up hb
  clear hb X2 B2 R2
  have HL := Lib.hid (enhL_pit (n := numP s a o))
  have hne : enhL (numP s a o) ≠ [] := fun e => by have := mem_enhL HP.out; rw [e] at this; cases this
  obtain ⟨g, cap, rfl, hg, hrow⟩ := rows_of_own hown hne
  have hlen := enhL_len (numP s a o)
  have HR := Lib.hid (show RR w w3 (enhL (numP s a o)) g s a o from ⟨B3.out, X3, R3, hrow⟩)
  have HPost : Hid (RefPost s a o d w = RefPost s a o d w) := rfl
  clear hown hne hrow X3 R3 B3
  obtain ⟨D, hD⟩ : ∃ D, findD (enhL (numP s a o)) (diaP s o + d) = D := ⟨_, rfl⟩
  have HD := Lib.hid hD
  clear hD
  generalize hLL : enhL (numP s a o) = L at *
  have HLL := Lib.hid hLL
  clear hLL
  have hdp := dia_bd HP.out
  have HDP := Lib.hid hdp
  obtain ⟨e0, e1⟩ := hdp
  go_wp2_with fail
  go_loopg [7] L.length (fun gm i wr => ∃ k : Nat, k ≤ L.length ∧ gm = L.length - k ∧ i = .int .i64 k ∧ Hid (∀ (j : Nat) (q : Int × Int × Int), j < k → L[j]? = some q → diaP q.1 q.2.2 ≠ diaP s o + d) ∧ Hid (RR w wr L g s a o))
  case atStart => exact ⟨0, by omega, by omega, rfl, Lib.hid (fun j q hj => absurd hj (by omega)), HR⟩
  case round =>
    obtain ⟨k, hk, rfl, rfl, HN, HS⟩ := hrel
    clear HR
    by_cases hlt : k < L.length
    · obtain ⟨q, hq⟩ : ∃ q, L[k]? = some q := ⟨_, List.getElem?_eq_getElem hlt⟩
      obtain ⟨q1, q2, q3⟩ := HS.out.row k q hq
      have pq := (HL.out q (List.mem_of_getElem? hq)).1
      have g0 := pq.s0; have g1 := pq.s1; have g2 := pq.o0; have g3 := pq.o1
      obtain ⟨f0, f1⟩ := dia_bd pq
      have HQ := Lib.hid hq
      have XP := HS.out.p
      have NS : Hid ((diaP q.1 q.2.2 - diaP s o == d) = decide (diaP q.1 q.2.2 = diaP s o + d)) := by
        unfold Hid
        rw [Bool.eq_iff_iff]; simp; omega
      clear hq pq
      go_wp2_with fail
      refine Qt.regionAll (by kernel_rfl) (by kernel_rfl) ?_
      intro T f F hne
      have HB := Lib.hid (fun t => HS.out.up (F.below t))
      have YP := fun t => XP.up (F.below t)
      have a1 := fun t => cell_up (F.below t) q1; have a2 := fun t => cell_up (F.below t) q2; have a3 := fun t => cell_up (F.below t) q3
      have b1 := fun t => (YP t).c0; have b2 := fun t => (YP t).c1; have b3 := fun t => (YP t).c2
      repeat (go_big_quiet_step (first | (go_at_call 17; exact F.call (refDia3 _ _ _ _ (by omega) (by omega) (by omega) (by omega)))))
      refine wpQuiet_nil ?_
      rintro _ ⟨t, rfl⟩
      have H4 := Lib.hid (HB.out t)
      replace q1 := a1 t
      replace q2 := a2 t
      replace q3 := a3 t
      clear F HB hne YP a1 a2 a3 b1 b2 b3 XP HS
      generalize f t = w4 at *
      clear f
      obtain ⟨r0, r1, r2, r3, r4, r5, r6⟩ := id H4.out.r
      by_cases hm : diaP q.1 q.2.2 = diaP s o + d
      · have hm' : (diaP q.1 q.2.2 - diaP s o == d) = true := by rw [NS.out]; simpa using hm
        have HM := Lib.hid hm
        clear hm
        go_wp2_with fail
        have Tf := H4.out.r.store (u := .int .i64 q.1) (v := .int .i64 q.2.1) (t := .int .i64 q.2.2)
        exact bodyPost_ret (v := .tuple #[.agg #[.int .i64 q.1, .int .i64 q.2.1, .int .i64 q.2.2], .bool true]) (by simp [results, Tryd.results23, go_sem, Tf.c0, Tf.c1, Tf.c2]) rfl (.inl ⟨q, by rw [HLL.out]; exact find_at HQ.out HN.out HM.out, rfl, ((H4.out.bel.set (Nat.le_succ _) _ _).set (Nat.le_succ _) _ _).set (Nat.le_succ _) _ _⟩)
      · have hm' : (diaP q.1 q.2.2 - diaP s o == d) = false := by rw [NS.out]; simpa using hm
        have HM := Lib.hid hm
        clear hm
        go_wp2_with fail
        go_roundg (L.length - (k + 1))
        case measure => omega
        case rel => exact ⟨k + 1, by omega, rfl, by go_num, Lib.hid (fun j p hj hp => by
          by_cases e : j = k
          · subst e; rw [HQ.out] at hp; cases hp; exact HM.out
          · exact HN.out j p (by omega) hp), H4⟩
    · obtain rfl : k = L.length := by omega
      obtain ⟨r0, r1, r2, r3, r4, r5, r6⟩ := id HS.out.r
      go_wp2_with fail
      have Tf := HS.out.r.store (u := .int .i64 0) (v := .int .i64 0) (t := .int .i64 0)
      exact bodyPost_ret (v := .tuple #[.agg #[.int .i64 0, .int .i64 0, .int .i64 0], .bool false]) (by simp [results, Tryd.results23, go_sem, Tf.c0, Tf.c1, Tf.c2]) rfl (.inr ⟨by rw [HLL.out]; exact find_no HN.out, rfl, ((HS.out.bel.set (Nat.le_succ _) _ _).set (Nat.le_succ _) _ _).set (Nat.le_succ _) _ _⟩)
end Go.Proofs.YtolfgomlokpopaaDoor
