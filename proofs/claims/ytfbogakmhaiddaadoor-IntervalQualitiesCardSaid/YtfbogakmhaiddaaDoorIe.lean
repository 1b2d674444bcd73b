/- Intervals: the nearest pitch. -/
import Derived.Test.YtfbogakmhaiddaaDoorId
namespace Go.Proofs.YtfbogakmhaiddaaDoor
open Go.RowKit
set_option linter.unusedVariables false
set_option linter.unusedSimpArgs false

def cmpI (x y : Int) : Int := if x < y then -1 else if y < x then 1 else 0
set_option maxHeartbeats 400000 in
theorem nan_no (x : Int) (w : World) : Calls Tryd.prog 60 #[.int .i64 x] w fun e w' => e = .returned (.bool false) ∧ w = w' := by
  go_enter Tryd.func60, Tryd.ntmps60
  go_wp2_with fail
  go_ret
  exact ⟨by first | rfl | simp [go_sem], rfl⟩
set_option maxHeartbeats 1000000 in
theorem cmp_ok (x y : Int) (w : World) : Calls Tryd.prog 47 #[.int .i64 x, .int .i64 y] w fun e w' => e = .returned (.int .i64 (cmpI x y)) ∧ Below w.heap.size w w' := by
  have B0 := Lib.hid (Bel.refl w)
  rcases (show x < y ∨ y < x ∨ x = y by omega) with h | h | rfl
  · have e : cmpI x y = -1 := by unfold cmpI; rw [if_pos h]
    rw [e]
    go_enter Tryd.func47, Tryd.ntmps47
    go_wp2_with (first | (go_at_call 60; refine (nan_no _ _).mono ?_; rintro e w' ⟨rfl, rfl⟩))
    go_ret
    exact ⟨rfl, B0.out.out⟩
  · have h' : ¬ x < y := by omega
    have e : cmpI x y = 1 := by unfold cmpI; rw [if_neg h', if_pos h]
    rw [e]
    go_enter Tryd.func47, Tryd.ntmps47
    go_wp2_with (first | (go_at_call 60; refine (nan_no _ _).mono ?_; rintro e w' ⟨rfl, rfl⟩))
    go_ret
    exact ⟨rfl, B0.out.out⟩
  · have e : cmpI x x = 0 := by unfold cmpI; simp
    rw [e]
    go_enter Tryd.func47, Tryd.ntmps47
    go_wp2_with (first | (go_at_call 60; refine (nan_no _ _).mono ?_; rintro e w' ⟨rfl, rfl⟩))
    go_ret
    exact ⟨rfl, B0.out.out⟩
theorem Tri.aside {w : World} {b c : Nat} {x y z u v t : Value} (h : Tri w b x y z) (hn : c ≠ b) : Tri (((w.setCell ⟨c, 0, none⟩ u).setCell ⟨c, 1, none⟩ v).setCell ⟨c, 2, none⟩ t) b x y z := by
  obtain ⟨h0, h1, h2, h3, h4, h5, h6⟩ := h
  have hn' : b ≠ c := fun e => hn e.symm
  exact ⟨by simpa [go_sem] using h0, by simp [go_sem, *], by simp [go_sem, *], by simp [go_sem, *], by simp [go_sem, *], by simp [go_sem, *], by simp [go_sem, *]⟩
/-- what MinFunc's loop keeps -/
structure MM (w wr : World) (m : Int × Int × Int) : Prop where
  bel : Bel w wr
  r : Tri wr w.heap.size (.int .i64 0) (.int .i64 0) (.int .i64 0)
  m : Tri wr (w.heap.size + 1) (.int .i64 m.1) (.int .i64 m.2.1) (.int .i64 m.2.2)
theorem MM.up {w wr w' : World} {m : Int × Int × Int} (h : MM w wr m) (hb : Below wr.heap.size wr w') : MM w w' m := ⟨h.bel.up hb, h.r.up hb, h.m.up hb⟩
/-- the nearest of some pitches, the first one of those that are equally near -/
def minF (p : Int) : List (Int × Int × Int) → Int × Int × Int → Int × Int × Int
  | [], m => m
  | q :: l, m => minF p l (if absI (diaP q.1 q.2.2 - p) < absI (diaP m.1 m.2.2 - p) then q else m)
theorem minF_at {p : Int} {L : List (Int × Int × Int)} {k : Nat} {q m : Int × Int × Int} (h : L[k]? = some q) : minF p (L.drop k) m = minF p (L.drop (k + 1)) (if absI (diaP q.1 q.2.2 - p) < absI (diaP m.1 m.2.2 - p) then q else m) := by
  have hk : k < L.length := by
    rcases Nat.lt_or_ge k L.length with h' | h'
    · exact h'
    · rw [List.getElem?_eq_none h'] at h; cases h
  have e : L[k] = q := by rw [List.getElem?_eq_getElem hk] at h; exact Option.some.inj h
  rw [List.drop_eq_getElem_cons hk, e]
  rfl
set_option maxRecDepth 100000 in
set_option maxHeartbeats 2000000 in
theorem trans1_ok (s a o t b u p : Int) (k : Nat) (w : World) (h : Pit s a o) (h2 : Pit t b u) (p0 : -1000 ≤ p) (p1 : p ≤ 1000) (ht : PT w) (hu : Uno w k (.int .i64 p)) :
    Calls Tryd.prog 46 #[.agg #[.int .i64 s, .int .i64 a, .int .i64 o], .agg #[.int .i64 t, .int .i64 b, .int .i64 u], .pointer (some ⟨k, 0, none⟩)] w fun e w' => e = .returned (.int .i64 (cmpI (absI (diaP s o - p)) (absI (diaP t u - p)))) ∧ Below w.heap.size w w' := by
  have B0 := Lib.hid (((Bel.refl w).alloc (.cells #[.int .i64 s, .int .i64 a, .int .i64 o] 41)).alloc (.cells #[.int .i64 t, .int .i64 b, .int .i64 u] 41))
  have T0 := Lib.hid ((ht.alloc (.cells #[.int .i64 s, .int .i64 a, .int .i64 o] 41)).alloc (.cells #[.int .i64 t, .int .i64 b, .int .i64 u] 41))
  have U0 := Lib.hid ((hu.alloc (.cells #[.int .i64 s, .int .i64 a, .int .i64 o] 41)).alloc (.cells #[.int .i64 t, .int .i64 b, .int .i64 u] 41))
  have X0 := (Tri.new w (.int .i64 s) (.int .i64 a) (.int .i64 o) 41 w.heap.size rfl).alloc (.cells #[.int .i64 t, .int .i64 b, .int .i64 u] 41)
  have Y0 := Tri.new (w.alloc (.cells #[.int .i64 s, .int .i64 a, .int .i64 o] 41)) (.int .i64 t) (.int .i64 b) (.int .i64 u) 41 (w.heap.size + 1) (by simp)
  have HP := Lib.hid h
  have HQ := Lib.hid h2
  obtain ⟨u0, u1, u2⟩ := id U0.out
  clear ht hu h h2
  go_enter Tryd.func46, Tryd.ntmps46
  obtain ⟨xf0, xf1, xf2, xf3, xf4, xf5, xf6⟩ := id X0
  obtain ⟨yf0, yf1, yf2, yf3, yf4, yf5, yf6⟩ := id Y0
  go_wp2_with fail
  clear xf0 xf1 xf2 xf3 xf4 xf5 xf6 yf0 yf1 yf2 yf3 yf4 yf5 yf6 u0 u1 u2
  refine Qt.regionAll (by kernel_rfl) (by kernel_rfl) ?_
  intro T f F hne
  have RB := Lib.hid (fun g => B0.out.up (F.below g))
  have RT := Lib.hid (fun g => T0.out.below (F.below g))
  have RU := fun g => (U0.out.up (F.below g)).c0
  have RX := fun g => X0.up (F.below g)
  have RY := fun g => Y0.up (F.below g)
  have a0 := fun g => (RX g).c0; have a1 := fun g => (RX g).c1; have a2 := fun g => (RX g).c2
  have c0 := fun g => (RY g).c0; have c1 := fun g => (RY g).c1; have c2 := fun g => (RY g).c2
  repeat (go_big_quiet_step (first | (go_at_call 43; with_reducible exact F.call (distance_ok s a o p _ HP.out p0 p1 (RT.out _))) | (go_at_call 43; with_reducible exact F.call (distance_ok t b u p _ HQ.out p0 p1 (RT.out _))) | (go_at_call 47; exact F.call (cmp_ok _ _ _))))
  refine wpQuiet_nil ?_
  rintro _ ⟨g, rfl⟩
  have B1 := Lib.hid (RB.out g)
  go_wp2_with fail
  go_ret
  exact ⟨rfl, B1.out.out⟩
set_option maxRecDepth 100000 in
set_option maxHeartbeats 2000000 in
theorem minFunc_ok (L : List (Int × Int × Int)) (q0 : Int × Int × Int) (g cap b : Nat) (p : Int) (w : World) (h0 : L[0]? = some q0) (hL : ∀ q ∈ L, Pit q.1 q.2.1 q.2.2) (hl : L.length ≤ 1000) (p0 : -1000 ≤ p) (p1 : p ≤ 1000) (ht : PT w) (hu : Uno w b (.int .i64 p)) (hr : Row3 w g L) :
    Calls Tryd.prog 45 #[.slice (some ⟨g, 0, none⟩) L.length cap, .func (.func 46) #[] #[.pointer (some ⟨b, 0, none⟩)]] w fun e w' => e = .returned (.agg #[.int .i64 (minF p (L.drop 1) q0).1, .int .i64 (minF p (L.drop 1) q0).2.1, .int .i64 (minF p (L.drop 1) q0).2.2]) ∧ Below w.heap.size w w' := by
  have hpos : 0 < L.length := by
    rcases Nat.lt_or_ge 0 L.length with h' | h'
    · exact h'
    · rw [List.getElem?_eq_none h'] at h0; cases h0
  obtain ⟨q1, q2, q3⟩ := hr 0 q0 h0
  simp only [Nat.zero_mul, Nat.zero_add] at q1 q2 q3
  have z1 := cell_up ((Below.refl _ _).alloc (Nat.le_refl _) (.cells #[.int .i64 0, .int .i64 0, .int .i64 0] 41)) q1
  have z2 := cell_up ((Below.refl _ _).alloc (Nat.le_refl _) (.cells #[.int .i64 0, .int .i64 0, .int .i64 0] 41)) q2
  have z3 := cell_up ((Below.refl _ _).alloc (Nat.le_refl _) (.cells #[.int .i64 0, .int .i64 0, .int .i64 0] 41)) q3
  have HL := Lib.hid hL
  have H0 := Lib.hid h0
  have HT := Lib.hid ht
  have HU := Lib.hid hu
  have HR := Lib.hid hr
  have B0 := Lib.hid ((Bel.refl w).alloc (.cells #[.int .i64 0, .int .i64 0, .int .i64 0] 41))
  have R0 := Tri.new w (.int .i64 0) (.int .i64 0) (.int .i64 0) 41 w.heap.size rfl
  obtain ⟨M, hM⟩ : ∃ M, minF p (L.drop 1) q0 = M := ⟨_, rfl⟩
  have HM := Lib.hid hM
  rw [hM]
  clear hL ht hu hr h0 hM
  go_enter Tryd.func45, Tryd.ntmps45
  go_wp2_with fail
  go_loopg [6] (L.length - 1) (fun gm i wr => ∃ k : Nat, 1 ≤ k ∧ k ≤ L.length ∧ gm = L.length - k ∧ i = .int .i64 (k : Int) ∧ ∃ m : Int × Int × Int, Hid (Pit m.1 m.2.1 m.2.2) ∧ Hid (minF p (L.drop k) m = M) ∧ Hid (MM w wr m))
  case atStart => exact ⟨1, by omega, by omega, by omega, rfl, q0, Lib.hid (HL.out q0 (List.mem_of_getElem? H0.out)), HM, Lib.hid ⟨B0.out.alloc _, R0.alloc _, Tri.new _ _ _ _ _ _ (by simp)⟩⟩
  case round =>
    obtain ⟨k, k1, hk, rfl, rfl, m, HPm, HG, HS⟩ := hrel
    clear B0 R0 q1 q2 q3
    obtain ⟨m0, m1, m2, m3, m4, m5, m6⟩ := id HS.out.m
    by_cases hlt : k < L.length
    · obtain ⟨q, hq⟩ : ∃ q, L[k]? = some q := ⟨_, List.getElem?_eq_getElem hlt⟩
      obtain ⟨q1, q2, q3⟩ := (HR.out.up HS.out.bel.out) k q hq
      have pq := Lib.hid (HL.out q (List.mem_of_getElem? hq))
      have HD := Lib.hid (minF_at (p := p) (m := m) hq)
      clear hq
      go_wp2_with fail
      refine Qt.regionAll (by kernel_rfl) (by kernel_rfl) ?_
      intro T f F hne
      have RS := Lib.hid (fun g => HS.out.up (F.below g))
      have RT := Lib.hid (fun g => (HT.out.below HS.out.bel.out).below (F.below g))
      have RU := Lib.hid (fun g => (HU.out.up HS.out.bel.out).up (F.below g))
      have a1 := fun t => cell_up (F.below t) q1; have a2 := fun t => cell_up (F.below t) q2; have a3 := fun t => cell_up (F.below t) q3
      have c0 := fun t => (RS.out t).m.c0; have c1 := fun t => (RS.out t).m.c1; have c2 := fun t => (RS.out t).m.c2
      repeat (go_big_quiet_step (first | (go_at_call 46; exact F.call (trans1_ok q.1 q.2.1 q.2.2 m.1 m.2.1 m.2.2 p b _ pq.out HPm.out p0 p1 (RT.out _) (RU.out _)))))
      refine wpQuiet_nil ?_
      rintro _ ⟨t, rfl⟩
      have H2 := Lib.hid (RS.out t)
      replace q1 := a1 t
      replace q2 := a2 t
      replace q3 := a3 t
      clear F RS RT RU hne a1 a2 a3 c0 c1 c2
      generalize f t = w2 at *
      clear f
      clear HS m0 m1 m2 m3 m4 m5 m6
      obtain ⟨m0, m1, m2, m3, m4, m5, m6⟩ := id H2.out.m
      by_cases hm : absI (diaP q.1 q.2.2 - p) < absI (diaP m.1 m.2.2 - p)
      · have e1 : cmpI (absI (diaP q.1 q.2.2 - p)) (absI (diaP m.1 m.2.2 - p)) = -1 := by unfold cmpI; rw [if_pos hm]
        have HE : Hid (minF p (L.drop (k + 1)) q = M) := by have := HG.out; rw [HD.out, if_pos hm] at this; exact this
        rw [e1]
        clear hm e1
        go_wp2_with fail
        have Mf := H2.out.m.store (u := .int .i64 q.1) (v := .int .i64 q.2.1) (t := .int .i64 q.2.2)
        go_roundg (L.length - (k + 1))
        case measure => omega
        case rel => exact ⟨k + 1, by omega, by omega, rfl, by go_num, q, pq, HE, Lib.hid ⟨((H2.out.bel.set (Nat.le_succ _) _ _).set (Nat.le_succ _) _ _).set (Nat.le_succ _) _ _, H2.out.r.aside (by omega), Mf⟩⟩
      · have e1 : 0 ≤ cmpI (absI (diaP q.1 q.2.2 - p)) (absI (diaP m.1 m.2.2 - p)) ∧ cmpI (absI (diaP q.1 q.2.2 - p)) (absI (diaP m.1 m.2.2 - p)) ≤ 1 := by unfold cmpI; rw [if_neg hm]; split <;> omega
        have HE : Hid (minF p (L.drop (k + 1)) m = M) := by have := HG.out; rw [HD.out, if_neg hm] at this; exact this
        generalize cmpI (absI (diaP q.1 q.2.2 - p)) (absI (diaP m.1 m.2.2 - p)) = C at *
        clear hm
        go_wp2_with fail
        go_roundg (L.length - (k + 1))
        case measure => omega
        case rel => exact ⟨k + 1, by omega, by omega, rfl, by go_num, m, HPm, HE, H2⟩
    · obtain rfl : k = L.length := by omega
      have HE : Hid (m = M) := by have := HG.out; rw [List.drop_length] at this; exact this
      obtain ⟨r0, r1, r2, r3, r4, r5, r6⟩ := id HS.out.r
      go_wp2_with fail
      have Tf := HS.out.r.store (u := .int .i64 m.1) (v := .int .i64 m.2.1) (t := .int .i64 m.2.2)
      exact bodyPost_ret (v := .agg #[.int .i64 m.1, .int .i64 m.2.1, .int .i64 m.2.2]) (by simp [results, Tryd.results45, go_sem, Tf.c0, Tf.c1, Tf.c2]) rfl ⟨by rw [HE.out], ((HS.out.bel.set (Nat.le_refl _) _ _).set (Nat.le_refl _) _ _).set (Nat.le_refl _) _ _⟩
end Go.Proofs.YtfbogakmhaiddaaDoor
