/- Accidentals: contradictions. -/
import Derived.Test.YthmdjpfjaojihaaDoorAd
import Derived.Deep.OwnRows
import Derived.WalkMore
namespace Go.Proofs.YthmdjpfjaojihaaDoor
open Go.RowKit
set_option linter.unusedVariables false
set_option linter.unusedSimpArgs false

def FilB (w : World) (b n : Nat) (vs : Nat → Bool) : Prop := ∀ j : Nat, j < n → w.cell? ⟨b, j, none⟩ = some (.bool (vs j)) ∧ w.frozen? ⟨b, j, none⟩ = false
theorem FilB.up {w w' : World} {b n : Nat} {vs : Nat → Bool} (h : FilB w b n vs) (hb : Below w.heap.size w w') : FilB w' b n vs := fun j hj => ⟨cell_up hb (h j hj).1, (hb.frozen (p := ⟨b, j, none⟩) (lt_of_cell (h j hj).1)).trans (h j hj).2⟩
theorem FilB.set {w : World} {b n : Nat} {vs : Nat → Bool} (h : FilB w b n vs) (i : Nat) (hi : i < n) (u : Bool) : FilB (w.setCell ⟨b, i, none⟩ (.bool u)) b n (fun j => if j = i then u else vs j) := by
  intro j hj
  have hi' := h i hi
  have hj' := h j hj
  by_cases e : j = i
  · subst e
    simp [go_sem, hi'.1, hi'.2]
  · have e' : i ≠ j := fun h => e h.symm
    simp [go_sem, hj'.1, hj'.2, e, e']
theorem FilB.eq {w : World} {b n : Nat} {vs us : Nat → Bool} (h : FilB w b n vs) (e : ∀ j, j < n → vs j = us j) : FilB w b n us := fun j hj => by rw [← e j hj]; exact h j hj
theorem infoB : (Tryd.prog.info? 4).map (fun i => (i.zero, i.size, i.bytes)) = some (some (.bool false), 1, 1) := by kernel_rfl
theorem make_bool (n : Nat) (hn : n ≤ 100000) (w : World) : (Instr.makeSlice 71 (.int .i64 (n : Int)) (.int .i64 (n : Int))).run Tryd.prog w = .ok (.slice (some ⟨w.heap.size, 0, none⟩) n n) (w.alloc (.cells (madeCells #[.bool false] n) 4)) :=
  run_make_row' _ _ (.bool false) 1 Tryd.underlying71 infoB rfl _ _ n (by omega) (by omega) w
theorem filB_made (w : World) (n : Nat) (t : TypeId) (g : Nat) (hg : g = w.heap.size) : FilB (w.alloc (.cells (madeCells #[.bool false] n) t)) g n (fun _ => false) := by
  intro j hj
  subst hg
  exact ⟨tab_new w _ t _ rfl j _ (by simp [madeCells, hj, Nat.mod_one]), by simp [go_sem]⟩
/-- what notes that passed the check are -/
structure Good (L : List Nt) : Prop where
  each : ∀ n ∈ L, Pos n.s n.o ∧ -2 ≤ n.a ∧ n.a ≤ 2 ∧ 0 ≤ n.v ∧ n.v ≤ 2
  sorted : ∀ (p q : Nat) (m n : Nt), p < q → L[p]? = some m → L[q]? = some n → m.t ≤ n.t
theorem errN_zero {last : Int} {n : Nt} (h : errN last n = 0) : last ≤ n.t ∧ Pos n.s n.o ∧ -2 ≤ n.a ∧ n.a ≤ 2 ∧ 0 ≤ n.v ∧ n.v ≤ 2 := by
  unfold errN at h
  split at h
  · omega
  · split at h
    · omega
    · rename_i hp
      split at h
      · omega
      · split at h
        · omega
        · exact ⟨by omega, Decidable.not_not.1 hp, by omega, by omega, by omega, by omega⟩
theorem errL_good : ∀ (L : List Nt) (last : Int), errL last L = 0 → (∀ n ∈ L, last ≤ n.t) ∧ Good L
  | [], last, _ => ⟨fun n h => by simp at h, ⟨fun n h => by simp at h, fun p q m n _ h => by simp at h⟩⟩
  | x :: L, last, h => by
    unfold errL at h
    split at h
    · rename_i h0
      obtain ⟨e0, e1⟩ := errN_zero h0
      obtain ⟨i0, i1⟩ := errL_good L x.t h
      refine ⟨fun n hn => ?_, ⟨fun n hn => ?_, fun p q m n hpq hp hq => ?_⟩⟩
      · rcases List.mem_cons.1 hn with rfl | hn
        · exact e0
        · have := i0 n hn; omega
      · rcases List.mem_cons.1 hn with rfl | hn
        · exact e1
        · exact i1.each n hn
      · match p, q, hpq, hp, hq with
        | 0, q + 1, _, hp, hq =>
          simp at hp hq
          subst hp
          exact i0 n (List.mem_of_getElem? hq)
        | p + 1, q + 1, hpq, hp, hq =>
          simp at hp hq
          exact i1.sorted p q m n (by omega) hp hq
    · rename_i h0
      exact absurd h h0
/-- two notes of one tick and staff position with different alterations -/
def clN (m n : Nt) : Prop := m.t = n.t ∧ m.s = n.s ∧ m.o = n.o ∧ m.a ≠ n.a
instance (m n : Nt) : Decidable (clN m n) := by unfold clN; infer_instance
def clP (L : List Nt) (p q : Nat) : Prop := ∃ m n, L[p]? = some m ∧ L[q]? = some n ∧ clN m n
theorem clP.symm {L : List Nt} {p q : Nat} (h : clP L p q) : clP L q p := by
  obtain ⟨m, n, h1, h2, a, b, c, d⟩ := h
  exact ⟨n, m, h2, h1, a.symm, b.symm, c.symm, fun e => d e.symm⟩
theorem clP.lt {L : List Nt} {p q : Nat} (h : clP L p q) : p < L.length ∧ q < L.length ∧ p ≠ q := by
  obtain ⟨m, n, h1, h2, a, b, c, d⟩ := h
  refine ⟨(List.getElem?_eq_some_iff.1 h1).1, (List.getElem?_eq_some_iff.1 h2).1, ?_⟩
  rintro rfl
  rw [h1] at h2
  cases h2
  exact d rfl
/-- which notes are marked when the pairs before (k, j) are looked at -/
def CI (L : List Nt) (k j : Nat) (vs : Nat → Bool) : Prop := ∀ x, x < L.length → (vs x = true ↔ ∃ p q, p < q ∧ clP L p q ∧ (p < k ∨ p = k ∧ q < j) ∧ (x = p ∨ x = q))
theorem CI.start {L : List Nt} : CI L 0 0 (fun _ => false) := fun x _ => by simp
theorem CI.inner {L : List Nt} {k : Nat} {vs : Nat → Bool} (h : CI L k 0 vs) : CI L k (k + 1) vs := fun x hx => by
  rw [h x hx]
  constructor
  · rintro ⟨p, q, a, b, c, d⟩; exact ⟨p, q, a, b, by omega, d⟩
  · rintro ⟨p, q, a, b, c, d⟩; exact ⟨p, q, a, b, by omega, d⟩
theorem CI.next {L : List Nt} {k j : Nat} {vs : Nat → Bool} (h : CI L k j vs) (hn : ∀ q, j ≤ q → ¬ clP L k q) : CI L (k + 1) 0 vs := fun x hx => by
  rw [h x hx]
  constructor
  · rintro ⟨p, q, a, b, c, d⟩; exact ⟨p, q, a, b, by omega, d⟩
  · rintro ⟨p, q, a, b, c, d⟩
    refine ⟨p, q, a, b, ?_, d⟩
    by_cases e : p = k
    · subst e
      by_cases hq : q < j
      · exact .inr ⟨rfl, hq⟩
      · exact absurd b (hn q (by omega))
    · exact .inl (by omega)
theorem CI.miss {L : List Nt} {k j : Nat} {vs : Nat → Bool} (h : CI L k j vs) (hn : ¬ clP L k j) : CI L k (j + 1) vs := fun x hx => by
  rw [h x hx]
  constructor
  · rintro ⟨p, q, a, b, c, d⟩; exact ⟨p, q, a, b, by omega, d⟩
  · rintro ⟨p, q, a, b, c, d⟩
    refine ⟨p, q, a, b, ?_, d⟩
    rcases c with c | ⟨rfl, c⟩
    · exact .inl c
    · refine .inr ⟨rfl, ?_⟩
      by_cases e : q = j
      · subst e; exact absurd b hn
      · omega
theorem CI.hit {L : List Nt} {k j : Nat} {vs : Nat → Bool} (h : CI L k j vs) (hkj : k < j) (hc : clP L k j) : CI L k (j + 1) (fun x => if x = j then true else if x = k then true else vs x) := fun x hx => by
  show (if x = j then true else if x = k then true else vs x) = true ↔ _
  by_cases e1 : x = j
  · subst e1
    rw [if_pos rfl]
    exact ⟨fun _ => ⟨k, x, hkj, hc, .inr ⟨rfl, by omega⟩, .inr rfl⟩, fun _ => rfl⟩
  · rw [if_neg e1]
    by_cases e2 : x = k
    · subst e2
      rw [if_pos rfl]
      exact ⟨fun _ => ⟨x, j, hkj, hc, .inr ⟨rfl, by omega⟩, .inl rfl⟩, fun _ => rfl⟩
    · rw [if_neg e2, h x hx]
      constructor
      · rintro ⟨p, q, a, b, c, d⟩; exact ⟨p, q, a, b, by omega, d⟩
      · rintro ⟨p, q, a, b, c, d⟩
        refine ⟨p, q, a, b, ?_, d⟩
        rcases c with c | ⟨rfl, c⟩
        · exact .inl c
        · exact .inr ⟨rfl, by omega⟩
theorem CI.done {L : List Nt} {vs : Nat → Bool} (h : CI L L.length 0 vs) : ∀ x, x < L.length → (vs x = true ↔ ∃ q, clP L x q) := fun x hx => by
  rw [h x hx]
  constructor
  · rintro ⟨p, q, a, b, c, rfl | rfl⟩
    · exact ⟨q, b⟩
    · exact ⟨p, b.symm⟩
  · rintro ⟨q, b⟩
    obtain ⟨h1, h2, h3⟩ := b.lt
    rcases Nat.lt_or_gt_of_ne h3 with h4 | h4
    · exact ⟨x, q, h4, b, .inl h1, .inl rfl⟩
    · exact ⟨q, x, h4, b.symm, .inl h2, .inr rfl⟩
def pxI (s o : Int) : Int := 7 * (o + 1) + s
theorem pxI_eq {s o s' o' : Int} (h : Pos s o) (h' : Pos s' o') : pxI s o = pxI s' o' ↔ s = s' ∧ o = o' := by
  obtain ⟨a, b, c, d⟩ := h
  obtain ⟨a', b', c', d'⟩ := h'
  unfold pxI
  omega
set_option maxRecDepth 100000 in
set_option maxHeartbeats 2000000 in
theorem pix_ok (s o : Int) (w : World) (h : Pos s o) :
    Calls Tryd.prog 27 #[.int .i64 s, .int .i64 o] w fun e w' => e = .returned (.int .i64 (pxI s o)) ∧ Below w.heap.size w w' := by
  obtain ⟨s0, s1, o0, o1⟩ := h
  unfold pxI
  go_enter Tryd.func27, Tryd.ntmps27
  go_wp2_with fail
  go_ret
  exact ⟨by first | rfl | (simp; done) | (simp; omega), Below.refl _ _⟩
set_option maxRecDepth 100000 in
set_option maxHeartbeats 2000000 in
theorem position_ok (n : Nt) (w : World) (h : Pos n.s n.o) :
    Calls Tryd.prog 31 #[.agg (ntA n)] w fun e w' => e = .returned (.int .i64 (pxI n.s n.o)) ∧ Below w.heap.size w w' := by
  have HP := Lib.hid h
  have X0 := Lib.hid (B6.new w n 61 w.heap.size rfl)
  have B0 := Lib.hid ((Bel.refl w).alloc (.cells (ntA n) 61))
  rcases n with ⟨t, s, a, o, hd, v⟩
  obtain ⟨x0, x1, x2, x3, x4, x5⟩ := id X0.out
  simp only [ntA] at x0 x1 x2 x3 x4 x5 HP B0 ⊢
  go_enter Tryd.func31, Tryd.ntmps31
  go_wp2_with fail
  try (go_quiet (fail); go_wp2_with fail)
  refine (pix_ok s o _ HP.out).mono ?_
  rintro e w1 ⟨rfl, hb⟩
  have B1 := Lib.hid (B0.out.up hb)
  go_wp2_with fail
  go_ret
  exact ⟨rfl, B1.out.out⟩
set_option maxRecDepth 100000 in
set_option maxHeartbeats 8000000 in
theorem contra_ok (L : List Nt) (ad : Option Addr) (cap : Nat) (w : World) (hl : L.length ≤ 2560) (hg : Good L) (h : NtAt w ad L) :
    Calls Tryd.prog 30 #[.slice ad L.length cap] w fun e w' => ∃ (g : Nat) (vs : Nat → Bool), e = .returned (.slice (some ⟨g, 0, none⟩) L.length L.length) ∧ w.heap.size ≤ g ∧ FilB w' g L.length vs ∧ (∀ x, x < L.length → (vs x = true ↔ ∃ q, clP L x q)) ∧ Below w.heap.size w w' := by
  have HA := Lib.hid h
  have HG := Lib.hid hg
  have hmk := make_bool L.length (by omega)
  have F0 := Lib.hid (filB_made w L.length 4 w.heap.size rfl)
  have B0 := Lib.hid ((Bel.refl w).alloc (.cells (madeCells #[.bool false] L.length) 4))
  clear h hg
  go_enter Tryd.func30, Tryd.ntmps30
  go_wp2_with fail
  go_step3
  go_wp2_with fail
  go_step3
  go_wp2_with fail
  generalize (w.alloc (.cells (madeCells #[.bool false] L.length) 4)) = W at *
  go_loopg [13] L.length (fun gm i wr => ∃ (k : Nat) (vs : Nat → Bool), k ≤ L.length ∧ gm = L.length - k ∧ i = .int .i64 (k : Int) ∧ Hid (FilB wr w.heap.size L.length vs) ∧ Hid (CI L k 0 vs) ∧ Hid (Bel w wr))
  case atStart => exact ⟨0, _, by omega, by omega, rfl, F0, Lib.hid CI.start, B0⟩
  case round =>
    obtain ⟨k, vs, hk, rfl, rfl, HV, HC, HB⟩ := hrel
    clear F0 B0 hmk
    by_cases hlt : k < L.length
    · obtain ⟨n, hn⟩ : ∃ n, L[k]? = some n := ⟨_, List.getElem?_eq_getElem hlt⟩
      obtain ⟨b, off, rfl, hc6⟩ := (HA.out.up HB.out.out) k n hn
      have B1 := Lib.hid (HB.out.alloc (.cells (ntA n) 61))
      have X1 := Lib.hid (B6.new wr n 61 wr.heap.size rfl)
      have V1 := Lib.hid (HV.out.up ((Below.refl _ wr).alloc (Nat.le_refl _) (.cells (ntA n) 61)))
      have C1 := Lib.hid (CI.inner HC.out)
      have Hn := Lib.hid hn
      have Hp := Lib.hid (HG.out.each n (List.mem_of_getElem? hn)).1
      have hgw : w.heap.size < wr.heap.size := by
        have := HB.out.size
        rcases Nat.lt_or_ge w.heap.size wr.heap.size with h | h
        · exact h
        · have := lt_of_cell (HV.out 0 (by omega)).1; omega
      clear hn
      rcases n with ⟨t, s, a, o, hd, v⟩
      obtain ⟨c0, c1, c2, c3, c4, c5⟩ := hc6
      simp only [ntA] at c0 c1 c2 c3 c4 c5 B1 V1
      clear HV HC HB
      go_wp2_with fail
      clear c0 c1 c2 c3 c4 c5
      have hnp : w.heap.size ≠ wr.heap.size := by omega
      generalize wr.heap.size = p at *
      go_loopg [6] (L.length - (k + 1)) (fun gm i wr => ∃ (j : Nat) (us : Nat → Bool), k + 1 ≤ j ∧ j ≤ L.length ∧ gm = L.length - j ∧ i = .int .i64 (j : Int) ∧ Hid (FilB wr w.heap.size L.length us) ∧ Hid (CI L k j us) ∧ Hid (B6 wr p ⟨t, s, a, o, hd, v⟩) ∧ Hid (Bel w wr))
      case atStart => exact ⟨k + 1, vs, by omega, by omega, by omega, by go_num, V1, C1, X1, B1⟩
      case round =>
        obtain ⟨j, us, hkj, hj, rfl, rfl, HV, HC, HX, HB⟩ := hrel
        clear V1 C1 X1 B1
        by_cases hjl : j < L.length
        · obtain ⟨m, hm⟩ : ∃ m, L[j]? = some m := ⟨_, List.getElem?_eq_getElem hjl⟩
          obtain ⟨b2, off2, he, hc6⟩ := (HA.out.up HB.out.out) j m hm
          cases he
          have B2 := Lib.hid (HB.out.alloc (.cells (ntA m) 61))
          have hup : Below wr.heap.size wr (wr.alloc (.cells (ntA m) 61)) := (Below.refl _ wr).alloc (Nat.le_refl _) _
          have Y2 := Lib.hid (B6.new wr m 61 wr.heap.size rfl)
          have X2 := Lib.hid (HX.out.up hup)
          have V2 := Lib.hid (HV.out.up hup)
          have Hm := Lib.hid hm
          have Hq := Lib.hid (HG.out.each m (List.mem_of_getElem? hm)).1
          have HSo := Lib.hid (fun (q : Nat) (z : Nt) (hq : j < q) (hz : L[q]? = some z) => HG.out.sorted j q m z hq hm hz)
          have HSo2 := Lib.hid (HG.out.sorted k j _ m (by omega) Hn.out hm)
          clear hm hup
          rcases m with ⟨t2, s2, a2, o2, hd2, v2⟩
          obtain ⟨c0, c1, c2, c3, c4, c5⟩ := hc6
          obtain ⟨x0, x1, x2, x3, x4, x5⟩ := id X2.out
          obtain ⟨y0, y1, y2, y3, y4, y5⟩ := id Y2.out
          simp only [ntA] at c0 c1 c2 c3 c4 c5 B2 V2 x0 x1 x2 x3 x4 x5 y0 y1 y2 y3 y4 y5
          clear HX HB
          by_cases htt : t2 = t
          · subst htt
            have hKP := Lib.hid (pxI_eq Hq.out Hp.out)
            have KM := fun wz => position_ok ⟨t2, s2, a2, o2, hd2, v2⟩ wz Hq.out
            have KN := fun wz => position_ok ⟨t2, s, a, o, hd, v⟩ wz Hp.out
            simp only [ntA] at KM KN hKP
            have KM := Lib.hid KM
            have KN := Lib.hid KN
            by_cases hps : pxI s2 o2 = pxI s o
            · have hso := hKP.out.1 hps
              have hpb : (pxI s2 o2 == pxI s o) = true := by simpa using hps
              by_cases haa : a2 = a
              · have HN := Lib.hid (CI.miss HC.out (fun hcl => by
                  obtain ⟨m1, n1, h1, h2, _, _, _, e⟩ := hcl
                  rw [Hn.out] at h1
                  rw [Hm.out] at h2
                  cases h1
                  cases h2
                  exact e haa.symm))
                have hab : (a2 != a) = false := by simpa using haa
                clear HC haa hso hps hKP
                generalize pxI s2 o2 = P1 at *
                generalize pxI s o = P2 at *
                go_wp2_with fail
                clear c0 c1 c2 c3 c4 c5 x0 x1 x2 x3 x4 x5 y0 y1 y2 y3 y4 y5
                refine Qt.regionAll (by kernel_rfl) (by kernel_rfl) ?_
                intro TT ff F hne
                have RB := Lib.hid (fun g => B2.out.up (F.below g))
                have RV := Lib.hid (fun g => V2.out.up (F.below g))
                have RX := Lib.hid (fun g => X2.out.up (F.below g))
                have RY := Lib.hid (fun g => Y2.out.up (F.below g))
                have RX0 := fun g => (RX.out g).c0
                have RX1 := fun g => (RX.out g).c1
                have RX2 := fun g => (RX.out g).c2
                have RX3 := fun g => (RX.out g).c3
                have RX4 := fun g => (RX.out g).c4
                have RX5 := fun g => (RX.out g).c5
                have RY0 := fun g => (RY.out g).c0
                have RY1 := fun g => (RY.out g).c1
                have RY2 := fun g => (RY.out g).c2
                have RY3 := fun g => (RY.out g).c3
                have RY4 := fun g => (RY.out g).c4
                have RY5 := fun g => (RY.out g).c5
                simp only at RX0 RX1 RX2 RX3 RX4 RX5 RY0 RY1 RY2 RY3 RY4 RY5
                clear B2 V2 X2 Y2
                repeat (go_big_quiet_step (first | (go_at_call 31; with_reducible exact F.call (KM.out _)) | (go_at_call 31; with_reducible exact F.call (KN.out _))))
                refine wpQuiet_nil ?_
                rintro _ ⟨g, rfl⟩
                have B4 := Lib.hid (RB.out g)
                have V4 := Lib.hid (RV.out g)
                have X4 := Lib.hid (RX.out g)
                clear RB RV RX RY hne RX0 RX1 RX2 RX3 RX4 RX5 RY0 RY1 RY2 RY3 RY4 RY5 F
                generalize ff g = w4 at *
                clear ff
                go_wp2_with fail
                go_roundg (L.length - (j + 1))
                case measure => omega
                case rel => exact ⟨j + 1, us, by omega, by omega, rfl, by go_num, V4, HN, X4, B4⟩
              · have hcl : clP L k j := ⟨_, _, Hn.out, Hm.out, rfl, hso.1.symm, hso.2.symm, fun e => haa e.symm⟩
                have HN := Lib.hid (CI.hit HC.out (by omega) hcl)
                have hab : (a2 != a) = true := by simpa using haa
                clear HC haa hso hps hcl hKP
                generalize pxI s2 o2 = P1 at *
                generalize pxI s o = P2 at *
                go_wp2_with fail
                clear c0 c1 c2 c3 c4 c5 x0 x1 x2 x3 x4 x5 y0 y1 y2 y3 y4 y5
                refine Qt.regionAll (by kernel_rfl) (by kernel_rfl) ?_
                intro TT ff F hne
                have RB := Lib.hid (fun g => B2.out.up (F.below g))
                have RV := Lib.hid (fun g => V2.out.up (F.below g))
                have RX := Lib.hid (fun g => X2.out.up (F.below g))
                have RY := Lib.hid (fun g => Y2.out.up (F.below g))
                have RX0 := fun g => (RX.out g).c0
                have RX1 := fun g => (RX.out g).c1
                have RX2 := fun g => (RX.out g).c2
                have RX3 := fun g => (RX.out g).c3
                have RX4 := fun g => (RX.out g).c4
                have RX5 := fun g => (RX.out g).c5
                have RY0 := fun g => (RY.out g).c0
                have RY1 := fun g => (RY.out g).c1
                have RY2 := fun g => (RY.out g).c2
                have RY3 := fun g => (RY.out g).c3
                have RY4 := fun g => (RY.out g).c4
                have RY5 := fun g => (RY.out g).c5
                simp only at RX0 RX1 RX2 RX3 RX4 RX5 RY0 RY1 RY2 RY3 RY4 RY5
                clear B2 V2 X2 Y2
                repeat (go_big_quiet_step (first | (go_at_call 31; with_reducible exact F.call (KM.out _)) | (go_at_call 31; with_reducible exact F.call (KN.out _))))
                refine wpQuiet_nil ?_
                rintro _ ⟨g, rfl⟩
                have B4 := Lib.hid (RB.out g)
                have V4 := Lib.hid (RV.out g)
                have X4 := Lib.hid (RX.out g)
                clear RB RV RX RY hne RX0 RX1 RX2 RX3 RX4 RX5 RY0 RY1 RY2 RY3 RY4 RY5 F
                generalize ff g = w4 at *
                clear ff
                have V5 := Lib.hid ((V4.out.set k (by omega) true).set j hjl true)
                have X5 := Lib.hid ((X4.out.set (c := w.heap.size) (i := k) (u := .bool true) hnp).set (c := w.heap.size) (i := j) (u := .bool true) hnp)
                have B5 := Lib.hid ((B4.out.set (Nat.le_refl _) k (.bool true)).set (Nat.le_refl _) j (.bool true))
                obtain ⟨f0, f1⟩ := V4.out k (by omega)
                obtain ⟨f2, f3⟩ := V4.out j hjl
                go_wp2_with fail
                go_roundg (L.length - (j + 1))
                case measure => omega
                case rel => exact ⟨j + 1, _, by omega, by omega, rfl, by go_num, V5, HN, X5, B5⟩
            · have HN := Lib.hid (CI.miss HC.out (fun hcl => by
                obtain ⟨m1, n1, h1, h2, _, e1, e2, _⟩ := hcl
                rw [Hn.out] at h1
                rw [Hm.out] at h2
                cases h1
                cases h2
                exact hps (hKP.out.2 ⟨e1.symm, e2.symm⟩)))
              have hpb : (pxI s2 o2 == pxI s o) = false := by simpa using hps
              clear HC hps hKP
              generalize pxI s2 o2 = P1 at *
              generalize pxI s o = P2 at *
              go_wp2_with fail
              clear c0 c1 c2 c3 c4 c5 x0 x1 x2 x3 x4 x5 y0 y1 y2 y3 y4 y5
              refine Qt.regionAll (by kernel_rfl) (by kernel_rfl) ?_
              intro TT ff F hne
              have RB := Lib.hid (fun g => B2.out.up (F.below g))
              have RV := Lib.hid (fun g => V2.out.up (F.below g))
              have RX := Lib.hid (fun g => X2.out.up (F.below g))
              have RY := Lib.hid (fun g => Y2.out.up (F.below g))
              have RX0 := fun g => (RX.out g).c0
              have RX1 := fun g => (RX.out g).c1
              have RX2 := fun g => (RX.out g).c2
              have RX3 := fun g => (RX.out g).c3
              have RX4 := fun g => (RX.out g).c4
              have RX5 := fun g => (RX.out g).c5
              have RY0 := fun g => (RY.out g).c0
              have RY1 := fun g => (RY.out g).c1
              have RY2 := fun g => (RY.out g).c2
              have RY3 := fun g => (RY.out g).c3
              have RY4 := fun g => (RY.out g).c4
              have RY5 := fun g => (RY.out g).c5
              simp only at RX0 RX1 RX2 RX3 RX4 RX5 RY0 RY1 RY2 RY3 RY4 RY5
              clear B2 V2 X2 Y2
              repeat (go_big_quiet_step (first | (go_at_call 31; with_reducible exact F.call (KM.out _)) | (go_at_call 31; with_reducible exact F.call (KN.out _))))
              refine wpQuiet_nil ?_
              rintro _ ⟨g, rfl⟩
              have B4 := Lib.hid (RB.out g)
              have V4 := Lib.hid (RV.out g)
              have X4 := Lib.hid (RX.out g)
              clear RB RV RX RY hne RX0 RX1 RX2 RX3 RX4 RX5 RY0 RY1 RY2 RY3 RY4 RY5 F
              generalize ff g = w4 at *
              clear ff
              go_wp2_with fail
              go_roundg (L.length - (j + 1))
              case measure => omega
              case rel => exact ⟨j + 1, us, by omega, by omega, rfl, by go_num, V4, HN, X4, B4⟩
          · have HN := Lib.hid (CI.next HC.out (fun q hq hcl => by
              obtain ⟨m1, n1, h1, h2, e, _⟩ := hcl
              rw [Hn.out] at h1
              cases h1
              have h3 := HSo2.out
              simp only at h3 e
              rcases Nat.lt_or_ge j q with h4 | h4
              · have h5 := HSo.out q n1 h4 h2
                simp only at h5
                omega
              · have : q = j := by omega
                subst this
                rw [Hm.out] at h2
                cases h2
                simp only at e
                omega))
            have hb1 : (t2 != t) = true := by simpa using htt
            clear HC htt
            go_wp2_with fail
            go_roundg (L.length - (k + 1))
            case measure => omega
            case rel => exact ⟨k + 1, us, by omega, rfl, by go_num, V2, HN, B2⟩
        · obtain rfl : j = L.length := by omega
          have HN := Lib.hid (CI.next HC.out (fun q hq hcl => by have := hcl.lt; omega))
          go_wp2_with fail
          go_roundg (L.length - (k + 1))
          case measure => omega
          case rel => exact ⟨k + 1, us, by omega, rfl, by go_num, HV, HN, HB⟩
    · obtain rfl : k = L.length := by omega
      have HD := Lib.hid (CI.done HC.out)
      go_wp2_with fail
      first | go_ret | (rw [Exit.noGoto_ret]; go_ret)
      exact ⟨_, vs, rfl, Nat.le_refl _, HV.out, HD.out, HB.out.out⟩
end Go.Proofs.YthmdjpfjaojihaaDoor
