/- Accidentals: places, what is displayed is read back. -/
import Derived.Test.YthmdjpfjaojihaaDoorAy
import Derived.Test.YthmdjpfjaojihaaDoorAv
import Derived.Test.YthmdjpfjaojihaaDoorAo
import Derived.Deep.RegionHeld3
import Derived.Outline
import Derived.Deep.Cut
namespace Go.Proofs.YthmdjpfjaojihaaDoor
open Go.RowKit
set_option linter.unusedVariables false
set_option linter.unusedSimpArgs false

/-- the place of a note with a mark -/
def plOf (n : Nt) (m : Int × Bool) : Pl := ⟨n.t, n.s, n.o, m.1, m.2, n.h, if n.h = true then n.a else 0⟩
def PLs (L : List Nt) (ms : Nat → Int × Bool) : List Pl := L.mapIdx fun i n => plOf n (ms i)
theorem PLs_len (L : List Nt) (ms : Nat → Int × Bool) : (PLs L ms).length = L.length := by simp [PLs]
theorem PLs_at {L : List Nt} {ms : Nat → Int × Bool} {k : Nat} {n : Nt} (h : L[k]? = some n) : (PLs L ms)[k]? = some (plOf n (ms k)) := by simp [PLs, h]
theorem PLs_of {L : List Nt} {ms : Nat → Int × Bool} {k : Nat} {p : Pl} (h : (PLs L ms)[k]? = some p) : ∃ n, L[k]? = some n ∧ p = plOf n (ms k) := by
  have hk := (List.getElem?_eq_some_iff.1 h).1
  rw [PLs_len] at hk
  have hn : L[k]? = some L[k] := List.getElem?_eq_getElem hk
  rw [PLs_at hn] at h
  cases h
  exact ⟨_, hn, rfl⟩
theorem errPL_zero : ∀ (L : List Pl) (last : Int), (∀ n ∈ L, GoodP n) → (∀ (i j : Nat) (m n : Pl), i < j → L[i]? = some m → L[j]? = some n → m.t ≤ n.t) → (∀ n ∈ L, last ≤ n.t) → errPL last L = 0 := by
  intro L
  induction L with
  | nil => intro last _ _ _; rfl
  | cons m L ih =>
    intro last hg hs hl
    obtain ⟨hp, k0, k1, hb⟩ := hg m (List.mem_cons_self ..)
    have hz : errP last m = 0 := by
      have := hl m (List.mem_cons_self ..)
      unfold errP
      rw [if_neg (by omega), if_neg (Decidable.not_not.2 hp), if_neg (by omega), if_neg (fun h => by have := hb h.1; omega)]
    show (if errP last m = 0 then errPL m.t L else errP last m) = 0
    rw [if_pos hz]
    refine ih m.t (fun n hn => hg n (List.mem_cons_of_mem _ hn)) (fun i j x y hij hx hy => hs (i + 1) (j + 1) x y (by omega) hx hy) (fun n hn => ?_)
    obtain ⟨j, hj⟩ := List.mem_iff_getElem?.1 hn
    exact hs 0 (j + 1) m n (by omega) rfl hj
theorem PLs_err {L : List Nt} {ms : Nat → Int × Bool} (hE : errL 0 L = 0) (hm : ∀ k n, L[k]? = some n → 0 ≤ (ms k).1 ∧ (ms k).1 ≤ 5) : errPL 0 (PLs L ms) = 0 := by
  obtain ⟨hl, hg⟩ := errL_good L 0 hE
  refine errPL_zero _ 0 (fun p hp => ?_) (fun i j m n hij h1 h2 => ?_) (fun p hp => ?_)
  · obtain ⟨k, hk⟩ := List.mem_iff_getElem?.1 hp
    obtain ⟨n, hn, rfl⟩ := PLs_of hk
    obtain ⟨h1, h2, h3, h4, h5⟩ := hg.each n (List.mem_of_getElem? hn)
    exact ⟨h1, (hm k n hn).1, (hm k n hn).2, fun (hh : n.h = true) => by show -2 ≤ (if n.h = true then n.a else 0) ∧ (if n.h = true then n.a else 0) ≤ 2; rw [if_pos hh]; exact ⟨h2, h3⟩⟩
  · obtain ⟨x, hx, rfl⟩ := PLs_of h1
    obtain ⟨y, hy, rfl⟩ := PLs_of h2
    exact hg.sorted i j x y (by omega) hx hy
  · obtain ⟨k, hk⟩ := List.mem_iff_getElem?.1 hp
    obtain ⟨n, hn, rfl⟩ := PLs_of hk
    exact hl n (List.mem_of_getElem? hn)
theorem disM_kind {L : List Nt} {f : Int} {k : Nat} {n : Nt} (h : L[k]? = some n) (a0 : -2 ≤ n.a) (a1 : n.a ≤ 2) : 0 ≤ (disM L f k).1 ∧ (disM L f k).1 ≤ 5 := by
  rw [disM_at h]
  unfold markM
  split
  · simp only; omega
  · simp
theorem mark_read {c : Bool} {fr : Nat → Int} {n : Nt} (a0 : -2 ≤ n.a) : altP fr (plOf n (markM c fr n)) = n.a ∧ nxtP fr (plOf n (markM c fr n)) = markF c fr n := by
  have hpx : ∀ m, pxP (plOf n m) = pxN n := fun _ => rfl
  unfold altP nxtP markF
  rw [hpx]
  unfold markM
  by_cases h : (needB c fr n || decide (n.v ≠ 0)) = true
  · simp only [h, if_true, plOf]
    have : ¬ n.a + 3 = 0 := by omega
    rw [if_neg this, if_neg this]
    have e : n.a + 3 - 3 = n.a := by omega
    rw [e]
    exact ⟨rfl, rfl⟩
  · rw [if_neg h, if_neg h]
    have hn : needB c fr n = false := by
      cases e : needB c fr n with
      | false => rfl
      | true => exact absurd (by simp [e]) h
    refine ⟨?_, by simp [plOf]⟩
    unfold needB at hn
    cases hh : n.h with
    | true => simp [plOf, hh]
    | false =>
      rw [hh] at hn
      simp only [Bool.or_eq_false_iff, Bool.not_false, Bool.true_and, decide_eq_false_iff_not, ne_eq, Decidable.not_not] at hn
      simp [plOf, hh]
      exact hn.2.symm
theorem read_disF {L : List Nt} {f : Int} {ms : Nat → Int × Bool} {K : Nat} (hg : ∀ n ∈ L, -2 ≤ n.a) (hm : ∀ j, j < K → ms j = disM L f j) : ∀ k, k ≤ K → rdF (PLs L ms) f k = disF L f k
  | 0, _ => rfl
  | k + 1, hk => by
    have ih := read_disF hg hm k (by omega)
    show (match (PLs L ms)[k]? with | none => rdF (PLs L ms) f k | some n => nxtP (rdF (PLs L ms) f k) n) = (match L[k]? with | none => disF L f k | some n => markF (conB L k) (disF L f k) n)
    rw [ih]
    cases h : L[k]? with
    | none =>
      have : (PLs L ms)[k]? = none := by simp [PLs, h]
      rw [this]
    | some n =>
      rw [PLs_at h, hm k (by omega), disM_at h]
      exact (mark_read (hg n (List.mem_of_getElem? h))).2
theorem read_back {L : List Nt} {f : Int} (hg : ∀ n ∈ L, -2 ≤ n.a) {k : Nat} {n : Nt} (h : L[k]? = some n) : rdA (PLs L (disM L f)) f k = n.a := by
  rw [rdA_at (PLs_at h), read_disF (K := k) hg (fun j _ => rfl) k (Nat.le_refl _), disM_at h]
  exact (mark_read (hg n (List.mem_of_getElem? h))).1
def cellsP (l : List Pl) : List Value := l.flatMap plC
theorem cellsP_snoc (l : List Pl) (n : Pl) : cellsP (l ++ [n]) = cellsP l ++ plC n := by simp [cellsP]
theorem cellsP_at (l : List Pl) (k : Nat) (n : Pl) (h : l[k]? = some n) : (cellsP l)[k * 7]? = some (.int .i64 n.t) ∧ (cellsP l)[k * 7 + 1]? = some (.int .i64 n.s) ∧ (cellsP l)[k * 7 + 2]? = some (.int .i64 n.o) ∧ (cellsP l)[k * 7 + 3]? = some (.int .i64 n.k) ∧ (cellsP l)[k * 7 + 4]? = some (.bool n.p) ∧ (cellsP l)[k * 7 + 5]? = some (.bool n.h) ∧ (cellsP l)[k * 7 + 6]? = some (.int .i64 n.b) := by
  induction l generalizing k with
  | nil => simp at h
  | cons q l ih =>
    have e : cellsP (q :: l) = .int .i64 q.t :: .int .i64 q.s :: .int .i64 q.o :: .int .i64 q.k :: .bool q.p :: .bool q.h :: .int .i64 q.b :: cellsP l := by simp [cellsP, plC]
    rw [e]
    cases k with
    | zero => simp at h; subst h; simp
    | succ k =>
      have := ih k (by simpa using h)
      rw [show (k + 1) * 7 = k * 7 + 7 by omega]
      exact ⟨by simpa using this.1, by simpa using this.2.1, by simpa using this.2.2.1, by simpa using this.2.2.2.1, by simpa using this.2.2.2.2.1, by simpa using this.2.2.2.2.2.1, by simpa using this.2.2.2.2.2.2⟩
theorem cellP_new (w : World) (n : Pl) (t : TypeId) (b : Nat) (hb : b = w.heap.size) : ∀ (j : Nat) (u : Value), (plC n)[j]? = some u → (w.alloc (.cells (plA n) t)).cell? ((⟨b, 0, none⟩ : Addr).add j) = some u := by
  subst hb
  intro j u hj
  unfold plC at hj
  match j, hj with
  | 0, hj => simp at hj; subst hj; simp [Addr.add, plA]
  | 1, hj => simp at hj; subst hj; simp [Addr.add, plA]
  | 2, hj => simp at hj; subst hj; simp [Addr.add, plA]
  | 3, hj => simp at hj; subst hj; simp [Addr.add, plA]
  | 4, hj => simp at hj; subst hj; simp [Addr.add, plA]
  | 5, hj => simp at hj; subst hj; simp [Addr.add, plA]
  | 6, hj => simp at hj; subst hj; simp [Addr.add, plA]
theorem infoPl : (Tryd.prog.info? 45).map (fun i => (i.zero, i.size, i.bytes)) = some (some (.agg #[.int .i64 0, .int .i64 0, .int .i64 0, .int .i64 0, .bool false, .bool false, .int .i64 0]), 7, 56) := by kernel_rfl
/-- what a loop that collects places keeps -/
structure OP (w wr : World) (v : Value) (l : List Pl) : Prop where
  bel : Bel w wr
  own : wr.ownsRow w.heap.size 45 7 v l.length (cellsP l)
theorem OP.up {w wr w' : World} {v : Value} {l : List Pl} (h : OP w wr v l) (hb : Below wr.heap.size wr w') : OP w w' v l := ⟨h.bel.up hb, ownUp h.own hb⟩
theorem OP.at {w wr : World} {v : Value} {l : List Pl} (h : OP w wr v l) : ∃ ad cap, v = .slice ad l.length cap ∧ PlAt wr ad l := by
  obtain ⟨hl, hr⟩ := h.own
  rcases hr with ⟨rfl, h0⟩ | ⟨g, cap, cur, rfl, hg, hc, hn, _, hs, ht⟩
  · have : l = [] := List.length_eq_zero_iff.1 h0
    subst this
    exact ⟨none, 0, rfl, fun k n hn => by simp at hn⟩
  · refine ⟨_, cap, rfl, fun k n hk => ⟨g, 0, rfl, ?_⟩⟩
    have hkl : k < l.length := (List.getElem?_eq_some_iff.1 hk).1
    have hx := cellsP_at l k n hk
    rw [← ht] at hx
    have rd : ∀ (j : Nat) (u : Value), (cur.toList.take (l.length * 7))[j]? = some u → wr.cell? ⟨g, j, none⟩ = some u := fun j u hj => by
      rw [List.getElem?_take] at hj
      split at hj
      · simp at hj
        simp [World.cell?, hc, hj]
      · cases hj
    obtain ⟨x0, x1, x2, x3, x4, x5, x6⟩ := hx
    refine ⟨?_, ?_, ?_, ?_, ?_, ?_, ?_⟩
    all_goals (rw [Nat.zero_add]; first | exact rd _ _ x0 | exact rd _ _ x1 | exact rd _ _ x2 | exact rd _ _ x3 | exact rd _ _ x4 | exact rd _ _ x5 | exact rd _ _ x6)
theorem below_drew {B : Nat} {a w : World} (h : Below B a w) : Below B a w.drew := ⟨h.os, h.tape, h.output, h.size, h.block⟩
theorem OP.setOther {w wr : World} {v : Value} {l : List Pl} {b i : Nat} {u : Value} (h : OP w wr v l) (hw : w.heap.size ≤ b) (hne : ∀ r, v.ownBlock = some r → r ≠ b) : OP w (wr.setCell ⟨b, i, none⟩ u) v l :=
  ⟨h.bel.set hw _ _, h.own.kept (grown_set wr b i u) (by
    cases hv : v.ownBlock with
    | none => exact .inl rfl
    | some r => exact .inr (fun e => hne r hv (by cases e; rfl)))⟩
theorem B7.put6 {w : World} {b : Nat} {t s o k y : Int} {p h : Bool} (hx : B7 w b ⟨t, s, o, k, p, h, y⟩) (x : Int) : B7 (w.setCell ⟨b, 6, none⟩ (.int .i64 x)) b ⟨t, s, o, k, p, h, x⟩ := by
  obtain ⟨h0, h1, h2, h3, h4, h5, h6⟩ := hx
  simp only at h0 h1 h2 h3 h4 h5 h6
  exact ⟨by simp [go_sem, h0], by simp [go_sem, h1], by simp [go_sem, h2], by simp [go_sem, h3], by simp [go_sem, h4], by simp [go_sem, h5], by simp [go_sem, h6]⟩
theorem take_succ_pl {L : List Pl} {k : Nat} {n : Pl} (h : L[k]? = some n) : L.take (k + 1) = L.take k ++ [n] := by
  rw [List.take_add_one, h]
  rfl
set_option maxRecDepth 100000 in
set_option maxHeartbeats 4000000 in
theorem places_ok (L : List Nt) (ms : Nat → Int × Bool) (ad : Option Addr) (cap g : Nat) (w : World) (hl : L.length ≤ 30) (h : NtAt w ad L) (hm : FilM w g L.length ms) :
    Calls Tryd.prog 18 #[.slice ad L.length cap, .slice (some ⟨g, 0, none⟩) L.length L.length] w fun e w' => ∃ v, e = .returned v ∧ OP w w' v (PLs L ms) := by
  obtain ⟨i0, hi, hz0, hz1, hz2⟩ := info_parts infoPl
  have HL := Lib.hid h
  have HM := Lib.hid hm
  clear h hm
  obtain ⟨T, hT⟩ : ∃ T, PLs L ms = T := ⟨_, rfl⟩
  have HTL := Lib.hid (show T.length = L.length by rw [← hT, PLs_len])
  have HTA := Lib.hid (show ∀ k n, L[k]? = some n → T[k]? = some (plOf n (ms k)) from fun k n hn => by rw [← hT]; exact PLs_at hn)
  rw [hT]
  clear hT
  go_enter Tryd.func18, Tryd.ntmps18
  go_wp2_with fail
  have HA := Lib.hid (show OP w w (.slice none 0 0) (T.take 0) from ⟨Bel.refl w, World.ownsRow_nil _ _ _ _⟩)
  go_loopg [5, 6] L.length (fun gm out i wr => ∃ k : Nat, k ≤ L.length ∧ gm = L.length - k ∧ i = .int .i64 (k : Int) ∧ Hid (OP w wr out (T.take k)))
  case atStart => exact ⟨0, by omega, by omega, rfl, HA⟩
  case round =>
    obtain ⟨k, hk, rfl, rfl, HS⟩ := hrel
    clear HA
    by_cases hlt : k < L.length
    · obtain ⟨n, hn⟩ : ∃ n, L[k]? = some n := ⟨_, List.getElem?_eq_getElem hlt⟩
      obtain ⟨b, off, rfl, hc6⟩ := (HL.out.up HS.out.bel.out) k n hn
      obtain ⟨⟨m0, m1⟩, _, _⟩ := (HM.out.up HS.out.bel.out) k hlt
      have HT := Lib.hid (take_succ_pl (HTA.out k n hn))
      have hl2 := Lib.hid (show (T.take k).length ≤ 30 by rw [List.length_take]; omega)
      have hw : w.heap.size ≤ wr.heap.size := HS.out.bel.size
      generalize ms k = D at HT m0 m1
      obtain ⟨mk, mp⟩ := D
      clear hn
      have C0 := Lib.hid hc6
      rcases n with ⟨t, s, a, o, hd, v⟩
      obtain ⟨c0, c1, c2, c3, c4, c5⟩ := hc6
      simp only at c0 c1 c2 c3 c4 c5 m0 m1
      go_wp2_with fail
      have i0' : (0 : Int) ≤ (k : Int) := by omega
      have i1' : (k : Int) < (L.length : Int) := by omega
      have n0 := World.new_ne wr _ c0
      have n1 := World.new_ne wr _ c1
      have n2 := World.new_ne wr _ c3
      have n3 := World.new_ne wr _ c4
      have n4 := World.new_ne wr _ m0
      have n5 := World.new_ne wr _ m1
      go_region_held3 (fun w' => w'.cell? ⟨b, off + k * 6, none⟩ = some (.int .i64 t) ∧ w'.cell? ⟨b, off + k * 6 + 1, none⟩ = some (.int .i64 s) ∧ w'.cell? ⟨b, off + k * 6 + 3, none⟩ = some (.int .i64 o) ∧ w'.cell? ⟨b, off + k * 6 + 4, none⟩ = some (.bool hd) ∧ w'.cell? ⟨g, k * 2, none⟩ = some (.int .i64 mk) ∧ w'.cell? ⟨g, k * 2 + 1, none⟩ = some (.bool mp)) (go_keep) (fail)
      go_upto_region 6 with (fail)
      have hb0 : Below wr.heap.size wr (wr.alloc (.cells (plA ⟨t, s, o, mk, mp, hd, 0⟩) 45)).drew := below_drew ((Below.refl _ wr).alloc (Nat.le_refl _) _)
      have HS2 := Lib.hid (HS.out.up hb0)
      have C2 := Lib.hid (C0.out.up hb0)
      have X2 := Lib.hid (show B7 (wr.alloc (.cells (plA ⟨t, s, o, mk, mp, hd, 0⟩) 45)).drew wr.heap.size ⟨t, s, o, mk, mp, hd, 0⟩ from (by obtain ⟨z0, z1, z2, z3, z4, z5, z6⟩ := B7.new wr ⟨t, s, o, mk, mp, hd, 0⟩ 45 wr.heap.size rfl; exact ⟨z0, z1, z2, z3, z4, z5, z6⟩))
      have fz : ((wr.alloc (.cells (plA ⟨t, s, o, mk, mp, hd, 0⟩) 45)).drew).frozen? ⟨wr.heap.size, 6, none⟩ = false := by simp [go_sem]
      have hne := fun r hr => (HS.out.own.lt r hr).2
      have hbw : b < wr.heap.size := lt_of_cell C0.out.c0
      have hwn := hw
      clear hb0 HS C0 c0 c1 c2 c3 c4 c5 m0 m1 n0 n1 n2 n3 n4 n5
      simp only [plA] at HS2 C2 X2 fz
      generalize (wr.alloc (.cells #[.int .i64 t, .int .i64 s, .int .i64 o, .int .i64 mk, .bool mp, .bool hd, .int .i64 0] 45)).drew = w2 at *
      generalize wr.heap.size = nb at *
      have hw2 : w.heap.size ≤ w2.heap.size := HS2.out.bel.size
      have hbn : b ≠ nb := by omega
      have hnb2 : nb ≠ b := by omega
      obtain ⟨c0, c1, c2, c3, c4, c5⟩ := id C2.out
      simp only at c0 c1 c2 c3 c4 c5
      have hle := hl2.out
      cases hd
      · have HT2 := Lib.hid (show T.take (k + 1) = T.take k ++ [(⟨t, s, o, mk, mp, false, 0⟩ : Pl)] from HT.out)
        have D4 := HS2
        obtain ⟨y0, y1, y2, y3, y4, y5, y6⟩ := id X2.out
        simp only at y0 y1 y2 y3 y4 y5 y6
        go_wp2_with (first | (at_builtin; refine wpList_append_own _ rfl _ _ 38 rfl w.heap.size 45 i0 (.agg #[.int .i64 0, .int .i64 0, .int .i64 0, .int .i64 0, .bool false, .bool false, .int .i64 0]) 7 56 Tryd.underlying38 hi hz0 hz1 hz2 rfl (by decide) _ _ _ rfl (D4.out.own.alloc _) ⟨_, 0, none⟩ 1 1 (plC ⟨t, s, o, mk, mp, false, 0⟩) rfl rfl (cellP_new _ _ _ _ (by simp)) (by simp [Value.oneCell', plC]) (by unfold maxLen; omega) (by omega) (by simp; omega) ?_; intro v' w9 hown' hgrow _))
        go_roundg (L.length - (k + 1))
        case measure => omega
        case rel =>
          refine ⟨k + 1, by omega, rfl, by go_num, Lib.hid ⟨Below.grown (D4.out.bel.alloc _) hgrow (by simp; omega) (fun r hr => (D4.out.own.lt r hr).1), ?_⟩⟩
          rw [HT2.out, List.length_append, cellsP_snoc]
          exact hown'
      · have HT2 := Lib.hid (show T.take (k + 1) = T.take k ++ [(⟨t, s, o, mk, mp, true, a⟩ : Pl)] from HT.out)
        have D4 := Lib.hid (HS2.out.setOther (b := nb) (i := 6) (u := .int .i64 a) hwn (fun r hr e => by have := hne r hr; omega))
        obtain ⟨y0, y1, y2, y3, y4, y5, y6⟩ := id X2.out
        simp only at y0 y1 y2 y3 y4 y5 y6
        go_wp2_with (first | (at_builtin; refine wpList_append_own _ rfl _ _ 38 rfl w.heap.size 45 i0 (.agg #[.int .i64 0, .int .i64 0, .int .i64 0, .int .i64 0, .bool false, .bool false, .int .i64 0]) 7 56 Tryd.underlying38 hi hz0 hz1 hz2 rfl (by decide) _ _ _ rfl (D4.out.own.alloc _) ⟨_, 0, none⟩ 1 1 (plC ⟨t, s, o, mk, mp, true, a⟩) rfl rfl (cellP_new _ _ _ _ (by simp)) (by simp [Value.oneCell', plC]) (by unfold maxLen; omega) (by omega) (by simp; omega) ?_; intro v' w9 hown' hgrow _))
        go_roundg (L.length - (k + 1))
        case measure => omega
        case rel =>
          refine ⟨k + 1, by omega, rfl, by go_num, Lib.hid ⟨Below.grown (D4.out.bel.alloc _) hgrow (by simp; omega) (fun r hr => (D4.out.own.lt r hr).1), ?_⟩⟩
          rw [HT2.out, List.length_append, cellsP_snoc]
          exact hown'
    · obtain rfl : k = L.length := by omega
      have HF := Lib.hid (show OP w wr _ T from by have := HS.out; rwa [List.take_of_length_le (by rw [HTL.out]; omega)] at this)
      clear HS
      have hlt2 : decide (L.length < L.length) = false := by simp
      go_wp2_with fail
      go_ret
      exact ⟨_, rfl, HF.out⟩
end Go.Proofs.YthmdjpfjaojihaaDoor
