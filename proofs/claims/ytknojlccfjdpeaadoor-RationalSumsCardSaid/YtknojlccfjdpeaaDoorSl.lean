/- The walk of the law on sums. -/
import Derived.Test.YtknojlccfjdpeaaDoorSd
import Derived.OwnWalk
import Derived.Deep.RegionHeld3
import Derived.Deep.DeepCutAuto
import Derived.Deep.CutBlock
namespace Go.Proofs.YtknojlccfjdpeaaDoor
open Go.RowKit
set_option linter.unusedVariables false
set_option linter.unusedSimpArgs false

theorem infoR : (Tryd.prog.info? 24).map (fun i => (i.zero, i.size, i.bytes)) = some (some (.agg #[.int .i64 0, .int .i64 0]), 2, 16) := by kernel_rfl

/-- the first k fractions of the list -/
def fracs (X Y : Nat → Int) (k : Nat) : List (Int × Int) := (List.range k).map fun i => clQ (X i) (Y i)
theorem fracs_len (X Y : Nat → Int) (k : Nat) : (fracs X Y k).length = k := by simp [fracs]
theorem fracs_snoc (X Y : Nat → Int) (k : Nat) : fracs X Y (k + 1) = fracs X Y k ++ [clQ (X k) (Y k)] := by
  unfold fracs; rw [List.range_succ, List.map_append]; rfl
theorem fracs_low (X Y : Nat → Int) (k : Nat) : ∀ (j : Nat) (p : Int × Int), (fracs X Y k)[j]? = some p → Rat1.Low p.1 p.2 := by
  intro j p h
  have := List.mem_of_getElem? h
  unfold fracs at this
  simp only [List.mem_map] at this
  obtain ⟨i, _, rfl⟩ := this
  exact clQ_low _ _

theorem Two.other {w : World} {b c o : Nat} {x y v : Value} (h : Two w b x y) (hc : b ≠ c) : Two (w.setCell ⟨c, o, none⟩ v) b x y := by
  obtain ⟨h0, h1, h2, h3, h4⟩ := h
  exact ⟨by simpa [go_sem] using h0, by simp [go_sem, *], by simp [go_sem, *], by simp [go_sem, *], by simp [go_sem, *]⟩
theorem Two.new1 (w : World) (o : Obj) (x y : Value) (t : TypeId) : Two ((w.alloc o).alloc (.cells #[x, y] t)) (w.heap.size + 1) x y := Two.new _ _ _ _ _ (by simp)
theorem own_up {w w' : World} {base : Nat} {e : TypeId} {size : Nat} {v : Value} {n : Nat} {xs : List Value} (h : w.ownsRow base e size v n xs) (hb : Below w.heap.size w w') : w'.ownsRow base e size v n xs :=
  h.kept (row := none) ⟨hb.os, hb.tape, hb.output, hb.size, fun k hk _ => hb.block k hk⟩ (by cases v.ownBlock <;> simp)
theorem Two.grown {w w' : World} {row : Option Nat} {b : Nat} {x y : Value} (h : Two w b x y) (hg : w.grownBy w' row) (hne : some b ≠ row) : Two w' b x y := by
  have e := hg.block b h.lt hne
  exact ⟨Nat.lt_of_lt_of_le h.lt hg.size, (World.cell?_of_block (a := ⟨b, 0, none⟩) e).trans h.c0, (World.cell?_of_block (a := ⟨b, 1, none⟩) e).trans h.c1, (World.frozen?_of_block (a := ⟨b, 0, none⟩) e).trans h.f0, (World.frozen?_of_block (a := ⟨b, 1, none⟩) e).trans h.f1⟩
theorem own_set {w : World} {base : Nat} {e : TypeId} {size : Nat} {v : Value} {n : Nat} {xs : List Value} (h : w.ownsRow base e size v n xs) {b o : Nat} (hb : b < base) (u : Value) : (w.setCell ⟨b, o, none⟩ u).ownsRow base e size v n xs :=
  ownsRow_setCell_below h (a := ⟨b, o, none⟩) hb u
/-- the world of the law's loop: the sum of the reference, the list of the program -/
structure LR (w wr : World) (v : Value) (L : List (Int × Int)) : Prop where
  bel : Bel w wr
  s : Two wr w.heap.size (.int .i64 (Rat1.accN L)) (.int .i64 (Rat1.accD L))
  own : wr.ownsRow (w.heap.size + 1) 24 2 v L.length (Rat1.cellsQ L)
  nil : L = [] → v = .slice none 0 0

theorem LR.up {w wr w' : World} {v : Value} {L : List (Int × Int)} (h : LR w wr v L) (hb : Below wr.heap.size wr w') : LR w w' v L := ⟨h.bel.up hb, h.s.up hb, own_up h.own hb, h.nil⟩
/-- .. when the program's list has grown -/
structure LG (w w1 : World) (v : Value) (L : List (Int × Int)) (p : Int × Int) (kp : Nat) : Prop where
  bel : Bel w w1
  s : Two w1 w.heap.size (.int .i64 (Rat1.accN L)) (.int .i64 (Rat1.accD L))
  own : w1.ownsRow (w.heap.size + 1) 24 2 v (L.length + 1) (Rat1.cellsQ L ++ [.int .i64 p.1, .int .i64 (p.2 - 1)])
  tp : Two w1 kp (.int .i64 p.1) (.int .i64 p.2)
theorem LG.mk' {w wr wc w1 : World} {v v' : Value} {L : List (Int × Int)} {p : Int × Int} {kp : Nat} {o : Obj} (h : LR w wr v L) (hb : Bel wr wc) (tp : Two wc kp (.int .i64 p.1) (.int .i64 p.2)) (hk : wr.heap.size ≤ kp)
    (own : w1.ownsRow (w.heap.size + 1) 24 2 v' (L.length + 1) (Rat1.cellsQ L ++ [.int .i64 p.1, .int .i64 (p.2 - 1)])) (hg : (wc.alloc o).grownBy w1 v.ownBlock) : LG w w1 v' L p kp := by
  have h' := h.up hb
  have lt := h.own.lt
  have ne : ∀ b, (b = w.heap.size ∨ wr.heap.size ≤ b) → some b ≠ v.ownBlock := by
    intro b hb e
    have := lt b e.symm
    omega
  refine ⟨?_, (h'.s.alloc o).grown hg (ne _ (.inl rfl)), own, (tp.alloc o).grown hg (ne _ (.inr hk))⟩
  have B := h'.bel.alloc o
  refine Below.trans B ?_
  exact ⟨hg.os, hg.tape, hg.output, hg.size, fun k hk => hg.block k (Nat.lt_of_lt_of_le hk B.size) (fun e => by have := lt k e.symm; omega)⟩
/-- the next round, the sum left as it is -/
theorem LG.left {w w1 : World} {v : Value} {L : List (Int × Int)} {p : Int × Int} {kp : Nat} (h : LG w w1 v L p kp) (hf : Rat1.accE L ≠ 0) : LR w w1 v (L ++ [p]) := by
  obtain ⟨e1, e2, e3⟩ := Rat1.acc_err (p := p) hf
  refine ⟨h.bel, by rw [e1, e2]; exact h.s, ?_, by simp⟩
  rw [Rat1.cellsQ_snoc, List.length_append]
  exact h.own
/-- .. and added to -/
theorem LG.added {w w1 w2 : World} {v : Value} {L : List (Int × Int)} {p : Int × Int} {kp : Nat} (h : LG w w1 v L p kp) (hf : Rat1.accE L = 0) (hb : Below w1.heap.size w1 w2) :
    LR w ((w2.setCell ⟨w.heap.size, 0, none⟩ (.int .i64 (Rat1.ofN (Rat1.accN L * p.2 + p.1 * Rat1.accD L) (Rat1.accD L * p.2)))).setCell ⟨w.heap.size, 1, none⟩ (.int .i64 (Rat1.ofD (Rat1.accN L * p.2 + p.1 * Rat1.accD L) (Rat1.accD L * p.2)))) v (L ++ [p]) := by
  obtain ⟨e1, e2, e3⟩ := Rat1.acc_ok (p := p) hf
  refine ⟨(((h.bel.up hb).set (Nat.le_refl _) _ _).set (Nat.le_refl _) _ _), by rw [e1, e2]; exact (h.s.up hb).store, ?_, by simp⟩
  rw [Rat1.cellsQ_snoc, List.length_append]
  exact own_set (own_set (own_up h.own hb) (by omega) _) (by omega) _

theorem sum_owned {w wr : World} {v : Value} {L : List (Int × Int)} (h : LR w wr v L) (hn : L.length ≤ 20) (hl : ∀ (j : Nat) (p : Int × Int), L[j]? = some p → Rat1.Low p.1 p.2) :
    Calls Tryd.prog 14 #[v] wr fun e w' => e = .returned (.tuple #[.agg #[.int .i64 (Rat1.accN L), .int .i64 (Rat1.accD L - 1)], .int .i64 (Rat1.accE L)]) ∧ Below wr.heap.size wr w' := by
  cases hL : L with
  | nil =>
    rw [h.nil hL]
    exact sum_nil wr
  | cons q M =>
    rw [← hL]
    have hne : 0 < L.length := by rw [hL]; simp
    have own := h.own
    rcases own.2 with ⟨_, h0⟩ | ⟨g, cap, cur, rfl, hg, hgg, hr⟩
    · omega
    · refine sum_any L g cap wr (Array.getElem?_eq_some_iff.1 hgg).1 hn (Lib.hid fun k p hp => ?_)
      have hk : k < L.length := by
        rcases Nat.lt_or_ge k L.length with h | h
        · exact h
        · rw [List.getElem?_eq_none h] at hp; cases hp
      have c := Rat1.cellsQ_at L k p hp
      refine ⟨hl k p hp, ?_, ?_⟩
      · rw [own.cellAt (k * 2) (by omega), Nat.mul_comm]; exact c.1
      · rw [own.cellAt (k * 2 + 1) (by omega), Nat.mul_comm]; exact c.2
theorem same_acc (L : List (Int × Int)) (w : World) :
    Calls Tryd.prog 12 #[.agg #[.int .i64 (Rat1.accN L), .int .i64 (Rat1.accD L - 1)], .int .i64 (Rat1.accE L), .agg #[.int .i64 (Rat1.accN L), .int .i64 (Rat1.accD L)], .int .i64 (Rat1.accE L)] w fun e w' => e = .returned (.bool true) ∧ Below w.heap.size w w' := by
  rcases Rat1.acc_cases L with ⟨h1, h2⟩ | ⟨h1, h2, h3⟩
  · rw [h1]; exact same_okD _ _ w h2
  · rw [h2, h3]; exact same_err (Rat1.accE L) (Rat1.accE L) 0 1 w (by simpa using h1) rfl

set_option maxRecDepth 100000 in
set_option maxHeartbeats 4000000 in
theorem law_RationalSums_some (b off len cap : Nat) (X Y : Nat → Int) (w : World) (hb : b < w.heap.size) (h0 : 0 < len) (hl : len ≤ 9223372036854775807) (ht : Tab w)
    (hc : Hid (∀ k, k < len → w.cell? ⟨b, off + k * 2, none⟩ = some (.int .i64 (X k)) ∧ w.cell? ⟨b, off + k * 2 + 1, none⟩ = some (.int .i64 (Y k)))) :
    Calls Tryd.prog 5 #[.slice (some ⟨b, off, none⟩) len cap] w fun e w' => e = .returned (.bool true) ∧ Below w.heap.size w w' := by
  have HT := Lib.hid ht
  clear ht
  obtain ⟨i0, hi, hz0, hz1, hz2⟩ := info_parts infoR
  have HI := Lib.hid (And.intro hi (And.intro hz0 (And.intro hz1 hz2)))
  clear hi hz0 hz1 hz2
  go_enter Tryd.func5, Tryd.ntmps5
  go_wp2_with fail
  have S1 := Lib.hid (show LR w (w.alloc (Obj.cells #[.int .i64 0, .int .i64 1] 26)) (.slice none 0 0) (fracs X Y 0) from
    ⟨(Bel.refl w).alloc _, Two.new _ _ _ _ _ rfl, World.ownsRow_nil _ _ _ _, fun _ => rfl⟩)
  go_loopg [3, 5, 6] (min len 20) (fun g v f i wr => ∃ k : Nat, k ≤ min len 20 ∧ g = min len 20 - k ∧ i = .int .i64 k ∧ f = .int .i64 (Rat1.accE (fracs X Y k)) ∧ Hid (LR w wr v (fracs X Y k)))
  case atStart => exact ⟨0, by omega, by omega, rfl, rfl, S1⟩
  case round =>
    obtain ⟨k, hk, rfl, rfl, rfl, HS⟩ := hrel
    clear S1
    by_cases hlt : k < min len 20
    · obtain ⟨c0, c1⟩ := hc.out k (by omega)
      have e0 := (HS.out.bel.out.cell (p := ⟨b, off + k * 2, none⟩) hb).trans c0
      have e1 := (HS.out.bel.out.cell (p := ⟨b, off + k * 2 + 1, none⟩) hb).trans c1
      clear c0 c1
      have k1 : k < len := by omega
      have k2 : k < 20 := by omega
      clear hk hlt
      have hbr : b < wr.heap.size := Nat.lt_of_lt_of_le hb HS.out.bel.size
      have HC : Hid (∀ W : World, Bel wr W → W.cell? ⟨b, off + k * 2, none⟩ = some (.int .i64 (X k)) ∧ W.cell? ⟨b, off + k * 2 + 1, none⟩ = some (.int .i64 (Y k))) :=
        fun W hW => ⟨(hW.out.cell (p := ⟨b, off + k * 2, none⟩) hbr).trans e0, (hW.out.cell (p := ⟨b, off + k * 2 + 1, none⟩) hbr).trans e1⟩
      go_wp2_with fail
      generalize hx : X k = x at *
      generalize hy : Y k = y at *
      have HX := Lib.hid hx
      have HY := Lib.hid hy
      clear hx hy
      have HQ := Lib.hid (rfl : clQ x y = clQ x y)
      go_cut [7, 8] (fun va vb wc => ∃ kx kp : Nat, va = .pointer (some ⟨kx, 0, none⟩) ∧ vb = .pointer (some ⟨kp, 0, none⟩) ∧ Bel wr wc ∧ Two wc kx (.int .i64 (clQ x y).1) (.int .i64 ((clQ x y).2 - 1)) ∧ Two wc kp (.int .i64 (clQ x y).1) (.int .i64 (clQ x y).2) ∧ wr.heap.size ≤ kp)
      case first =>
        go_region_held3 (fun W => W.cell? ⟨b, off + k * 2, none⟩ = some (.int .i64 x) ∧ W.cell? ⟨b, off + k * 2 + 1, none⟩ = some (.int .i64 y))
          (exact HC.out _ (by repeat (first | exact Bel.refl _ | apply Bel.alloc | apply Bel.drew | (refine Bel.set ?_ (by omega) _ _) | (refine Bel.up ?_ (by assumption)))))
          (first | (go_at_call 6; refine (of_det _ _ _).mono ?_; rintro e W1 ⟨rfl, hb1⟩; have s1 := hb1.size; (try simp [go_sem] at s1); (first | (have TA := Two.up ((Two.new wr (.int .i64 0) (.int .i64 0) _ _ rfl).alloc _) hb1; have TB := Two.up (Two.new1 wr _ (.int .i64 0) (.int .i64 0) _) hb1; obtain ⟨a0, a1, a2, a3, a4⟩ := id TA; obtain ⟨b0, b1, b2, b3, b4⟩ := id TB) | (have TA := Two.up (Two.drew ((Two.new wr (.int .i64 0) (.int .i64 0) _ _ rfl).alloc _)) hb1; have TB := Two.up (Two.drew (Two.new1 wr _ (.int .i64 0) (.int .i64 0) _)) hb1; obtain ⟨a0, a1, a2, a3, a4⟩ := id TA; obtain ⟨b0, b1, b2, b3, b4⟩ := id TB) | (have TA := Two.up (Two.new wr (.int .i64 0) (.int .i64 0) _ _ rfl) hb1; obtain ⟨a0, a1, a2, a3, a4⟩ := id TA) | (have TA := Two.up (Two.drew (Two.new wr (.int .i64 0) (.int .i64 0) _ _ rfl)) hb1; obtain ⟨a0, a1, a2, a3, a4⟩ := id TA) | skip)))
        all_goals (go_wp2_with fail; go_meet)
        all_goals (refine ⟨_, _, rfl, rfl, ?_, ?_, ?_, ?_⟩)
        all_goals first
          | omega
          | ((repeat (first | exact Bel.refl _ | apply Bel.alloc | apply Bel.drew | (refine Bel.set ?_ (by omega) _ _) | (refine Bel.up ?_ (by assumption)))); done)
          | ((repeat (first | exact TA | exact TB | exact Two.new _ _ _ _ _ (by simp) | (refine Two.store (x := .int .i64 0) (y := .int .i64 0) ?_) | apply Two.alloc | (refine Two.other ?_ (by omega)))); done)
      case rest =>
        obtain ⟨kx, kp, rfl, rfl, hB, hx, hp, hkp⟩ := hcut
        have HB := Lib.hid hB
        have TX := hx
        have TP := hp
        clear hx hp hB e0 e1
        obtain ⟨x0, x1, x2, x3, x4⟩ := id TX
        obtain ⟨i1, i2, i3, i4⟩ := HI.out
        have hown := (HS.out.up HB.out.out).own
        have hsz : wr.heap.size ≤ wc.heap.size := HB.out.size
        have hsz2 : w.heap.size ≤ wr.heap.size := HS.out.bel.size
        clear hbr
        by_cases hf : Rat1.accE (fracs X Y k) = 0
        · have hf' : (Rat1.accE (fracs X Y k) == 0) = true := by simpa using hf
          have HF := Lib.hid hf
          clear hf
          go_wp2_with (first | (at_builtin; refine wpList_append_own _ rfl _ _ 41 rfl (w.heap.size + 1) 24 i0 (.agg #[.int .i64 0, .int .i64 0]) 2 16 Tryd.underlying41 i1 i2 i3 i4 rfl (by decide) _ _ _ rfl (hown.alloc _) ⟨wc.heap.size, 0, none⟩ 1 1 [.int .i64 (clQ x y).1, .int .i64 ((clQ x y).2 - 1)] rfl rfl ?c1 ?c2 ?c3 ?c4 ?c5 ?_))
          case c2 => exact ⟨rfl, rfl⟩
          case c3 => rw [fracs_len]; unfold maxLen; omega
          case c4 => rw [fracs_len]; omega
          case c5 => exact Nat.le_trans hsz2 hsz
          intro v' w1 hown' hgrow _
          have G := Lib.hid (LG.mk' (p := clQ x y) HS.out HB.out TP hkp hown' hgrow)
          clear hown hown' hgrow TX TP x0 x1 x2 x3 x4 HB
          have HN : Hid (fracs X Y (k + 1) = fracs X Y k ++ [clQ x y]) := by
            unfold Hid; rw [fracs_snoc, HX.out, HY.out]
          obtain ⟨s0, s1, s2, s3, s4⟩ := id G.out.s
          obtain ⟨t0, t1, t2, t3, t4⟩ := id G.out.tp
          have lo : Rat1.Low (Rat1.accN (fracs X Y k)) (Rat1.accD (fracs X Y k)) := by
            rcases Rat1.acc_cases (fracs X Y k) with h | h
            · exact h.2
            · exact absurd HF.out h.1
          have LO := Lib.hid lo
          clear lo
          go_wp2_with fail
          refine (addR_D _ _ _ _ _ LO.out (clQ_low x y)).mono ?_
          rintro e w2 ⟨rfl, hb2⟩
          have G2 := Lib.hid (G.out.added HF.out hb2)
          have T2 := G.out.s.up hb2
          clear hb2 s0 s1 s2 s3 s4 t0 t1 t2 t3 t4
          obtain ⟨s0, s1, s2, s3, s4⟩ := id T2
          go_wp2_with fail
          go_roundg (min len 20 - (k + 1))
          case measure => omega
          case rel => exact ⟨k + 1, by omega, rfl, by go_num, by rw [HN.out, (Rat1.acc_ok (p := clQ x y) HF.out).2.2], Lib.hid (by rw [HN.out]; exact G2.out)⟩
        · have hf' : (Rat1.accE (fracs X Y k) == 0) = false := by simpa using hf
          have HF := Lib.hid hf
          clear hf
          go_wp2_with (first | (at_builtin; refine wpList_append_own _ rfl _ _ 41 rfl (w.heap.size + 1) 24 i0 (.agg #[.int .i64 0, .int .i64 0]) 2 16 Tryd.underlying41 i1 i2 i3 i4 rfl (by decide) _ _ _ rfl (hown.alloc _) ⟨wc.heap.size, 0, none⟩ 1 1 [.int .i64 (clQ x y).1, .int .i64 ((clQ x y).2 - 1)] rfl rfl ?d1 ?d2 ?d3 ?d4 ?d5 ?_))
          case d2 => exact ⟨rfl, rfl⟩
          case d3 => rw [fracs_len]; unfold maxLen; omega
          case d4 => rw [fracs_len]; omega
          case d5 => exact Nat.le_trans hsz2 hsz
          intro v' w1 hown' hgrow _
          have G := Lib.hid (LG.mk' (p := clQ x y) HS.out HB.out TP hkp hown' hgrow)
          clear hown hown' hgrow TX TP x0 x1 x2 x3 x4 HB
          have HN : Hid (fracs X Y (k + 1) = fracs X Y k ++ [clQ x y]) := by
            unfold Hid; rw [fracs_snoc, HX.out, HY.out]
          go_wp2_with fail
          go_roundg (min len 20 - (k + 1))
          case measure => omega
          case rel => exact ⟨k + 1, by omega, rfl, by go_num, by rw [HN.out, (Rat1.acc_err (p := clQ x y) HF.out).2.2], Lib.hid (by rw [HN.out]; exact G.out.left HF.out)⟩
    · obtain rfl : k = min len 20 := by omega
      have hk2 : ¬ (min len 20 < len ∧ min len 20 < 20) := by omega
      have TS := HS.out.s
      obtain ⟨s0, s1, s2, s3, s4⟩ := id TS
      by_cases hll : len ≤ 20
      · have hm : min len 20 = len := by omega
        rw [hm] at HS ⊢
        clear hm
        clear hk hlt hk2 s0 s1 s2 s3 s4 TS
        have TS := HS.out.s
        obtain ⟨s0, s1, s2, s3, s4⟩ := id TS
        go_wp2_with fail
        refine (sum_owned HS.out (by rw [fracs_len]; omega) (fracs_low X Y len)).mono ?_
        rintro e w2 ⟨rfl, hb⟩
        have B2 := Lib.hid (HS.out.bel.up hb)
        have T2 := TS.up hb
        clear hb TS s0 s1 s2 s3 s4
        obtain ⟨s0, s1, s2, s3, s4⟩ := id T2
        go_wp2_with fail
        refine (known_any _ (HT.out.below (B2.out.alloc _).out)).mono ?_
        rintro e w3 ⟨rfl, hb⟩
        have B3 := Lib.hid ((B2.out.alloc _).up hb)
        have T3 := (T2.alloc _).up hb
        have X3 := (Two.new _ _ _ _ (w2.heap.size) (by simp)).up hb
        clear hb T2 s0 s1 s2 s3 s4
        obtain ⟨s0, s1, s2, s3, s4⟩ := id T3
        obtain ⟨x0, x1, x2, x3, x4⟩ := id X3
        go_wp2_with fail
        refine (same_acc (fracs X Y len) _).mono ?_
        rintro e w4 ⟨rfl, hb⟩
        have B4 := Lib.hid (B3.out.up hb)
        go_wp2
        go_ret
        exact ⟨rfl, B4.out.out⟩
      · have hm : min len 20 = 20 := by omega
        rw [hm] at HS ⊢
        clear hm
        clear hk hlt hk2 s0 s1 s2 s3 s4 TS
        have TS := HS.out.s
        obtain ⟨s0, s1, s2, s3, s4⟩ := id TS
        go_wp2_with fail
        refine (sum_owned HS.out (by rw [fracs_len]; omega) (fracs_low X Y 20)).mono ?_
        rintro e w2 ⟨rfl, hb⟩
        have B2 := Lib.hid (HS.out.bel.up hb)
        have T2 := TS.up hb
        clear hb TS s0 s1 s2 s3 s4
        obtain ⟨s0, s1, s2, s3, s4⟩ := id T2
        go_wp2_with fail
        refine (known_any _ (HT.out.below (B2.out.alloc _).out)).mono ?_
        rintro e w3 ⟨rfl, hb⟩
        have B3 := Lib.hid ((B2.out.alloc _).up hb)
        have T3 := (T2.alloc _).up hb
        have X3 := (Two.new _ _ _ _ (w2.heap.size) (by simp)).up hb
        clear hb T2 s0 s1 s2 s3 s4
        obtain ⟨s0, s1, s2, s3, s4⟩ := id T3
        obtain ⟨x0, x1, x2, x3, x4⟩ := id X3
        go_wp2_with fail
        refine (same_acc (fracs X Y 20) _).mono ?_
        rintro e w4 ⟨rfl, hb⟩
        have B4 := Lib.hid (B3.out.up hb)
        go_wp2
        go_ret
        exact ⟨rfl, B4.out.out⟩
end Go.Proofs.YtknojlccfjdpeaaDoor
