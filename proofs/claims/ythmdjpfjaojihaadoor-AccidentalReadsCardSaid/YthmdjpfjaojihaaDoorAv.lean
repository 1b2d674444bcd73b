/- Accidentals: the reference's Display. -/
import Derived.Test.YthmdjpfjaojihaaDoorAt
import Derived.Test.YthmdjpfjaojihaaDoorAu
import Derived.OwnWalk
import Derived.Laws.AppendOwn
import Derived.Deep.Cut
import Derived.Outline
namespace Go.Proofs.YthmdjpfjaojihaaDoor
open Go.RowKit
set_option linter.unusedVariables false
set_option linter.unusedSimpArgs false

/-- marks of the reference, in a row -/
def MkAt (w : World) (ad : Option Addr) (n : Nat) (ms : Nat → Int × Bool) : Prop := ∀ j : Nat, j < n → ∃ b, ad = some ⟨b, 0, none⟩ ∧ w.cell? ⟨b, j * 2, none⟩ = some (.int .i64 (ms j).1) ∧ w.cell? ⟨b, j * 2 + 1, none⟩ = some (.bool (ms j).2)
theorem MkAt.up {w w' : World} {ad : Option Addr} {n : Nat} {ms : Nat → Int × Bool} (h : MkAt w ad n ms) (hb : Below w.heap.size w w') : MkAt w' ad n ms := fun j hj => by
  obtain ⟨b, e, h0, h1⟩ := h j hj
  exact ⟨b, e, cell_up hb h0, cell_up hb h1⟩
def cellsM (ms : Nat → Int × Bool) (k : Nat) : List Value := (List.range k).flatMap fun j => [.int .i64 (ms j).1, .bool (ms j).2]
theorem cellsM_snoc (ms : Nat → Int × Bool) (k : Nat) : cellsM ms (k + 1) = cellsM ms k ++ [.int .i64 (ms k).1, .bool (ms k).2] := by simp [cellsM, List.range_succ]
theorem cellsM_len (ms : Nat → Int × Bool) : ∀ k, (cellsM ms k).length = k * 2
  | 0 => rfl
  | k + 1 => by rw [cellsM_snoc, List.length_append, cellsM_len ms k]; simp; omega
theorem cellsM_at (ms : Nat → Int × Bool) {j : Nat} : ∀ {k : Nat}, j < k → (cellsM ms k)[j * 2]? = some (.int .i64 (ms j).1) ∧ (cellsM ms k)[j * 2 + 1]? = some (.bool (ms j).2)
  | 0, h => absurd h (by omega)
  | k + 1, h => by
    rw [cellsM_snoc]
    by_cases e : j = k
    · subst e
      rw [List.getElem?_append_right (by rw [cellsM_len]; omega), List.getElem?_append_right (by rw [cellsM_len]; omega), cellsM_len]
      constructor
      · simp
      · simp
    · have ih := cellsM_at ms (j := j) (k := k) (by omega)
      rw [List.getElem?_append_left (by rw [cellsM_len]; omega), List.getElem?_append_left (by rw [cellsM_len]; omega)]
      exact ih
theorem infoRM : (Tryd.prog.info? 40).map (fun i => (i.zero, i.size, i.bytes)) = some (some (.agg #[.int .i64 0, .bool false]), 2, 16) := by kernel_rfl
theorem cellM_new (w : World) (x y : Value) (t : TypeId) (b : Nat) (hb : b = w.heap.size) : ∀ (j : Nat) (u : Value), [x, y][j]? = some u → (w.alloc (.cells #[x, y] t)).cell? ((⟨b, 0, none⟩ : Addr).add j) = some u := by
  subst hb
  intro j u hj
  match j, hj with
  | 0, hj => simp at hj; subst hj; simp [Addr.add]
  | 1, hj => simp at hj; subst hj; simp [Addr.add]
theorem Fil.grown {w w' : World} {b n : Nat} {vs : Nat → Int} {row : Option Nat} (h : Fil w b n vs) (hg : w.grownBy w' row) (hne : some b ≠ row) : Fil w' b n vs := fun j hj => by
  obtain ⟨h0, h1⟩ := h j hj
  have hb := hg.block b (lt_of_cell h0) hne
  exact ⟨(World.cell?_of_block (a := ⟨b, j, none⟩) hb).trans h0, (World.frozen?_of_block (a := ⟨b, j, none⟩) hb).trans h1⟩
/-- what the reference's loop keeps: the row of marks lies from block base on, the alterations in force in block g ahead of it -/
structure DK (w wr : World) (base g : Nat) (v : Value) (k : Nat) (ms : Nat → Int × Bool) (fr : Nat → Int) : Prop where
  bel : Bel w wr
  own : wr.ownsRow base 40 2 v k (cellsM ms k)
  fil : Fil wr g 77 fr
  gb : g < base
  wg : w.heap.size ≤ g
  bs : base ≤ wr.heap.size
theorem DK.up {w wr w' : World} {base g : Nat} {v : Value} {k : Nat} {ms : Nat → Int × Bool} {fr : Nat → Int} (h : DK w wr base g v k ms fr) (hb : Below wr.heap.size wr w') : DK w w' base g v k ms fr :=
  ⟨h.bel.up hb, ownUp h.own hb, h.fil.up hb, h.gb, h.wg, Nat.le_trans h.bs hb.size⟩
theorem grown_set (w : World) (b i : Nat) (u : Value) : w.grownBy (w.setCell ⟨b, i, none⟩ u) (some b) := by
  have := (Below.refl w.heap.size w)
  refine ⟨by first | rfl | simp [go_sem], by first | rfl | simp [go_sem], by first | rfl | simp [go_sem], by simp [go_sem], fun k hk hne => ?_⟩
  have h1 : b ≠ k := fun e => hne (by rw [e])
  simp [World.setCell, Array.getElem?_modify, h1]
theorem DK.set {w wr : World} {base g : Nat} {v : Value} {k : Nat} {ms : Nat → Int × Bool} {fr : Nat → Int} (h : DK w wr base g v k ms fr) (i : Nat) (hi : i < 77) (u : Int) : DK w (wr.setCell ⟨g, i, none⟩ (.int .i64 u)) base g v k ms (updF fr i u) :=
  ⟨h.bel.set h.wg _ _, h.own.kept (grown_set wr g i _) (by
    cases hv : v.ownBlock with
    | none => exact .inl rfl
    | some r =>
      refine .inr (fun e => ?_)
      have := (h.own.lt r hv).1
      have := h.gb
      cases e
      omega), h.fil.set i hi u, h.gb, h.wg, by simpa [go_sem] using h.bs⟩
theorem DK.at {w wr : World} {base g : Nat} {v : Value} {k : Nat} {ms : Nat → Int × Bool} {fr : Nat → Int} (h : DK w wr base g v k ms fr) : ∃ ad cap, v = .slice ad k cap ∧ MkAt wr ad k ms := by
  obtain ⟨hl, hr⟩ := h.own
  rcases hr with ⟨rfl, h0⟩ | ⟨b, cap, cur, rfl, hg, hc, hn, _, hs, ht⟩
  · subst h0
    exact ⟨none, 0, rfl, fun j hj => absurd hj (by omega)⟩
  · refine ⟨_, cap, rfl, fun j hj => ⟨b, rfl, ?_⟩⟩
    obtain ⟨x0, x1⟩ := cellsM_at ms hj
    rw [← ht] at x0 x1
    have rd : ∀ (j : Nat) (u : Value), (cur.toList.take (k * 2))[j]? = some u → wr.cell? ⟨b, j, none⟩ = some u := fun j u hj => by
      rw [List.getElem?_take] at hj
      split at hj
      · simp at hj
        simp [World.cell?, hc, hj]
      · cases hj
    exact ⟨rd _ _ x0, rd _ _ x1⟩
theorem DK.next {w W w9 : World} {base g : Nat} {v v' : Value} {k : Nat} {ms : Nat → Int × Bool} {fr fr' : Nat → Int} {o : Obj} {x : Int} {y : Bool} (h : DK w W base g v k ms fr) (hown : w9.ownsRow base 40 2 v' (k + 1) (cellsM ms k ++ [.int .i64 x, .bool y])) (hg : (W.alloc o).grownBy w9 v.ownBlock) (hm : ms k = (x, y)) (hf : fr' = fr) : DK w w9 base g v' (k + 1) ms fr' := by
  subst hf
  have hbs := h.bs
  have hgb := h.gb
  have hwg := h.wg
  have hs := hg.size
  simp only [World.alloc, Array.size_push] at hs
  refine ⟨Below.grown (h.bel.alloc o) hg (by have := h.bel.size; simp; omega) (fun r hr => by have := (h.own.lt r hr).1; omega), ?_, ?_, hgb, hwg, by omega⟩
  · rw [cellsM_snoc, hm]
    exact hown
  · refine (h.fil.up ((Below.refl _ W).alloc (Nat.le_refl _) o)).grown hg (fun e => ?_)
    have := (h.own.lt g e.symm).1
    omega
set_option maxRecDepth 100000 in
set_option maxHeartbeats 16000000 in
theorem dispR_ok (f : Int) (L : List Nt) (ad : Option Addr) (cap : Nat) (w : World) (hf : Sg f) (hl : L.length ≤ 30) (hg : Good L) (h : NtAt w ad L) :
    Calls Tryd.prog 14 #[.int .i64 f, .slice ad L.length cap] w fun e w' => ∃ ad2 cap2 g cap3, e = .returned (.tuple #[.slice ad2 L.length cap2, .slice (some ⟨g, 0, none⟩) 77 cap3]) ∧ MkAt w' ad2 L.length (disM L f) ∧ Fil w' g 77 (disF L f L.length) ∧ Below w.heap.size w w' := by
  obtain ⟨i0, hi, hz0, hz1, hz2⟩ := info_parts infoRM
  have HA := Lib.hid h
  have HG := Lib.hid hg
  have HF := Lib.hid hf
  have B0 := Lib.hid (Bel.refl w)
  have hz := fun (wz : World) => (show (zeroValue 40).run Tryd.prog wz = .ok (.agg #[.int .i64 0, .bool false]) wz from by kernel_rfl)
  clear h hg hf
  go_enter Tryd.func14, Tryd.ntmps14
  go_wp2_with fail
  refine (startR_ok f _ HF.out).mono ?_
  rintro e w1 ⟨fb, cap3, rfl, hfil, hwg, hb⟩
  have HK := Lib.hid (show DK w w1 w1.heap.size fb (.slice none 0 0) 0 (disM L f) (disF L f 0) from ⟨B0.out.up hb, World.ownsRow_nil _ _ _ _, hfil, hfil.lt (by omega), hwg, Nat.le_refl _⟩)
  clear B0 hb hfil hwg hz
  generalize w1.heap.size = base at *
  go_wp2_with fail
  go_loopg [7, 8] L.length (fun gm out i wr => ∃ (k : Nat), k ≤ L.length ∧ gm = L.length - k ∧ i = .int .i64 (k : Int) ∧ Hid (DK w wr base fb out k (disM L f) (disF L f k)))
  case atStart => exact ⟨0, by omega, by omega, rfl, HK⟩
  case round =>
    obtain ⟨k, hk, rfl, rfl, HD⟩ := hrel
    clear HK
    by_cases hlt : k < L.length
    · obtain ⟨n, hn⟩ : ∃ n, L[k]? = some n := ⟨_, List.getElem?_eq_getElem hlt⟩
      have HN := Lib.hid hn
      obtain ⟨b, off, rfl, hc6⟩ := (HA.out.up HD.out.bel.out) k n hn
      have hup : Below wr.heap.size wr (wr.alloc (.cells (ntA n) 54)) := (Below.refl _ wr).alloc (Nat.le_refl _) _
      have X1 := Lib.hid (B6.new wr n 54 wr.heap.size rfl)
      have D1 := Lib.hid (HD.out.up hup)
      have DF := Lib.hid (disF_at (f := f) hn)
      have DM := Lib.hid (disM_at (f := f) hn)
      obtain ⟨hp, ha0, ha1, hv0, hv1⟩ := HG.out.each n (List.mem_of_getElem? hn)
      have Hp := Lib.hid hp
      have hPN : pxI n.s n.o = (pxN n : Int) ∧ pxN n < 77 := by
        obtain ⟨p0, p1, p2, p3⟩ := hp
        unfold pxN pxI
        omega
      have hbs := HD.out.bs
      clear hup HD hn hp
      obtain ⟨P, hP⟩ : ∃ P, pxN n = P := ⟨_, rfl⟩
      obtain ⟨C, hC⟩ : ∃ C, conB L k = C := ⟨_, rfl⟩
      rw [hC] at DF DM
      rw [hP] at hPN
      obtain ⟨fr, hfr2⟩ : ∃ fr, disF L f k = fr := ⟨_, rfl⟩
      rw [hfr2] at DF DM D1
      have HC := Lib.hid hC
      have HP := Lib.hid hP
      clear hC hP hfr2
      rcases n with ⟨t, s, a, o, hd, v⟩
      obtain ⟨c0, c1, c2, c3, c4, c5⟩ := hc6
      obtain ⟨x0, x1, x2, x3, x4, x5⟩ := id X1.out
      simp only [ntA] at c0 c1 c2 c3 c4 c5 x0 x1 x2 x3 x4 x5 D1 ha0 ha1 hv0 hv1 hPN
      go_wp2_with fail
      have KP := idxR_ok s o (wr.alloc (.cells #[.int .i64 t, .int .i64 s, .int .i64 a, .int .i64 o, .bool hd, .int .i64 v] 54)) Hp.out
      rw [hPN.1] at KP
      refine KP.mono ?_
      rintro e w6 ⟨rfl, hb⟩
      clear KP
      have X2 := Lib.hid (X1.out.up hb)
      have D2 := Lib.hid (D1.out.up hb)
      have hlw : wr.heap.size < w6.heap.size := lt_of_cell X2.out.c0
      clear hb D1 X1 c0 c1 c2 c3 c4 c5 x0 x1 x2 x3 x4 x5
      generalize wr.heap.size = nb at *
      cases hd
      · by_cases heq : a = fr P
        · have HEQ := Lib.hid heq
          have hnb : (a != fr P) = false := by simp [heq]
          clear heq
          cases C
          · obtain ⟨g0, g1⟩ := D2.out.fil P hPN.2
            obtain ⟨x0, x1, x2, x3, x4, x5⟩ := id X2.out
            simp only at x0 x1 x2 x3 x4 x5
            go_wp2_with fail
            have KCL := Lib.hid (fun wz (hz : NtAt wz (some ⟨b, off, none⟩) L) => clashR_ok L (some ⟨b, off, none⟩) cap k wz hl hlt hz)
            rw [HC.out] at KCL
            refine Qt.regionAll (by kernel_rfl) (by kernel_rfl) ?_
            intro TT ff F hne
            have RX := Lib.hid (fun q => X2.out.up (F.below q))
            have RD := Lib.hid (fun q => D2.out.up (F.below q))
            have R0 := fun q => cell_up (F.below q) g0
            have R1 := fun q => cell_up (F.below q) x1
            have R2 := fun q => cell_up (F.below q) x2
            have R4 := fun q => cell_up (F.below q) x4
            repeat (go_big_quiet_step (first | (go_at_call 19; with_reducible exact F.call (KCL.out _ (HA.out.up (RD.out _).bel.out)))))
            refine wpQuiet_nil ?_
            rintro _ ⟨q, rfl⟩
            have X3 := Lib.hid (RX.out q)
            have D3 := Lib.hid (RD.out q)
            clear F hne RX RD R0 R1 R2 R4 X2 D2 KCL g0 g1 x0 x1 x2 x3 x4 x5
            generalize ff q = w7 at *
            clear ff
            rcases (show v = 0 ∨ v = 1 ∨ v = 2 by omega) with rfl | rfl | rfl
            · clear hv0 hv1
              have DM2 := Lib.hid (show disM L f k = (0, false) by rw [DM.out]; simp [markM, needB, HP.out, ← HEQ.out])
              have DF2 := Lib.hid (show disF L f (k + 1) = fr by rw [DF.out]; simp [markF, needB, HP.out, ← HEQ.out])
              have D4 := Lib.hid (D3.out.up ((Below.refl _ w7).alloc (Nat.le_refl _) (.cells #[.int .i64 (0), .bool false] 40)))
              have hb7 := D3.out.bs
              obtain ⟨x0, x1, x2, x3, x4, x5⟩ := id X3.out
              simp only at x0 x1 x2 x3 x4 x5
              obtain ⟨g0, g1⟩ := D3.out.fil P hPN.2
              have hgne : fb < w7.heap.size := lt_of_cell g0
              have hgne2 : fb ≠ w7.heap.size := by omega
              have hgne3 : w7.heap.size ≠ fb := by omega
              have nlt : nb < w7.heap.size := lt_of_cell X3.out.c0
              have nne : nb ≠ w7.heap.size := by omega
              go_wp2_with (first | (at_builtin; refine wpList_append_own _ rfl _ _ 31 rfl base 40 i0 (.agg #[.int .i64 0, .bool false]) 2 16 Tryd.underlying31 hi hz0 hz1 hz2 rfl (by decide) _ _ _ rfl (D4.out.own.alloc _) ⟨_, 0, none⟩ 1 1 [.int .i64 (0), .bool false] rfl rfl (cellM_new _ _ _ _ _ (by simp)) (by simp [Value.oneCell']) (by unfold maxLen; omega) (by omega) (by simp; omega) ?_; intro v' w9 hown' hgrow _))
              go_roundg (L.length - (k + 1))
              case measure => omega
              case rel => exact ⟨k + 1, by omega, rfl, by go_num, Lib.hid (D4.out.next hown' hgrow DM2.out DF2.out)⟩
            · clear hv0 hv1
              have DM2 := Lib.hid (show disM L f k = (a + 3, false) by rw [DM.out]; simp [markM, needB, HP.out, ← HEQ.out])
              have DF2 := Lib.hid (show disF L f (k + 1) = updF fr P a by rw [DF.out, ← HP.out]; simp [markF, needB, HP.out, ← HEQ.out])
              have D4 := Lib.hid ((D3.out.set P hPN.2 a).up ((Below.refl _ _).alloc (Nat.le_refl _) (.cells #[.int .i64 (a + 3), .bool false] 40)))
              have hb7 := D3.out.bs
              obtain ⟨x0, x1, x2, x3, x4, x5⟩ := id X3.out
              simp only at x0 x1 x2 x3 x4 x5
              obtain ⟨g0, g1⟩ := D3.out.fil P hPN.2
              have hgne : fb < w7.heap.size := lt_of_cell g0
              have hgne2 : fb ≠ w7.heap.size := by omega
              have hgne3 : w7.heap.size ≠ fb := by omega
              have nlt : nb < w7.heap.size := lt_of_cell X3.out.c0
              have nne : nb ≠ w7.heap.size := by omega
              go_wp2_with (first | (at_builtin; refine wpList_append_own _ rfl _ _ 31 rfl base 40 i0 (.agg #[.int .i64 0, .bool false]) 2 16 Tryd.underlying31 hi hz0 hz1 hz2 rfl (by decide) _ _ _ rfl (D4.out.own.alloc _) ⟨_, 0, none⟩ 1 1 [.int .i64 (a + 3), .bool false] rfl rfl (cellM_new _ _ _ _ _ (by simp)) (by simp [Value.oneCell']) (by unfold maxLen; omega) (by omega) (by simp; omega) ?_; intro v' w9 hown' hgrow _))
              go_roundg (L.length - (k + 1))
              case measure => omega
              case rel => exact ⟨k + 1, by omega, rfl, by go_num, Lib.hid (D4.out.next hown' hgrow DM2.out DF2.out)⟩
            · clear hv0 hv1
              have DM2 := Lib.hid (show disM L f k = (a + 3, true) by rw [DM.out]; simp [markM, needB, HP.out, ← HEQ.out])
              have DF2 := Lib.hid (show disF L f (k + 1) = updF fr P a by rw [DF.out, ← HP.out]; simp [markF, needB, HP.out, ← HEQ.out])
              have D4 := Lib.hid ((D3.out.set P hPN.2 a).up ((Below.refl _ _).alloc (Nat.le_refl _) (.cells #[.int .i64 (a + 3), .bool true] 40)))
              have hb7 := D3.out.bs
              obtain ⟨x0, x1, x2, x3, x4, x5⟩ := id X3.out
              simp only at x0 x1 x2 x3 x4 x5
              obtain ⟨g0, g1⟩ := D3.out.fil P hPN.2
              have hgne : fb < w7.heap.size := lt_of_cell g0
              have hgne2 : fb ≠ w7.heap.size := by omega
              have hgne3 : w7.heap.size ≠ fb := by omega
              have nlt : nb < w7.heap.size := lt_of_cell X3.out.c0
              have nne : nb ≠ w7.heap.size := by omega
              go_wp2_with (first | (at_builtin; refine wpList_append_own _ rfl _ _ 31 rfl base 40 i0 (.agg #[.int .i64 0, .bool false]) 2 16 Tryd.underlying31 hi hz0 hz1 hz2 rfl (by decide) _ _ _ rfl (D4.out.own.alloc _) ⟨_, 0, none⟩ 1 1 [.int .i64 (a + 3), .bool true] rfl rfl (cellM_new _ _ _ _ _ (by simp)) (by simp [Value.oneCell']) (by unfold maxLen; omega) (by omega) (by simp; omega) ?_; intro v' w9 hown' hgrow _))
              go_roundg (L.length - (k + 1))
              case measure => omega
              case rel => exact ⟨k + 1, by omega, rfl, by go_num, Lib.hid (D4.out.next hown' hgrow DM2.out DF2.out)⟩
          · obtain ⟨g0, g1⟩ := D2.out.fil P hPN.2
            obtain ⟨x0, x1, x2, x3, x4, x5⟩ := id X2.out
            simp only at x0 x1 x2 x3 x4 x5
            go_wp2_with fail
            have KCL := Lib.hid (fun wz (hz : NtAt wz (some ⟨b, off, none⟩) L) => clashR_ok L (some ⟨b, off, none⟩) cap k wz hl hlt hz)
            rw [HC.out] at KCL
            refine Qt.regionAll (by kernel_rfl) (by kernel_rfl) ?_
            intro TT ff F hne
            have RX := Lib.hid (fun q => X2.out.up (F.below q))
            have RD := Lib.hid (fun q => D2.out.up (F.below q))
            have R0 := fun q => cell_up (F.below q) g0
            have R1 := fun q => cell_up (F.below q) x1
            have R2 := fun q => cell_up (F.below q) x2
            have R4 := fun q => cell_up (F.below q) x4
            repeat (go_big_quiet_step (first | (go_at_call 19; with_reducible exact F.call (KCL.out _ (HA.out.up (RD.out _).bel.out)))))
            refine wpQuiet_nil ?_
            rintro _ ⟨q, rfl⟩
            have X3 := Lib.hid (RX.out q)
            have D3 := Lib.hid (RD.out q)
            clear F hne RX RD R0 R1 R2 R4 X2 D2 KCL g0 g1 x0 x1 x2 x3 x4 x5
            generalize ff q = w7 at *
            clear ff
            have DM2 := Lib.hid (show disM L f k = (a + 3, false) by rw [DM.out]; simp [markM, needB, HP.out, ← HEQ.out])
            have DF2 := Lib.hid (show disF L f (k + 1) = updF fr P a by rw [DF.out, ← HP.out]; simp [markF, needB, HP.out, ← HEQ.out])
            have D4 := Lib.hid ((D3.out.set P hPN.2 a).up ((Below.refl _ _).alloc (Nat.le_refl _) (.cells #[.int .i64 (a + 3), .bool false] 40)))
            have hb7 := D3.out.bs
            obtain ⟨x0, x1, x2, x3, x4, x5⟩ := id X3.out
            simp only at x0 x1 x2 x3 x4 x5
            obtain ⟨g0, g1⟩ := D3.out.fil P hPN.2
            have hgne : fb < w7.heap.size := lt_of_cell g0
            have hgne2 : fb ≠ w7.heap.size := by omega
            have hgne3 : w7.heap.size ≠ fb := by omega
            have nlt : nb < w7.heap.size := lt_of_cell X3.out.c0
            have nne : nb ≠ w7.heap.size := by omega
            go_wp2_with (first | (at_builtin; refine wpList_append_own _ rfl _ _ 31 rfl base 40 i0 (.agg #[.int .i64 0, .bool false]) 2 16 Tryd.underlying31 hi hz0 hz1 hz2 rfl (by decide) _ _ _ rfl (D4.out.own.alloc _) ⟨_, 0, none⟩ 1 1 [.int .i64 (a + 3), .bool false] rfl rfl (cellM_new _ _ _ _ _ (by simp)) (by simp [Value.oneCell']) (by unfold maxLen; omega) (by omega) (by simp; omega) ?_; intro v' w9 hown' hgrow _))
            go_roundg (L.length - (k + 1))
            case measure => omega
            case rel => exact ⟨k + 1, by omega, rfl, by go_num, Lib.hid (D4.out.next hown' hgrow DM2.out DF2.out)⟩
        · have hnb : (a != fr P) = true := by simpa using heq
          have HEQ := Lib.hid heq
          clear heq
          obtain ⟨g0, g1⟩ := D2.out.fil P hPN.2
          obtain ⟨x0, x1, x2, x3, x4, x5⟩ := id X2.out
          simp only at x0 x1 x2 x3 x4 x5
          go_wp2_with fail
          go_quiet (fail)
          have X3 := Lib.hid (X2.out.up (below_drewN (Below.refl _ w6) nq))
          have D3 := Lib.hid (D2.out.up (below_drewN (Below.refl _ w6) nq))
          clear X2 D2 g0 g1 x0 x1 x2 x3 x4 x5
          generalize w6.drewN nq = w7 at *
          have DM2 := Lib.hid (show disM L f k = (a + 3, false) by rw [DM.out]; simp [markM, needB, HP.out, HEQ.out])
          have DF2 := Lib.hid (show disF L f (k + 1) = updF fr P a by rw [DF.out, ← HP.out]; simp [markF, needB, HP.out, HEQ.out])
          have D4 := Lib.hid ((D3.out.set P hPN.2 a).up ((Below.refl _ _).alloc (Nat.le_refl _) (.cells #[.int .i64 (a + 3), .bool false] 40)))
          have hb7 := D3.out.bs
          obtain ⟨x0, x1, x2, x3, x4, x5⟩ := id X3.out
          simp only at x0 x1 x2 x3 x4 x5
          obtain ⟨g0, g1⟩ := D3.out.fil P hPN.2
          have hgne : fb < w7.heap.size := lt_of_cell g0
          have hgne2 : fb ≠ w7.heap.size := by omega
          have hgne3 : w7.heap.size ≠ fb := by omega
          have nlt : nb < w7.heap.size := lt_of_cell X3.out.c0
          have nne : nb ≠ w7.heap.size := by omega
          go_wp2_with (first | (at_builtin; refine wpList_append_own _ rfl _ _ 31 rfl base 40 i0 (.agg #[.int .i64 0, .bool false]) 2 16 Tryd.underlying31 hi hz0 hz1 hz2 rfl (by decide) _ _ _ rfl (D4.out.own.alloc _) ⟨_, 0, none⟩ 1 1 [.int .i64 (a + 3), .bool false] rfl rfl (cellM_new _ _ _ _ _ (by simp)) (by simp [Value.oneCell']) (by unfold maxLen; omega) (by omega) (by simp; omega) ?_; intro v' w9 hown' hgrow _))
          go_roundg (L.length - (k + 1))
          case measure => omega
          case rel => exact ⟨k + 1, by omega, rfl, by go_num, Lib.hid (D4.out.next hown' hgrow DM2.out DF2.out)⟩
      · cases C
        · obtain ⟨g0, g1⟩ := D2.out.fil P hPN.2
          obtain ⟨x0, x1, x2, x3, x4, x5⟩ := id X2.out
          simp only at x0 x1 x2 x3 x4 x5
          go_wp2_with fail
          have KCL := Lib.hid (fun wz (hz : NtAt wz (some ⟨b, off, none⟩) L) => clashR_ok L (some ⟨b, off, none⟩) cap k wz hl hlt hz)
          rw [HC.out] at KCL
          refine Qt.regionAll (by kernel_rfl) (by kernel_rfl) ?_
          intro TT ff F hne
          have RX := Lib.hid (fun q => X2.out.up (F.below q))
          have RD := Lib.hid (fun q => D2.out.up (F.below q))
          have R0 := fun q => cell_up (F.below q) g0
          have R1 := fun q => cell_up (F.below q) x1
          have R2 := fun q => cell_up (F.below q) x2
          have R4 := fun q => cell_up (F.below q) x4
          repeat (go_big_quiet_step (first | (go_at_call 19; with_reducible exact F.call (KCL.out _ (HA.out.up (RD.out _).bel.out)))))
          refine wpQuiet_nil ?_
          rintro _ ⟨q, rfl⟩
          have X3 := Lib.hid (RX.out q)
          have D3 := Lib.hid (RD.out q)
          clear F hne RX RD R0 R1 R2 R4 X2 D2 KCL g0 g1 x0 x1 x2 x3 x4 x5
          generalize ff q = w7 at *
          clear ff
          rcases (show v = 0 ∨ v = 1 ∨ v = 2 by omega) with rfl | rfl | rfl
          · clear hv0 hv1
            have DM2 := Lib.hid (show disM L f k = (0, false) by rw [DM.out]; simp [markM, needB, HP.out])
            have DF2 := Lib.hid (show disF L f (k + 1) = fr by rw [DF.out]; simp [markF, needB, HP.out])
            have D4 := Lib.hid (D3.out.up ((Below.refl _ w7).alloc (Nat.le_refl _) (.cells #[.int .i64 (0), .bool false] 40)))
            have hb7 := D3.out.bs
            obtain ⟨x0, x1, x2, x3, x4, x5⟩ := id X3.out
            simp only at x0 x1 x2 x3 x4 x5
            obtain ⟨g0, g1⟩ := D3.out.fil P hPN.2
            have hgne : fb < w7.heap.size := lt_of_cell g0
            have hgne2 : fb ≠ w7.heap.size := by omega
            have hgne3 : w7.heap.size ≠ fb := by omega
            have nlt : nb < w7.heap.size := lt_of_cell X3.out.c0
            have nne : nb ≠ w7.heap.size := by omega
            go_wp2_with (first | (at_builtin; refine wpList_append_own _ rfl _ _ 31 rfl base 40 i0 (.agg #[.int .i64 0, .bool false]) 2 16 Tryd.underlying31 hi hz0 hz1 hz2 rfl (by decide) _ _ _ rfl (D4.out.own.alloc _) ⟨_, 0, none⟩ 1 1 [.int .i64 (0), .bool false] rfl rfl (cellM_new _ _ _ _ _ (by simp)) (by simp [Value.oneCell']) (by unfold maxLen; omega) (by omega) (by simp; omega) ?_; intro v' w9 hown' hgrow _))
            go_roundg (L.length - (k + 1))
            case measure => omega
            case rel => exact ⟨k + 1, by omega, rfl, by go_num, Lib.hid (D4.out.next hown' hgrow DM2.out DF2.out)⟩
          · clear hv0 hv1
            have DM2 := Lib.hid (show disM L f k = (a + 3, false) by rw [DM.out]; simp [markM, needB, HP.out])
            have DF2 := Lib.hid (show disF L f (k + 1) = updF fr P a by rw [DF.out, ← HP.out]; simp [markF, needB, HP.out])
            have D4 := Lib.hid ((D3.out.set P hPN.2 a).up ((Below.refl _ _).alloc (Nat.le_refl _) (.cells #[.int .i64 (a + 3), .bool false] 40)))
            have hb7 := D3.out.bs
            obtain ⟨x0, x1, x2, x3, x4, x5⟩ := id X3.out
            simp only at x0 x1 x2 x3 x4 x5
            obtain ⟨g0, g1⟩ := D3.out.fil P hPN.2
            have hgne : fb < w7.heap.size := lt_of_cell g0
            have hgne2 : fb ≠ w7.heap.size := by omega
            have hgne3 : w7.heap.size ≠ fb := by omega
            have nlt : nb < w7.heap.size := lt_of_cell X3.out.c0
            have nne : nb ≠ w7.heap.size := by omega
            go_wp2_with (first | (at_builtin; refine wpList_append_own _ rfl _ _ 31 rfl base 40 i0 (.agg #[.int .i64 0, .bool false]) 2 16 Tryd.underlying31 hi hz0 hz1 hz2 rfl (by decide) _ _ _ rfl (D4.out.own.alloc _) ⟨_, 0, none⟩ 1 1 [.int .i64 (a + 3), .bool false] rfl rfl (cellM_new _ _ _ _ _ (by simp)) (by simp [Value.oneCell']) (by unfold maxLen; omega) (by omega) (by simp; omega) ?_; intro v' w9 hown' hgrow _))
            go_roundg (L.length - (k + 1))
            case measure => omega
            case rel => exact ⟨k + 1, by omega, rfl, by go_num, Lib.hid (D4.out.next hown' hgrow DM2.out DF2.out)⟩
          · clear hv0 hv1
            have DM2 := Lib.hid (show disM L f k = (a + 3, true) by rw [DM.out]; simp [markM, needB, HP.out])
            have DF2 := Lib.hid (show disF L f (k + 1) = updF fr P a by rw [DF.out, ← HP.out]; simp [markF, needB, HP.out])
            have D4 := Lib.hid ((D3.out.set P hPN.2 a).up ((Below.refl _ _).alloc (Nat.le_refl _) (.cells #[.int .i64 (a + 3), .bool true] 40)))
            have hb7 := D3.out.bs
            obtain ⟨x0, x1, x2, x3, x4, x5⟩ := id X3.out
            simp only at x0 x1 x2 x3 x4 x5
            obtain ⟨g0, g1⟩ := D3.out.fil P hPN.2
            have hgne : fb < w7.heap.size := lt_of_cell g0
            have hgne2 : fb ≠ w7.heap.size := by omega
            have hgne3 : w7.heap.size ≠ fb := by omega
            have nlt : nb < w7.heap.size := lt_of_cell X3.out.c0
            have nne : nb ≠ w7.heap.size := by omega
            go_wp2_with (first | (at_builtin; refine wpList_append_own _ rfl _ _ 31 rfl base 40 i0 (.agg #[.int .i64 0, .bool false]) 2 16 Tryd.underlying31 hi hz0 hz1 hz2 rfl (by decide) _ _ _ rfl (D4.out.own.alloc _) ⟨_, 0, none⟩ 1 1 [.int .i64 (a + 3), .bool true] rfl rfl (cellM_new _ _ _ _ _ (by simp)) (by simp [Value.oneCell']) (by unfold maxLen; omega) (by omega) (by simp; omega) ?_; intro v' w9 hown' hgrow _))
            go_roundg (L.length - (k + 1))
            case measure => omega
            case rel => exact ⟨k + 1, by omega, rfl, by go_num, Lib.hid (D4.out.next hown' hgrow DM2.out DF2.out)⟩
        · obtain ⟨g0, g1⟩ := D2.out.fil P hPN.2
          obtain ⟨x0, x1, x2, x3, x4, x5⟩ := id X2.out
          simp only at x0 x1 x2 x3 x4 x5
          go_wp2_with fail
          have KCL := Lib.hid (fun wz (hz : NtAt wz (some ⟨b, off, none⟩) L) => clashR_ok L (some ⟨b, off, none⟩) cap k wz hl hlt hz)
          rw [HC.out] at KCL
          refine Qt.regionAll (by kernel_rfl) (by kernel_rfl) ?_
          intro TT ff F hne
          have RX := Lib.hid (fun q => X2.out.up (F.below q))
          have RD := Lib.hid (fun q => D2.out.up (F.below q))
          have R0 := fun q => cell_up (F.below q) g0
          have R1 := fun q => cell_up (F.below q) x1
          have R2 := fun q => cell_up (F.below q) x2
          have R4 := fun q => cell_up (F.below q) x4
          repeat (go_big_quiet_step (first | (go_at_call 19; with_reducible exact F.call (KCL.out _ (HA.out.up (RD.out _).bel.out)))))
          refine wpQuiet_nil ?_
          rintro _ ⟨q, rfl⟩
          have X3 := Lib.hid (RX.out q)
          have D3 := Lib.hid (RD.out q)
          clear F hne RX RD R0 R1 R2 R4 X2 D2 KCL g0 g1 x0 x1 x2 x3 x4 x5
          generalize ff q = w7 at *
          clear ff
          have DM2 := Lib.hid (show disM L f k = (a + 3, false) by rw [DM.out]; simp [markM, needB, HP.out])
          have DF2 := Lib.hid (show disF L f (k + 1) = updF fr P a by rw [DF.out, ← HP.out]; simp [markF, needB, HP.out])
          have D4 := Lib.hid ((D3.out.set P hPN.2 a).up ((Below.refl _ _).alloc (Nat.le_refl _) (.cells #[.int .i64 (a + 3), .bool false] 40)))
          have hb7 := D3.out.bs
          obtain ⟨x0, x1, x2, x3, x4, x5⟩ := id X3.out
          simp only at x0 x1 x2 x3 x4 x5
          obtain ⟨g0, g1⟩ := D3.out.fil P hPN.2
          have hgne : fb < w7.heap.size := lt_of_cell g0
          have hgne2 : fb ≠ w7.heap.size := by omega
          have hgne3 : w7.heap.size ≠ fb := by omega
          have nlt : nb < w7.heap.size := lt_of_cell X3.out.c0
          have nne : nb ≠ w7.heap.size := by omega
          go_wp2_with (first | (at_builtin; refine wpList_append_own _ rfl _ _ 31 rfl base 40 i0 (.agg #[.int .i64 0, .bool false]) 2 16 Tryd.underlying31 hi hz0 hz1 hz2 rfl (by decide) _ _ _ rfl (D4.out.own.alloc _) ⟨_, 0, none⟩ 1 1 [.int .i64 (a + 3), .bool false] rfl rfl (cellM_new _ _ _ _ _ (by simp)) (by simp [Value.oneCell']) (by unfold maxLen; omega) (by omega) (by simp; omega) ?_; intro v' w9 hown' hgrow _))
          go_roundg (L.length - (k + 1))
          case measure => omega
          case rel => exact ⟨k + 1, by omega, rfl, by go_num, Lib.hid (D4.out.next hown' hgrow DM2.out DF2.out)⟩
    · obtain rfl : k = L.length := by omega
      obtain ⟨ad2, cap2, rfl, hM⟩ := HD.out.at
      go_wp2_with fail
      try go_ret2
      exact ⟨ad2, cap2, fb, cap3, rfl, hM, HD.out.fil, HD.out.bel.out⟩
end Go.Proofs.YthmdjpfjaojihaaDoor
