/- Tuplets: the closure that keeps the stack. -/
import Derived.Test.YtidggmfgbcmklaaTh
namespace Go.Proofs.Ytidggmfgbcmklaa
open Go.RowKit
set_option linter.unusedVariables false
set_option linter.unusedSimpArgs false

theorem own_shape {w : World} {base : Nat} {e : TypeId} {size n : Nat} {v : Value} {xs : List Value} (h : w.ownsRow base e size v n xs) : ∃ ao cap, v = .slice ao n cap := by
  rcases h.2 with ⟨rfl, h0⟩ | ⟨g, cap, cur, rfl, _⟩
  · subst h0; exact ⟨none, 0, rfl⟩
  · exact ⟨_, cap, rfl⟩
theorem outer_nil {f : Nat → Tp} {i : Nat} (h : opn f i = []) : outer f i = -1 := by unfold outer; rw [h]; rfl
theorem outer_last {f : Nat → Tp} {i m x : Nat} (hl : (opn f i).length = m + 1) (h : (opn f i)[m]? = some x) : outer f i = x ∧ (opn f i).getLast? = some x := by
  have hne : (opn f i).getLast? = some x := by rw [List.getLast?_eq_getElem?, hl]; simpa using h
  exact ⟨by unfold outer; rw [hne], hne⟩
theorem okP_nil {f : Nat → Tp} {i : Nat} (h : opn f i = []) : okP f i := by unfold okP; rw [h]; simp
set_option maxRecDepth 100000 in
set_option maxHeartbeats 16000000 in
theorem enter_ok (f : Nat → Tp) (n cap : Nat) (ad : Option Addr) (ev : Int) (i b0 b1 base : Nat) (w0 w : World) (hn : n ≤ 1048576) (hi : i < n) (hg : good f ev i) (hr : (f i).inR ev) (he : ev ≤ 128) (hF : 0 < i → (f (i - 1)).F ≤ (f i).F)
    (h : TsAt w0 ad n f) (hbel : Bel w0 w) (h0 : w0.heap.size ≤ b0) (h01 : b0 < b1) (hL : Uno w b0 (.slice ad n cap)) (hS : St w b1 base (stk f i)) :
    Calls Try.prog 57 #[.int .i64 (i : Int), .pointer (some ⟨b1, 0, none⟩), .pointer (some ⟨b0, 0, none⟩)] w fun e w' => e = .returned (.tuple #[.int .i64 (outer f i), .bool (decide (okP f i))]) ∧ Exc b1 base w w' ∧ St w' b1 base (opn f i ++ [i]) := by
  have hlt := hS.lt
  have hbs := hS.bs
  have hbz : w0.heap.size ≤ w.heap.size := Bel.size hbel
  have HX := Lib.hid hbel
  have HT := Lib.hid h
  have HG := Lib.hid hg
  have HI := Lib.hid (fun u => mem_opn (f := f) (i := i) (j := u))
  have hsm := Lib.hid (Sm.of hr he)
  have HSM := Lib.hid (fun k (hk : k < i) => Sm.of (hg.parts hk).1 he)
  have hsl := stk_len hg
  have B0 := Lib.hid (show Exc b1 base w w from Exc.refl hS.lt hS.bs)
  have S0 := Lib.hid hS
  have HL := Lib.hid hL
  have HF := Lib.hid hF
  have HBEL := Lib.hid (fun (W : World) (hx : Exc b1 base w W) => (Exc.bel hx hbel (by omega) : Bel w0 W))
  obtain ⟨i0, hinf, hz0, hz1, hz2⟩ := info_parts infoI
  obtain ⟨b, off, rfl, _⟩ := h i hi
  clear hg hr hF h hbel hL hS
  go_enter Try.func57, Try.ntmps57
  go_wp2_with fail
  go_loopg [] (stk f i).length (fun gm wr => ∃ m : Nat, m ≤ (stk f i).length ∧ m = gm ∧ Hid (Exc b1 base w wr) ∧ Hid (St wr b1 base ((stk f i).take m)) ∧ Hid (∀ j x, m ≤ j → (stk f i)[j]? = some x → (f x).e ≤ (f i).F))
  case atStart => exact ⟨(stk f i).length, Nat.le_refl _, rfl, B0, by rw [List.take_length]; exact S0, fun j x hj hx => absurd (List.getElem?_eq_some_iff.1 hx).1 (by omega)⟩
  case round =>
    clear B0 S0
    obtain ⟨m, hm, rfl, HB, HS, HC⟩ := hrel
    obtain ⟨W0, hW0, B0, HS⟩ : ∃ W0, W0 = _ ∧ Hid (Exc b1 base w W0) ∧ Hid (St W0 b1 base ((stk f i).take m)) := ⟨_, rfl, HB, HS⟩
    subst hW0
    clear HB
    have T0 := Lib.hid (HT.out.up (HBEL.out _ B0.out).out)
    have L0 := HL.out.block (B0.out.low.size) (B0.out.low.block b0 h01)
    have hbw := B0.out.big
    obtain ⟨b', off', e, dF, dC, dA, dN⟩ := T0.out i hi
    cases e
    rcases m with _ | m
    · obtain ⟨ao, cp, V0, ho⟩ := HS.out.nil (by simp)
      have O0 := Lib.hid ho
      have hO : opn f i = (stk f i).take 0 := (pop_done HG.out HF.out (Nat.zero_le _) (fun j x hj hx => HC.out j x hj hx) (fun x hx => absurd hx (by omega))).symm
      have hOn : opn f i = [] := hO.trans (by simp)
      have HR := Lib.hid (show outer f i = -1 ∧ decide (okP f i) = true from ⟨outer_nil hOn, decide_eq_true (okP_nil hOn)⟩)
      replace hO := Lib.hid hO
      clear ho hOn HS HC
      obtain ⟨lf0, lf1, lf2⟩ := id L0
      obtain ⟨vf0, vf1, vf2⟩ := id V0
      go_wp2_with fail
      clear lf0 lf1 lf2 vf0 vf1 vf2
      refine Qt.regionAll (by kernel_rfl) (by kernel_rfl) ?_
      intro T f_ F hne
      have RB := Lib.hid (fun g => B0.out.up (F.below g))
      have RT := Lib.hid (fun g => T0.out.up (F.below g))
      have RO := Lib.hid (fun g => O0.out.up (F.below g))
      have RL := fun g => L0.up (F.below g)
      have RL0 := fun g => (RL g).c0
      have RV := fun g => V0.up (F.below g)
      have RV0 := fun g => (RV g).c0
      repeat (go_big_quiet_step (fail))
      refine wpQuiet_nil ?_
      rintro _ ⟨gT, rfl⟩
      have B1 := Lib.hid (RB.out gT)
      have T1 := Lib.hid (RT.out gT)
      have O1 := Lib.hid (RO.out gT)
      have L1 := RL gT
      have V1 := RV gT
      clear F RB hne RT RO RL RL0 RV RV0 B0 T0 O0 L0 V0
      generalize f_ gT = w1 at *
      clear f_
      obtain ⟨lf0, lf1, lf2⟩ := id L1
      obtain ⟨vf0, vf1, vf2⟩ := id V1
      go_wp2_with fail
      clear lf0 lf1 lf2 vf0 vf1 vf2
      refine Qt.regionAll (by kernel_rfl) (by kernel_rfl) ?_
      intro T f_ F hne
      have RB := Lib.hid (fun g => B1.out.up (F.below g))
      have RT := Lib.hid (fun g => T1.out.up (F.below g))
      have RO := Lib.hid (fun g => O1.out.up (F.below g))
      have RL := fun g => L1.up (F.below g)
      have RL0 := fun g => (RL g).c0
      have RV := fun g => V1.up (F.below g)
      have RV0 := fun g => (RV g).c0
      repeat (go_big_quiet_step (fail))
      refine wpQuiet_nil ?_
      rintro _ ⟨gT, rfl⟩
      have B2 := Lib.hid (RB.out gT)
      have T2 := Lib.hid (RT.out gT)
      have O2 := Lib.hid (RO.out gT)
      have L2 := RL gT
      have V2 := RV gT
      clear F RB hne RT RO RL RL0 RV RV0 B1 T1 O1 L1 V1
      generalize f_ gT = w2 at *
      clear f_
      obtain ⟨lf0, lf1, lf2⟩ := id L2
      obtain ⟨vf0, vf1, vf2⟩ := id V2
      have hbz2 := (B2.out.big)
      have HW := Lib.hid (HBEL.out _ B2.out).size
      have hsz : base ≤ w2.heap.size := B2.out.big
      go_wp2_with (first | (at_builtin; refine wpList_append_own _ rfl _ _ 40 rfl base 3 i0 (.int .i64 0) 1 8 Try.underlying40 hinf hz0 hz1 hz2 rfl (by decide) _ _ _ rfl (World.ownsRow.alloc O2.out _) ⟨w2.heap.size, 0, none⟩ 1 1 [.int .i64 (i : Int)] rfl rfl (cell1_new _ _ _ _ rfl) (by simp [Value.oneCell']) (by unfold maxLen; omega) (by omega) (by simp; omega) ?_; intro v' w9 hown' hgrow _; obtain ⟨ao9, cp9, rfl⟩ := own_shape hown'; have V9 := push_var hlt V2 O2.out hgrow; obtain ⟨v9a, v9b, v9c⟩ := id V9))
      go_ret2
      exact ⟨by rw [HR.out.1, HR.out.2]; rfl, ((B2.out.up ((Below.refl _ _).alloc (Nat.le_refl _) _)).grown hgrow (fun k hk => (World.ownsRow.lt O2.out k hk).1)).set _, by rw [hO.out]; exact St.push hlt hsz V2 (by simp) O2.out hgrow hown'⟩
    · obtain ⟨g, cp, V0, hcp, hgb, C0, ho⟩ := HS.out.cons (m := m) (by rw [List.length_take]; omega)
      have O0 := Lib.hid ho
      obtain ⟨x, hx⟩ : ∃ x, (stk f i)[m]? = some x := ⟨_, List.getElem?_eq_getElem (by omega)⟩
      have hxi : x < i := stk_lt (List.mem_of_getElem? hx)
      have cx := C0 m x (by rw [List.getElem?_take, if_pos (by omega)]; exact hx)
      obtain ⟨b', off', e, cF, cC, cA, cN⟩ := T0.out x (by omega)
      cases e
      have hxs := Lib.hid (HSM.out x hxi)
      have hq1 : decide ((0 : Int) < ((m + 1 : Nat) : Int)) = true := decide_eq_true (by omega)
      have hq2 : decide ((0 : Int) < (m : Int) + 1) = true := decide_eq_true (by omega)
      obtain ⟨xs0, xs1, xs2, xs3, xs4⟩ := id hxs.out
      obtain ⟨is0, is1, is2, is3, is4⟩ := id hsm.out
      clear C0 ho
      by_cases hle : (f x).F + (f x).C ≤ (f i).F
      · have hd : decide ((f x).F + (f x).C ≤ (f i).F) = true := decide_eq_true hle
        have HC2 := Lib.hid (show ∀ j y, m ≤ j → (stk f i)[j]? = some y → (f y).e ≤ (f i).F from fun j y hj hy => by
          by_cases e : j = m
          · subst e
            rw [hx] at hy
            cases hy
            exact hle
          · exact HC.out j y (by omega) hy)
        clear HC hx hle HS
        obtain ⟨lf0, lf1, lf2⟩ := id L0
        obtain ⟨vf0, vf1, vf2⟩ := id V0
        go_wp2_with fail
        clear lf0 lf1 lf2 vf0 vf1 vf2
        refine Qt.regionAll (by kernel_rfl) (by kernel_rfl) ?_
        intro T f_ F hne
        have RB := Lib.hid (fun g => B0.out.up (F.below g))
        have RT := Lib.hid (fun g => T0.out.up (F.below g))
        have RO := Lib.hid (fun g => O0.out.up (F.below g))
        have RL := fun g => L0.up (F.below g)
        have RL0 := fun g => (RL g).c0
        have RV := fun g => V0.up (F.below g)
        have RV0 := fun g => (RV g).c0
        have R_cx := fun g => cell_up (F.below g) cx
        have R_cF := fun g => cell_up (F.below g) cF
        have R_cC := fun g => cell_up (F.below g) cC
        have R_cA := fun g => cell_up (F.below g) cA
        have R_cN := fun g => cell_up (F.below g) cN
        have R_dF := fun g => cell_up (F.below g) dF
        have R_dC := fun g => cell_up (F.below g) dC
        have R_dA := fun g => cell_up (F.below g) dA
        have R_dN := fun g => cell_up (F.below g) dN
        repeat (go_big_quiet_step (first | (go_at_call 50; with_reducible exact F.call (end_ok (f x) _ hxs.out))))
        refine wpQuiet_nil ?_
        rintro _ ⟨gT, rfl⟩
        have B1 := Lib.hid (RB.out gT)
        have T1 := Lib.hid (RT.out gT)
        have O1 := Lib.hid (RO.out gT)
        have L1 := RL gT
        have V1 := RV gT
        have n_cx := R_cx gT
        have n_cF := R_cF gT
        have n_cC := R_cC gT
        have n_cA := R_cA gT
        have n_cN := R_cN gT
        have n_dF := R_dF gT
        have n_dC := R_dC gT
        have n_dA := R_dA gT
        have n_dN := R_dN gT
        clear F RB hne RT RO RL RL0 RV RV0 B0 T0 O0 L0 V0 R_cx cx R_cF cF R_cC cC R_cA cA R_cN cN R_dF dF R_dC dC R_dA dA R_dN dN
        generalize f_ gT = w1 at *
        clear f_
        have cx := n_cx
        clear n_cx
        have cF := n_cF
        clear n_cF
        have cC := n_cC
        clear n_cC
        have cA := n_cA
        clear n_cA
        have cN := n_cN
        clear n_cN
        have dF := n_dF
        clear n_dF
        have dC := n_dC
        clear n_dC
        have dA := n_dA
        clear n_dA
        have dN := n_dN
        clear n_dN
        obtain ⟨lf0, lf1, lf2⟩ := id L1
        obtain ⟨vf0, vf1, vf2⟩ := id V1
        go_wp2_with fail
        have HS2 := Lib.hid (St.pop (b1 := b1) hlt B1.out.big (by rw [List.length_take]; omega) V1 O1.out)
        have HB2 := Lib.hid (B1.out.set (.slice (some ⟨g, 0, none⟩) m cp))
        go_roundg m
        case measure => omega
        case rel => exact ⟨m, by omega, rfl, HB2, by rw [List.take_take, Nat.min_eq_left (by omega)] at HS2; exact HS2, HC2⟩
      · have hd : decide ((f x).F + (f x).C ≤ (f i).F) = false := decide_eq_false hle
        have hO : opn f i = (stk f i).take (m + 1) := (pop_done HG.out HF.out hm (fun j y hj hy => HC.out j y hj hy) (fun y _ hy => by
          rw [show m + 1 - 1 = m from rfl, hx] at hy
          cases hy
          unfold Tp.e
          omega)).symm
        have hol : (opn f i).length = m + 1 := by rw [hO, List.length_take]; omega
        obtain ⟨hou, hla⟩ := outer_last hol (by rw [hO, List.getElem?_take, if_pos (by omega)]; exact hx)
        have HQ := Lib.hid (okP_iff HG.out HF.out)
        replace hO := Lib.hid hO
        replace hou := Lib.hid hou
        replace hla := Lib.hid hla
        replace hol := Lib.hid hol
        clear HC hx hle HS
        by_cases h3 : m + 1 < 3
        · have h31 : decide ((m : Int) + 1 < 3) = true := decide_eq_true (by omega)
          have h32 : decide (((m + 1 : Nat) : Int) < 3) = true := decide_eq_true (by omega)
          by_cases hee : (f i).F + (f i).C ≤ (f x).F + (f x).C
          · have he1 : decide ((f i).F + (f i).C ≤ (f x).F + (f x).C) = true := decide_eq_true hee
            have HR := Lib.hid (show decide (okP f i) = true from decide_eq_true (HQ.out.2 ⟨by rw [hol.out]; omega, fun y hy => by rw [hla.out] at hy; cases hy; exact hee⟩))
            clear HQ hee
            obtain ⟨lf0, lf1, lf2⟩ := id L0
            obtain ⟨vf0, vf1, vf2⟩ := id V0
            go_wp2_with fail
            clear lf0 lf1 lf2 vf0 vf1 vf2
            refine Qt.regionAll (by kernel_rfl) (by kernel_rfl) ?_
            intro T f_ F hne
            have RB := Lib.hid (fun g => B0.out.up (F.below g))
            have RT := Lib.hid (fun g => T0.out.up (F.below g))
            have RO := Lib.hid (fun g => O0.out.up (F.below g))
            have RL := fun g => L0.up (F.below g)
            have RL0 := fun g => (RL g).c0
            have RV := fun g => V0.up (F.below g)
            have RV0 := fun g => (RV g).c0
            have R_cx := fun g => cell_up (F.below g) cx
            have R_cF := fun g => cell_up (F.below g) cF
            have R_cC := fun g => cell_up (F.below g) cC
            have R_cA := fun g => cell_up (F.below g) cA
            have R_cN := fun g => cell_up (F.below g) cN
            have R_dF := fun g => cell_up (F.below g) dF
            have R_dC := fun g => cell_up (F.below g) dC
            have R_dA := fun g => cell_up (F.below g) dA
            have R_dN := fun g => cell_up (F.below g) dN
            repeat (go_big_quiet_step (first | (go_at_call 50; with_reducible exact F.call (end_ok (f x) _ hxs.out))))
            refine wpQuiet_nil ?_
            rintro _ ⟨gT, rfl⟩
            have B1 := Lib.hid (RB.out gT)
            have T1 := Lib.hid (RT.out gT)
            have O1 := Lib.hid (RO.out gT)
            have L1 := RL gT
            have V1 := RV gT
            have n_cx := R_cx gT
            have n_cF := R_cF gT
            have n_cC := R_cC gT
            have n_cA := R_cA gT
            have n_cN := R_cN gT
            have n_dF := R_dF gT
            have n_dC := R_dC gT
            have n_dA := R_dA gT
            have n_dN := R_dN gT
            clear F RB hne RT RO RL RL0 RV RV0 B0 T0 O0 L0 V0 R_cx cx R_cF cF R_cC cC R_cA cA R_cN cN R_dF dF R_dC dC R_dA dA R_dN dN
            generalize f_ gT = w1 at *
            clear f_
            have cx := n_cx
            clear n_cx
            have cF := n_cF
            clear n_cF
            have cC := n_cC
            clear n_cC
            have cA := n_cA
            clear n_cA
            have cN := n_cN
            clear n_cN
            have dF := n_dF
            clear n_dF
            have dC := n_dC
            clear n_dC
            have dA := n_dA
            clear n_dA
            have dN := n_dN
            clear n_dN
            obtain ⟨lf0, lf1, lf2⟩ := id L1
            obtain ⟨vf0, vf1, vf2⟩ := id V1
            go_wp2_with fail
            clear lf0 lf1 lf2 vf0 vf1 vf2
            refine Qt.regionAll (by kernel_rfl) (by kernel_rfl) ?_
            intro T f_ F hne
            have RB := Lib.hid (fun g => B1.out.up (F.below g))
            have RT := Lib.hid (fun g => T1.out.up (F.below g))
            have RO := Lib.hid (fun g => O1.out.up (F.below g))
            have RL := fun g => L1.up (F.below g)
            have RL0 := fun g => (RL g).c0
            have RV := fun g => V1.up (F.below g)
            have RV0 := fun g => (RV g).c0
            have R_cx := fun g => cell_up (F.below g) cx
            have R_cF := fun g => cell_up (F.below g) cF
            have R_cC := fun g => cell_up (F.below g) cC
            have R_cA := fun g => cell_up (F.below g) cA
            have R_cN := fun g => cell_up (F.below g) cN
            have R_dF := fun g => cell_up (F.below g) dF
            have R_dC := fun g => cell_up (F.below g) dC
            have R_dA := fun g => cell_up (F.below g) dA
            have R_dN := fun g => cell_up (F.below g) dN
            repeat (go_big_quiet_step (fail))
            refine wpQuiet_nil ?_
            rintro _ ⟨gT, rfl⟩
            have B2 := Lib.hid (RB.out gT)
            have T2 := Lib.hid (RT.out gT)
            have O2 := Lib.hid (RO.out gT)
            have L2 := RL gT
            have V2 := RV gT
            have n_cx := R_cx gT
            have n_cF := R_cF gT
            have n_cC := R_cC gT
            have n_cA := R_cA gT
            have n_cN := R_cN gT
            have n_dF := R_dF gT
            have n_dC := R_dC gT
            have n_dA := R_dA gT
            have n_dN := R_dN gT
            clear F RB hne RT RO RL RL0 RV RV0 B1 T1 O1 L1 V1 R_cx cx R_cF cF R_cC cC R_cA cA R_cN cN R_dF dF R_dC dC R_dA dA R_dN dN
            generalize f_ gT = w2 at *
            clear f_
            have cx := n_cx
            clear n_cx
            have cF := n_cF
            clear n_cF
            have cC := n_cC
            clear n_cC
            have cA := n_cA
            clear n_cA
            have cN := n_cN
            clear n_cN
            have dF := n_dF
            clear n_dF
            have dC := n_dC
            clear n_dC
            have dA := n_dA
            clear n_dA
            have dN := n_dN
            clear n_dN
            obtain ⟨lf0, lf1, lf2⟩ := id L2
            obtain ⟨vf0, vf1, vf2⟩ := id V2
            go_wp2_with fail
            clear lf0 lf1 lf2 vf0 vf1 vf2
            refine Qt.regionAll (by kernel_rfl) (by kernel_rfl) ?_
            intro T f_ F hne
            have RB := Lib.hid (fun g => B2.out.up (F.below g))
            have RT := Lib.hid (fun g => T2.out.up (F.below g))
            have RO := Lib.hid (fun g => O2.out.up (F.below g))
            have RL := fun g => L2.up (F.below g)
            have RL0 := fun g => (RL g).c0
            have RV := fun g => V2.up (F.below g)
            have RV0 := fun g => (RV g).c0
            have R_cx := fun g => cell_up (F.below g) cx
            have R_cF := fun g => cell_up (F.below g) cF
            have R_cC := fun g => cell_up (F.below g) cC
            have R_cA := fun g => cell_up (F.below g) cA
            have R_cN := fun g => cell_up (F.below g) cN
            have R_dF := fun g => cell_up (F.below g) dF
            have R_dC := fun g => cell_up (F.below g) dC
            have R_dA := fun g => cell_up (F.below g) dA
            have R_dN := fun g => cell_up (F.below g) dN
            repeat (go_big_quiet_step (first | (go_at_call 50; with_reducible exact F.call (end_ok (f i) _ hsm.out)) | (go_at_call 50; with_reducible exact F.call (end_ok (f x) _ hxs.out))))
            refine wpQuiet_nil ?_
            rintro _ ⟨gT, rfl⟩
            have B3 := Lib.hid (RB.out gT)
            have T3 := Lib.hid (RT.out gT)
            have O3 := Lib.hid (RO.out gT)
            have L3 := RL gT
            have V3 := RV gT
            have n_cx := R_cx gT
            have n_cF := R_cF gT
            have n_cC := R_cC gT
            have n_cA := R_cA gT
            have n_cN := R_cN gT
            have n_dF := R_dF gT
            have n_dC := R_dC gT
            have n_dA := R_dA gT
            have n_dN := R_dN gT
            clear F RB hne RT RO RL RL0 RV RV0 B2 T2 O2 L2 V2 R_cx cx R_cF cF R_cC cC R_cA cA R_cN cN R_dF dF R_dC dC R_dA dA R_dN dN
            generalize f_ gT = w3 at *
            clear f_
            have cx := n_cx
            clear n_cx
            have cF := n_cF
            clear n_cF
            have cC := n_cC
            clear n_cC
            have cA := n_cA
            clear n_cA
            have cN := n_cN
            clear n_cN
            have dF := n_dF
            clear n_dF
            have dC := n_dC
            clear n_dC
            have dA := n_dA
            clear n_dA
            have dN := n_dN
            clear n_dN
            obtain ⟨lf0, lf1, lf2⟩ := id L3
            obtain ⟨vf0, vf1, vf2⟩ := id V3
            have hbz3 := (B3.out.big)
            have HW := Lib.hid (HBEL.out _ B3.out).size
            have hsz : base ≤ w3.heap.size := B3.out.big
            go_wp2_with (first | (at_builtin; refine wpList_append_own _ rfl _ _ 40 rfl base 3 i0 (.int .i64 0) 1 8 Try.underlying40 hinf hz0 hz1 hz2 rfl (by decide) _ _ _ rfl (World.ownsRow.alloc O3.out _) ⟨w3.heap.size, 0, none⟩ 1 1 [.int .i64 (i : Int)] rfl rfl (cell1_new _ _ _ _ rfl) (by simp [Value.oneCell']) (by unfold maxLen; omega) (by omega) (by simp; omega) ?_; intro v' w9 hown' hgrow _; obtain ⟨ao9, cp9, rfl⟩ := own_shape hown'; have V9 := push_var hlt V3 O3.out hgrow; obtain ⟨v9a, v9b, v9c⟩ := id V9))
            go_ret2
            exact ⟨by rw [hou.out, HR.out]; rfl, ((B3.out.up ((Below.refl _ _).alloc (Nat.le_refl _) _)).grown hgrow (fun k hk => (World.ownsRow.lt O3.out k hk).1)).set _, by rw [hO.out]; exact St.push hlt hsz V3 (by rw [List.length_take]; omega) O3.out hgrow hown'⟩
          · have he1 : decide ((f i).F + (f i).C ≤ (f x).F + (f x).C) = false := decide_eq_false hee
            have HR := Lib.hid (show decide (okP f i) = false from decide_eq_false (fun h => hee ((HQ.out.1 h).2 x hla.out)))
            clear HQ hee
            obtain ⟨lf0, lf1, lf2⟩ := id L0
            obtain ⟨vf0, vf1, vf2⟩ := id V0
            go_wp2_with fail
            clear lf0 lf1 lf2 vf0 vf1 vf2
            refine Qt.regionAll (by kernel_rfl) (by kernel_rfl) ?_
            intro T f_ F hne
            have RB := Lib.hid (fun g => B0.out.up (F.below g))
            have RT := Lib.hid (fun g => T0.out.up (F.below g))
            have RO := Lib.hid (fun g => O0.out.up (F.below g))
            have RL := fun g => L0.up (F.below g)
            have RL0 := fun g => (RL g).c0
            have RV := fun g => V0.up (F.below g)
            have RV0 := fun g => (RV g).c0
            have R_cx := fun g => cell_up (F.below g) cx
            have R_cF := fun g => cell_up (F.below g) cF
            have R_cC := fun g => cell_up (F.below g) cC
            have R_cA := fun g => cell_up (F.below g) cA
            have R_cN := fun g => cell_up (F.below g) cN
            have R_dF := fun g => cell_up (F.below g) dF
            have R_dC := fun g => cell_up (F.below g) dC
            have R_dA := fun g => cell_up (F.below g) dA
            have R_dN := fun g => cell_up (F.below g) dN
            repeat (go_big_quiet_step (first | (go_at_call 50; with_reducible exact F.call (end_ok (f x) _ hxs.out))))
            refine wpQuiet_nil ?_
            rintro _ ⟨gT, rfl⟩
            have B1 := Lib.hid (RB.out gT)
            have T1 := Lib.hid (RT.out gT)
            have O1 := Lib.hid (RO.out gT)
            have L1 := RL gT
            have V1 := RV gT
            have n_cx := R_cx gT
            have n_cF := R_cF gT
            have n_cC := R_cC gT
            have n_cA := R_cA gT
            have n_cN := R_cN gT
            have n_dF := R_dF gT
            have n_dC := R_dC gT
            have n_dA := R_dA gT
            have n_dN := R_dN gT
            clear F RB hne RT RO RL RL0 RV RV0 B0 T0 O0 L0 V0 R_cx cx R_cF cF R_cC cC R_cA cA R_cN cN R_dF dF R_dC dC R_dA dA R_dN dN
            generalize f_ gT = w1 at *
            clear f_
            have cx := n_cx
            clear n_cx
            have cF := n_cF
            clear n_cF
            have cC := n_cC
            clear n_cC
            have cA := n_cA
            clear n_cA
            have cN := n_cN
            clear n_cN
            have dF := n_dF
            clear n_dF
            have dC := n_dC
            clear n_dC
            have dA := n_dA
            clear n_dA
            have dN := n_dN
            clear n_dN
            obtain ⟨lf0, lf1, lf2⟩ := id L1
            obtain ⟨vf0, vf1, vf2⟩ := id V1
            go_wp2_with fail
            clear lf0 lf1 lf2 vf0 vf1 vf2
            refine Qt.regionAll (by kernel_rfl) (by kernel_rfl) ?_
            intro T f_ F hne
            have RB := Lib.hid (fun g => B1.out.up (F.below g))
            have RT := Lib.hid (fun g => T1.out.up (F.below g))
            have RO := Lib.hid (fun g => O1.out.up (F.below g))
            have RL := fun g => L1.up (F.below g)
            have RL0 := fun g => (RL g).c0
            have RV := fun g => V1.up (F.below g)
            have RV0 := fun g => (RV g).c0
            have R_cx := fun g => cell_up (F.below g) cx
            have R_cF := fun g => cell_up (F.below g) cF
            have R_cC := fun g => cell_up (F.below g) cC
            have R_cA := fun g => cell_up (F.below g) cA
            have R_cN := fun g => cell_up (F.below g) cN
            have R_dF := fun g => cell_up (F.below g) dF
            have R_dC := fun g => cell_up (F.below g) dC
            have R_dA := fun g => cell_up (F.below g) dA
            have R_dN := fun g => cell_up (F.below g) dN
            repeat (go_big_quiet_step (fail))
            refine wpQuiet_nil ?_
            rintro _ ⟨gT, rfl⟩
            have B2 := Lib.hid (RB.out gT)
            have T2 := Lib.hid (RT.out gT)
            have O2 := Lib.hid (RO.out gT)
            have L2 := RL gT
            have V2 := RV gT
            have n_cx := R_cx gT
            have n_cF := R_cF gT
            have n_cC := R_cC gT
            have n_cA := R_cA gT
            have n_cN := R_cN gT
            have n_dF := R_dF gT
            have n_dC := R_dC gT
            have n_dA := R_dA gT
            have n_dN := R_dN gT
            clear F RB hne RT RO RL RL0 RV RV0 B1 T1 O1 L1 V1 R_cx cx R_cF cF R_cC cC R_cA cA R_cN cN R_dF dF R_dC dC R_dA dA R_dN dN
            generalize f_ gT = w2 at *
            clear f_
            have cx := n_cx
            clear n_cx
            have cF := n_cF
            clear n_cF
            have cC := n_cC
            clear n_cC
            have cA := n_cA
            clear n_cA
            have cN := n_cN
            clear n_cN
            have dF := n_dF
            clear n_dF
            have dC := n_dC
            clear n_dC
            have dA := n_dA
            clear n_dA
            have dN := n_dN
            clear n_dN
            obtain ⟨lf0, lf1, lf2⟩ := id L2
            obtain ⟨vf0, vf1, vf2⟩ := id V2
            go_wp2_with fail
            clear lf0 lf1 lf2 vf0 vf1 vf2
            refine Qt.regionAll (by kernel_rfl) (by kernel_rfl) ?_
            intro T f_ F hne
            have RB := Lib.hid (fun g => B2.out.up (F.below g))
            have RT := Lib.hid (fun g => T2.out.up (F.below g))
            have RO := Lib.hid (fun g => O2.out.up (F.below g))
            have RL := fun g => L2.up (F.below g)
            have RL0 := fun g => (RL g).c0
            have RV := fun g => V2.up (F.below g)
            have RV0 := fun g => (RV g).c0
            have R_cx := fun g => cell_up (F.below g) cx
            have R_cF := fun g => cell_up (F.below g) cF
            have R_cC := fun g => cell_up (F.below g) cC
            have R_cA := fun g => cell_up (F.below g) cA
            have R_cN := fun g => cell_up (F.below g) cN
            have R_dF := fun g => cell_up (F.below g) dF
            have R_dC := fun g => cell_up (F.below g) dC
            have R_dA := fun g => cell_up (F.below g) dA
            have R_dN := fun g => cell_up (F.below g) dN
            repeat (go_big_quiet_step (first | (go_at_call 50; with_reducible exact F.call (end_ok (f i) _ hsm.out)) | (go_at_call 50; with_reducible exact F.call (end_ok (f x) _ hxs.out))))
            refine wpQuiet_nil ?_
            rintro _ ⟨gT, rfl⟩
            have B3 := Lib.hid (RB.out gT)
            have T3 := Lib.hid (RT.out gT)
            have O3 := Lib.hid (RO.out gT)
            have L3 := RL gT
            have V3 := RV gT
            have n_cx := R_cx gT
            have n_cF := R_cF gT
            have n_cC := R_cC gT
            have n_cA := R_cA gT
            have n_cN := R_cN gT
            have n_dF := R_dF gT
            have n_dC := R_dC gT
            have n_dA := R_dA gT
            have n_dN := R_dN gT
            clear F RB hne RT RO RL RL0 RV RV0 B2 T2 O2 L2 V2 R_cx cx R_cF cF R_cC cC R_cA cA R_cN cN R_dF dF R_dC dC R_dA dA R_dN dN
            generalize f_ gT = w3 at *
            clear f_
            have cx := n_cx
            clear n_cx
            have cF := n_cF
            clear n_cF
            have cC := n_cC
            clear n_cC
            have cA := n_cA
            clear n_cA
            have cN := n_cN
            clear n_cN
            have dF := n_dF
            clear n_dF
            have dC := n_dC
            clear n_dC
            have dA := n_dA
            clear n_dA
            have dN := n_dN
            clear n_dN
            obtain ⟨lf0, lf1, lf2⟩ := id L3
            obtain ⟨vf0, vf1, vf2⟩ := id V3
            have hbz3 := (B3.out.big)
            have HW := Lib.hid (HBEL.out _ B3.out).size
            have hsz : base ≤ w3.heap.size := B3.out.big
            go_wp2_with (first | (at_builtin; refine wpList_append_own _ rfl _ _ 40 rfl base 3 i0 (.int .i64 0) 1 8 Try.underlying40 hinf hz0 hz1 hz2 rfl (by decide) _ _ _ rfl (World.ownsRow.alloc O3.out _) ⟨w3.heap.size, 0, none⟩ 1 1 [.int .i64 (i : Int)] rfl rfl (cell1_new _ _ _ _ rfl) (by simp [Value.oneCell']) (by unfold maxLen; omega) (by omega) (by simp; omega) ?_; intro v' w9 hown' hgrow _; obtain ⟨ao9, cp9, rfl⟩ := own_shape hown'; have V9 := push_var hlt V3 O3.out hgrow; obtain ⟨v9a, v9b, v9c⟩ := id V9))
            go_ret2
            exact ⟨by rw [hou.out, HR.out]; rfl, ((B3.out.up ((Below.refl _ _).alloc (Nat.le_refl _) _)).grown hgrow (fun k hk => (World.ownsRow.lt O3.out k hk).1)).set _, by rw [hO.out]; exact St.push hlt hsz V3 (by rw [List.length_take]; omega) O3.out hgrow hown'⟩
        · have h31 : decide ((m : Int) + 1 < 3) = false := decide_eq_false (by omega)
          have h32 : decide (((m + 1 : Nat) : Int) < 3) = false := decide_eq_false (by omega)
          have HR := Lib.hid (show decide (okP f i) = false from decide_eq_false (fun h => by have := (HQ.out.1 h).1; rw [hol.out] at this; omega))
          clear HQ
          obtain ⟨lf0, lf1, lf2⟩ := id L0
          obtain ⟨vf0, vf1, vf2⟩ := id V0
          go_wp2_with fail
          clear lf0 lf1 lf2 vf0 vf1 vf2
          refine Qt.regionAll (by kernel_rfl) (by kernel_rfl) ?_
          intro T f_ F hne
          have RB := Lib.hid (fun g => B0.out.up (F.below g))
          have RT := Lib.hid (fun g => T0.out.up (F.below g))
          have RO := Lib.hid (fun g => O0.out.up (F.below g))
          have RL := fun g => L0.up (F.below g)
          have RL0 := fun g => (RL g).c0
          have RV := fun g => V0.up (F.below g)
          have RV0 := fun g => (RV g).c0
          have R_cx := fun g => cell_up (F.below g) cx
          have R_cF := fun g => cell_up (F.below g) cF
          have R_cC := fun g => cell_up (F.below g) cC
          have R_cA := fun g => cell_up (F.below g) cA
          have R_cN := fun g => cell_up (F.below g) cN
          have R_dF := fun g => cell_up (F.below g) dF
          have R_dC := fun g => cell_up (F.below g) dC
          have R_dA := fun g => cell_up (F.below g) dA
          have R_dN := fun g => cell_up (F.below g) dN
          repeat (go_big_quiet_step (first | (go_at_call 50; with_reducible exact F.call (end_ok (f x) _ hxs.out))))
          refine wpQuiet_nil ?_
          rintro _ ⟨gT, rfl⟩
          have B1 := Lib.hid (RB.out gT)
          have T1 := Lib.hid (RT.out gT)
          have O1 := Lib.hid (RO.out gT)
          have L1 := RL gT
          have V1 := RV gT
          have n_cx := R_cx gT
          have n_cF := R_cF gT
          have n_cC := R_cC gT
          have n_cA := R_cA gT
          have n_cN := R_cN gT
          have n_dF := R_dF gT
          have n_dC := R_dC gT
          have n_dA := R_dA gT
          have n_dN := R_dN gT
          clear F RB hne RT RO RL RL0 RV RV0 B0 T0 O0 L0 V0 R_cx cx R_cF cF R_cC cC R_cA cA R_cN cN R_dF dF R_dC dC R_dA dA R_dN dN
          generalize f_ gT = w1 at *
          clear f_
          have cx := n_cx
          clear n_cx
          have cF := n_cF
          clear n_cF
          have cC := n_cC
          clear n_cC
          have cA := n_cA
          clear n_cA
          have cN := n_cN
          clear n_cN
          have dF := n_dF
          clear n_dF
          have dC := n_dC
          clear n_dC
          have dA := n_dA
          clear n_dA
          have dN := n_dN
          clear n_dN
          obtain ⟨lf0, lf1, lf2⟩ := id L1
          obtain ⟨vf0, vf1, vf2⟩ := id V1
          go_wp2_with fail
          clear lf0 lf1 lf2 vf0 vf1 vf2
          refine Qt.regionAll (by kernel_rfl) (by kernel_rfl) ?_
          intro T f_ F hne
          have RB := Lib.hid (fun g => B1.out.up (F.below g))
          have RT := Lib.hid (fun g => T1.out.up (F.below g))
          have RO := Lib.hid (fun g => O1.out.up (F.below g))
          have RL := fun g => L1.up (F.below g)
          have RL0 := fun g => (RL g).c0
          have RV := fun g => V1.up (F.below g)
          have RV0 := fun g => (RV g).c0
          have R_cx := fun g => cell_up (F.below g) cx
          have R_cF := fun g => cell_up (F.below g) cF
          have R_cC := fun g => cell_up (F.below g) cC
          have R_cA := fun g => cell_up (F.below g) cA
          have R_cN := fun g => cell_up (F.below g) cN
          have R_dF := fun g => cell_up (F.below g) dF
          have R_dC := fun g => cell_up (F.below g) dC
          have R_dA := fun g => cell_up (F.below g) dA
          have R_dN := fun g => cell_up (F.below g) dN
          repeat (go_big_quiet_step (fail))
          refine wpQuiet_nil ?_
          rintro _ ⟨gT, rfl⟩
          have B2 := Lib.hid (RB.out gT)
          have T2 := Lib.hid (RT.out gT)
          have O2 := Lib.hid (RO.out gT)
          have L2 := RL gT
          have V2 := RV gT
          have n_cx := R_cx gT
          have n_cF := R_cF gT
          have n_cC := R_cC gT
          have n_cA := R_cA gT
          have n_cN := R_cN gT
          have n_dF := R_dF gT
          have n_dC := R_dC gT
          have n_dA := R_dA gT
          have n_dN := R_dN gT
          clear F RB hne RT RO RL RL0 RV RV0 B1 T1 O1 L1 V1 R_cx cx R_cF cF R_cC cC R_cA cA R_cN cN R_dF dF R_dC dC R_dA dA R_dN dN
          generalize f_ gT = w2 at *
          clear f_
          have cx := n_cx
          clear n_cx
          have cF := n_cF
          clear n_cF
          have cC := n_cC
          clear n_cC
          have cA := n_cA
          clear n_cA
          have cN := n_cN
          clear n_cN
          have dF := n_dF
          clear n_dF
          have dC := n_dC
          clear n_dC
          have dA := n_dA
          clear n_dA
          have dN := n_dN
          clear n_dN
          obtain ⟨lf0, lf1, lf2⟩ := id L2
          obtain ⟨vf0, vf1, vf2⟩ := id V2
          go_wp2_with fail
          clear lf0 lf1 lf2 vf0 vf1 vf2
          refine Qt.regionAll (by kernel_rfl) (by kernel_rfl) ?_
          intro T f_ F hne
          have RB := Lib.hid (fun g => B2.out.up (F.below g))
          have RT := Lib.hid (fun g => T2.out.up (F.below g))
          have RO := Lib.hid (fun g => O2.out.up (F.below g))
          have RL := fun g => L2.up (F.below g)
          have RL0 := fun g => (RL g).c0
          have RV := fun g => V2.up (F.below g)
          have RV0 := fun g => (RV g).c0
          have R_cx := fun g => cell_up (F.below g) cx
          have R_cF := fun g => cell_up (F.below g) cF
          have R_cC := fun g => cell_up (F.below g) cC
          have R_cA := fun g => cell_up (F.below g) cA
          have R_cN := fun g => cell_up (F.below g) cN
          have R_dF := fun g => cell_up (F.below g) dF
          have R_dC := fun g => cell_up (F.below g) dC
          have R_dA := fun g => cell_up (F.below g) dA
          have R_dN := fun g => cell_up (F.below g) dN
          repeat (go_big_quiet_step (fail))
          refine wpQuiet_nil ?_
          rintro _ ⟨gT, rfl⟩
          have B3 := Lib.hid (RB.out gT)
          have T3 := Lib.hid (RT.out gT)
          have O3 := Lib.hid (RO.out gT)
          have L3 := RL gT
          have V3 := RV gT
          have n_cx := R_cx gT
          have n_cF := R_cF gT
          have n_cC := R_cC gT
          have n_cA := R_cA gT
          have n_cN := R_cN gT
          have n_dF := R_dF gT
          have n_dC := R_dC gT
          have n_dA := R_dA gT
          have n_dN := R_dN gT
          clear F RB hne RT RO RL RL0 RV RV0 B2 T2 O2 L2 V2 R_cx cx R_cF cF R_cC cC R_cA cA R_cN cN R_dF dF R_dC dC R_dA dA R_dN dN
          generalize f_ gT = w3 at *
          clear f_
          have cx := n_cx
          clear n_cx
          have cF := n_cF
          clear n_cF
          have cC := n_cC
          clear n_cC
          have cA := n_cA
          clear n_cA
          have cN := n_cN
          clear n_cN
          have dF := n_dF
          clear n_dF
          have dC := n_dC
          clear n_dC
          have dA := n_dA
          clear n_dA
          have dN := n_dN
          clear n_dN
          obtain ⟨lf0, lf1, lf2⟩ := id L3
          obtain ⟨vf0, vf1, vf2⟩ := id V3
          have hbz3 := (B3.out.big)
          have HW := Lib.hid (HBEL.out _ B3.out).size
          have hsz : base ≤ w3.heap.size := B3.out.big
          go_wp2_with (first | (at_builtin; refine wpList_append_own _ rfl _ _ 40 rfl base 3 i0 (.int .i64 0) 1 8 Try.underlying40 hinf hz0 hz1 hz2 rfl (by decide) _ _ _ rfl (World.ownsRow.alloc O3.out _) ⟨w3.heap.size, 0, none⟩ 1 1 [.int .i64 (i : Int)] rfl rfl (cell1_new _ _ _ _ rfl) (by simp [Value.oneCell']) (by unfold maxLen; omega) (by omega) (by simp; omega) ?_; intro v' w9 hown' hgrow _; obtain ⟨ao9, cp9, rfl⟩ := own_shape hown'; have V9 := push_var hlt V3 O3.out hgrow; obtain ⟨v9a, v9b, v9c⟩ := id V9))
          go_ret2
          exact ⟨by rw [hou.out, HR.out]; rfl, ((B3.out.up ((Below.refl _ _).alloc (Nat.le_refl _) _)).grown hgrow (fun k hk => (World.ownsRow.lt O3.out k hk).1)).set _, by rw [hO.out]; exact St.push hlt hsz V3 (by rw [List.length_take]; omega) O3.out hgrow hown'⟩
end Go.Proofs.Ytidggmfgbcmklaa
