/- Clefs: the reference's At; law ClefInverts. -/
import Derived.Test.YtmdnlnjapkcanaaDoorCj
namespace Go.Proofs.YtmdnlnjapkcanaaDoor
open Go.RowKit
set_option linter.unusedVariables false
set_option linter.unusedSimpArgs false

theorem dia_eq {c s o p : Int} (s0 : 0 ≤ s) (s1 : s ≤ 6) (h : diaP s o - midI c = p) : s = (p + midI c) % 7 ∧ o = (p + midI c) / 7 := by
  unfold diaP at h
  omega
theorem dia_ne {c p : Int} : diaP ((p + midI c) % 7) ((p + midI c) / 7) - midI c = p := by
  unfold diaP
  omega
/-- what the loops of the reference's At keep -/
structure RA (w wr : World) : Prop where
  bel : Bel w wr
  r : Tri wr w.heap.size (.int .i64 0) (.int .i64 0) (.int .i64 0)
theorem RA.up {w wr w' : World} (h : RA w wr) (hb : Below wr.heap.size wr w') : RA w w' := ⟨h.bel.up hb, h.r.up hb⟩
theorem RA.alloc {w wr : World} (h : RA w wr) (o : Obj) : RA w (wr.alloc o) := ⟨h.bel.alloc o, h.r.alloc o⟩
set_option maxRecDepth 100000 in
set_option maxHeartbeats 4000000 in
theorem rat_yes (c p : Int) (w : World) (h : Cl c) (hp : Pit ((p + midI c) % 7) 0 ((p + midI c) / 7)) :
    Calls Tryd.prog 20 #[.int .i64 c, .int .i64 p] w fun e w' => e = .returned (.tuple #[.agg #[.int .i64 ((p + midI c) % 7), .int .i64 0, .int .i64 ((p + midI c) / 7)], .bool true]) ∧ Below w.heap.size w w' := by
  have HP := Lib.hid h
  have HE := Lib.hid (fun (s o : Int) (s0 : 0 ≤ s) (s1 : s ≤ 6) (h : diaP s o - midI c = p) => dia_eq (c := c) (p := p) s0 s1 h)
  have HN := Lib.hid (dia_ne (c := c) (p := p))
  have HQ := Lib.hid hp
  have HR := Lib.hid (fun (v : World) (s a o : Int) (s0 : 0 ≤ s) (s1 : s ≤ 6) (o0 : -1 ≤ o) (o1 : o ≤ 9) => rpos_ok c s a o v h s0 s1 o0 o1)
  obtain ⟨T, hT⟩ : ∃ T, (p + midI c) % 7 = T := ⟨_, rfl⟩
  obtain ⟨O, hO⟩ : ∃ O, (p + midI c) / 7 = O := ⟨_, rfl⟩
  rw [hT, hO] at HN HQ
  simp only [hT, hO] at HE
  have hT0 : 0 ≤ T ∧ T ≤ 6 := by omega
  obtain ⟨t0, t1⟩ := hT0
  have o0 := HQ.out.o0
  have o1 := HQ.out.o1
  rw [hT, hO]
  clear hT hO hp h
  have A0 := Lib.hid (show RA w (w.alloc (.cells #[.int .i64 0, .int .i64 0, .int .i64 0] 23)) from ⟨(Bel.refl w).alloc _, Tri.new w _ _ _ _ _ rfl⟩)
  go_enter Tryd.func20, Tryd.ntmps20
  go_wp2_with fail
  go_loopg [6] 11 (fun gm i wr => ∃ o : Int, -1 ≤ o ∧ o ≤ 10 ∧ o ≤ O ∧ gm = (10 - o).toNat ∧ i = .int .i64 o ∧ Hid (RA w wr))
  case atStart => exact ⟨-1, by omega, by omega, by omega, by omega, rfl, A0⟩
  case round =>
    obtain ⟨o, og, ol, oO, rfl, rfl, HA⟩ := hrel
    clear A0
    by_cases h9 : o ≤ 9
    · go_wp2_with fail
      go_loopg [7] 7 (fun gm i wr => ∃ s : Int, 0 ≤ s ∧ s ≤ 7 ∧ (o = O → s ≤ T) ∧ gm = (7 - s).toNat ∧ i = .int .i64 s ∧ Hid (RA w wr))
      case atStart => exact ⟨0, by omega, by omega, fun _ => by omega, by omega, rfl, HA⟩
      case round =>
        obtain ⟨s, sg, sl, sT, rfl, rfl, HB⟩ := hrel
        clear HA
        by_cases h6 : s ≤ 6
        · have e6 : s < 7 := by omega
          have A1 := Lib.hid (HB.out.alloc (.cells #[.int .i64 s, .int .i64 0, .int .i64 o] 23))
          have X1 := Tri.new wr (.int .i64 s) (.int .i64 0) (.int .i64 o) 23 wr.heap.size rfl
          clear HB
          obtain ⟨x0, x1, x2, x3, x4, x5, x6⟩ := id X1
          go_wp2_with fail
          clear x0 x1 x2 x3 x4 x5 x6
          refine (HR.out _ s 0 o sg (by omega) og h9).mono ?_
          rintro e w1 ⟨rfl, hb⟩
          have A2 := Lib.hid (A1.out.up hb)
          have X2 := X1.up hb
          clear hb A1 X1
          by_cases he : diaP s o - midI c = p
          · have hd : (diaP s o - midI c == p) = true := by simpa using he
            have EQ := Lib.hid (HE.out s o sg (by omega) he)
            have hPit := Lib.hid (show Pit s 0 o by rw [EQ.out.1, EQ.out.2]; exact HQ.out)
            obtain ⟨x0, x1, x2, x3, x4, x5, x6⟩ := id X2
            generalize diaP s o - midI c = D at hd he ⊢
            go_wp2_with fail
            clear x0 x1 x2 x3 x4 x5 x6
            refine (exists_yes s 0 o _ hPit.out).mono ?_
            rintro e w2 ⟨rfl, hb⟩
            have A3 := Lib.hid (A2.out.up hb)
            have X3 := X2.up hb
            clear hb A2 X2
            obtain ⟨x0, x1, x2, x3, x4, x5, x6⟩ := id X3
            obtain ⟨r0, r1, r2, r3, r4, r5, r6⟩ := id A3.out.r
            go_wp2_with fail
            have Tf := A3.out.r.store (u := .int .i64 s) (v := .int .i64 0) (t := .int .i64 o)
            exact bodyPost_ret (v := .tuple #[.agg #[.int .i64 s, .int .i64 0, .int .i64 o], .bool true]) (by simp [results, Tryd.results20, go_sem, Tf.c0, Tf.c1, Tf.c2]) rfl ⟨by rw [EQ.out.1, EQ.out.2], ((A3.out.bel.set (Nat.le_refl _) _ _).set (Nat.le_refl _) _ _).set (Nat.le_refl _) _ _⟩
          · have hd : (diaP s o - midI c == p) = false := by simpa using he
            have hn : o = O → s + 1 ≤ T := by
              intro e1
              have := sT e1
              by_cases e2 : s = T
              · exact absurd (by rw [e1, e2]; exact HN.out) he
              · omega
            generalize diaP s o - midI c = D at hd he ⊢
            go_wp2_with fail
            go_roundg (7 - (s + 1)).toNat
            case measure => omega
            case rel => exact ⟨s + 1, by omega, by omega, hn, by omega, by go_num, Lib.hid A2.out⟩
        · obtain rfl : s = 7 := by omega
          go_wp2_with fail
          go_roundg (10 - (o + 1)).toNat
          case measure => omega
          case rel => exact ⟨o + 1, by omega, by omega, by omega, by omega, by go_num, HB⟩
    · obtain rfl : o = 10 := by omega
      omega
set_option maxRecDepth 100000 in
set_option maxHeartbeats 4000000 in
theorem rat_no (c p : Int) (w : World) (h : Cl c) (hp : ¬ Pit ((p + midI c) % 7) 0 ((p + midI c) / 7)) :
    Calls Tryd.prog 20 #[.int .i64 c, .int .i64 p] w fun e w' => e = .returned (.tuple #[.agg #[.int .i64 0, .int .i64 0, .int .i64 0], .bool false]) ∧ Below w.heap.size w w' := by
  have HP := Lib.hid h
  have HE := Lib.hid (fun (s o : Int) (s0 : 0 ≤ s) (s1 : s ≤ 6) (h : diaP s o - midI c = p) => dia_eq (c := c) (p := p) s0 s1 h)
  have HN := Lib.hid (dia_ne (c := c) (p := p))
  have HQ := Lib.hid hp
  have HR := Lib.hid (fun (v : World) (s a o : Int) (s0 : 0 ≤ s) (s1 : s ≤ 6) (o0 : -1 ≤ o) (o1 : o ≤ 9) => rpos_ok c s a o v h s0 s1 o0 o1)
  obtain ⟨T, hT⟩ : ∃ T, (p + midI c) % 7 = T := ⟨_, rfl⟩
  obtain ⟨O, hO⟩ : ∃ O, (p + midI c) / 7 = O := ⟨_, rfl⟩
  rw [hT, hO] at HN HQ
  simp only [hT, hO] at HE
  have hT0 : 0 ≤ T ∧ T ≤ 6 := by omega
  obtain ⟨t0, t1⟩ := hT0
  clear hT hO hp h
  have A0 := Lib.hid (show RA w (w.alloc (.cells #[.int .i64 0, .int .i64 0, .int .i64 0] 23)) from ⟨(Bel.refl w).alloc _, Tri.new w _ _ _ _ _ rfl⟩)
  go_enter Tryd.func20, Tryd.ntmps20
  go_wp2_with fail
  go_loopg [6] 11 (fun gm i wr => ∃ o : Int, -1 ≤ o ∧ o ≤ 10 ∧ gm = (10 - o).toNat ∧ i = .int .i64 o ∧ Hid (RA w wr))
  case atStart => exact ⟨-1, by omega, by omega, by omega, rfl, A0⟩
  case round =>
    obtain ⟨o, og, ol, rfl, rfl, HA⟩ := hrel
    clear A0
    by_cases h9 : o ≤ 9
    · go_wp2_with fail
      go_loopg [7] 7 (fun gm i wr => ∃ s : Int, 0 ≤ s ∧ s ≤ 7 ∧ gm = (7 - s).toNat ∧ i = .int .i64 s ∧ Hid (RA w wr))
      case atStart => exact ⟨0, by omega, by omega, by omega, rfl, HA⟩
      case round =>
        obtain ⟨s, sg, sl, rfl, rfl, HB⟩ := hrel
        clear HA
        by_cases h6 : s ≤ 6
        · have e6 : s < 7 := by omega
          have A1 := Lib.hid (HB.out.alloc (.cells #[.int .i64 s, .int .i64 0, .int .i64 o] 23))
          have X1 := Tri.new wr (.int .i64 s) (.int .i64 0) (.int .i64 o) 23 wr.heap.size rfl
          clear HB
          obtain ⟨x0, x1, x2, x3, x4, x5, x6⟩ := id X1
          go_wp2_with fail
          clear x0 x1 x2 x3 x4 x5 x6
          refine (HR.out _ s 0 o sg (by omega) og h9).mono ?_
          rintro e w1 ⟨rfl, hb⟩
          have A2 := Lib.hid (A1.out.up hb)
          have X2 := X1.up hb
          clear hb A1 X1
          by_cases he : diaP s o - midI c = p
          · have hd : (diaP s o - midI c == p) = true := by simpa using he
            have EQ := Lib.hid (HE.out s o sg (by omega) he)
            have hPit := Lib.hid (show ¬ Pit s 0 o by rw [EQ.out.1, EQ.out.2]; exact HQ.out)
            obtain ⟨x0, x1, x2, x3, x4, x5, x6⟩ := id X2
            generalize diaP s o - midI c = D at hd he ⊢
            go_wp2_with fail
            clear x0 x1 x2 x3 x4 x5 x6
            refine (exists_no s 0 o _ hPit.out).mono ?_
            rintro e w2 ⟨rfl, hb⟩
            have A3 := Lib.hid (A2.out.up hb)
            have X3 := X2.up hb
            clear hb A2 X2
            obtain ⟨x0, x1, x2, x3, x4, x5, x6⟩ := id X3
            obtain ⟨r0, r1, r2, r3, r4, r5, r6⟩ := id A3.out.r
            go_wp2_with fail
            go_roundg (7 - (s + 1)).toNat
            case measure => omega
            case rel => exact ⟨s + 1, by omega, by omega, by omega, by go_num, Lib.hid A3.out⟩
          · have hd : (diaP s o - midI c == p) = false := by simpa using he
            have hn : True := by
              trivial
            generalize diaP s o - midI c = D at hd he ⊢
            go_wp2_with fail
            go_roundg (7 - (s + 1)).toNat
            case measure => omega
            case rel => exact ⟨s + 1, by omega, by omega, by omega, by go_num, Lib.hid A2.out⟩
        · obtain rfl : s = 7 := by omega
          go_wp2_with fail
          go_roundg (10 - (o + 1)).toNat
          case measure => omega
          case rel => exact ⟨o + 1, by omega, by omega, by omega, by go_num, HB⟩
    · obtain rfl : o = 10 := by omega
      obtain ⟨x0, x1, x2, x3, x4, x5, x6⟩ := id HA.out.r
      go_wp2_with fail
      have Tf := HA.out.r.store (u := .int .i64 0) (v := .int .i64 0) (t := .int .i64 0)
      exact bodyPost_ret (v := .tuple #[.agg #[.int .i64 0, .int .i64 0, .int .i64 0], .bool false]) (by simp [results, Tryd.results20, go_sem, Tf.c0, Tf.c1, Tf.c2]) rfl ⟨rfl, ((HA.out.bel.set (Nat.le_refl _) _ _).set (Nat.le_refl _) _ _).set (Nat.le_refl _) _ _⟩
set_option maxRecDepth 100000 in
set_option maxHeartbeats 2000000 in
theorem invLaw1 (c p : Int) (w : World) (h : ¬ Cl c) (hc : CW w) :
    Calls Tryd.prog 4 #[.int .i64 c, .int .i64 p] w fun e w' => e = .returned (.bool true) ∧ Below w.heap.size w w' := by
  have HP := Lib.hid h
  have B0 := Lib.hid (Bel.refl w)
  have C0 := Lib.hid hc
  go_enter Tryd.func4, Tryd.ntmps4
  go_wp2_with fail
  refine (known_ok _ C0.out).mono ?_
  rintro e w1 ⟨rfl, hb⟩
  have B1 := Lib.hid (B0.out.up hb)
  have C1 := Lib.hid (C0.out.below hb)
  clear hb B0 C0 
  go_wp2_with fail
  refine (at_b1 c p _ HP.out C1.out).mono ?_
  rintro e w2 ⟨rfl, hb⟩
  have B2 := Lib.hid ((B1.out.up hb).alloc (.cells #[.int .i64 0, .int .i64 0, .int .i64 0] 23))
  have C2 := Lib.hid ((C1.out.below hb).below ((Below.refl _ _).alloc (Nat.le_refl _) (.cells #[.int .i64 0, .int .i64 0, .int .i64 0] 23)))
  have P2 := Tri.new w2 (.int .i64 0) (.int .i64 0) (.int .i64 0) 23 (w2.heap.size) (by simp)
  clear hb B1 C1 
  obtain ⟨pf0, pf1, pf2, pf3, pf4, pf5, pf6⟩ := id P2
  go_wp2_with fail
  clear pf0 pf1 pf2 pf3 pf4 pf5 pf6
  refine (valid_bad c _ HP.out).mono ?_
  rintro e w3 ⟨rfl, hb⟩
  have B3 := Lib.hid (B2.out.up hb)
  have C3 := Lib.hid (C2.out.below hb)
  have P3 := P2.up hb
  clear hb B2 C2 P2
  obtain ⟨pf0, pf1, pf2, pf3, pf4, pf5, pf6⟩ := id P3
  go_wp2_with fail
  go_ret
  exact ⟨rfl, B3.out.out⟩
set_option maxRecDepth 100000 in
set_option maxHeartbeats 2000000 in
theorem invLaw2 (c p : Int) (w : World) (h : Cl c) (k : p < -200 ∨ 200 < p) (hp : ¬ Pit ((p + midI c) % 7) 0 ((p + midI c) / 7)) (hc : CW w) :
    Calls Tryd.prog 4 #[.int .i64 c, .int .i64 p] w fun e w' => e = .returned (.bool true) ∧ Below w.heap.size w w' := by
  have HP := Lib.hid h
  have HQ := Lib.hid hp
  have HK := Lib.hid k
  have B0 := Lib.hid (Bel.refl w)
  have C0 := Lib.hid hc
  go_enter Tryd.func4, Tryd.ntmps4
  go_wp2_with fail
  refine (known_ok _ C0.out).mono ?_
  rintro e w1 ⟨rfl, hb⟩
  have B1 := Lib.hid (B0.out.up hb)
  have C1 := Lib.hid (C0.out.below hb)
  clear hb B0 C0 
  go_wp2_with fail
  refine (at_b2 c p _ HP.out HK.out C1.out).mono ?_
  rintro e w2 ⟨rfl, hb⟩
  have B2 := Lib.hid ((B1.out.up hb).alloc (.cells #[.int .i64 0, .int .i64 0, .int .i64 0] 23))
  have C2 := Lib.hid ((C1.out.below hb).below ((Below.refl _ _).alloc (Nat.le_refl _) (.cells #[.int .i64 0, .int .i64 0, .int .i64 0] 23)))
  have P2 := Tri.new w2 (.int .i64 0) (.int .i64 0) (.int .i64 0) 23 (w2.heap.size) (by simp)
  clear hb B1 C1 
  obtain ⟨pf0, pf1, pf2, pf3, pf4, pf5, pf6⟩ := id P2
  go_wp2_with fail
  clear pf0 pf1 pf2 pf3 pf4 pf5 pf6
  refine (valid_ok c _ HP.out).mono ?_
  rintro e w3 ⟨rfl, hb⟩
  have B3 := Lib.hid (B2.out.up hb)
  have C3 := Lib.hid (C2.out.below hb)
  have P3 := P2.up hb
  clear hb B2 C2 P2
  obtain ⟨pf0, pf1, pf2, pf3, pf4, pf5, pf6⟩ := id P3
  go_wp2_with fail
  clear pf0 pf1 pf2 pf3 pf4 pf5 pf6
  refine (rat_no c p _ HP.out HQ.out).mono ?_
  rintro e w4 ⟨rfl, hb⟩
  have B4 := Lib.hid ((B3.out.up hb).alloc (.cells #[.int .i64 0, .int .i64 0, .int .i64 0] 23))
  have C4 := Lib.hid ((C3.out.below hb).below ((Below.refl _ _).alloc (Nat.le_refl _) (.cells #[.int .i64 0, .int .i64 0, .int .i64 0] 23)))
  have P4 := (P3.up hb).alloc (.cells #[.int .i64 0, .int .i64 0, .int .i64 0] 23)
  have U4 := Tri.new w4 (.int .i64 0) (.int .i64 0) (.int .i64 0) 23 (w4.heap.size) (by simp)
  clear hb B3 C3 P3
  obtain ⟨pf0, pf1, pf2, pf3, pf4, pf5, pf6⟩ := id P4
  obtain ⟨uf0, uf1, uf2, uf3, uf4, uf5, uf6⟩ := id U4
  go_wp2_with fail
  go_ret
  exact ⟨rfl, B4.out.out⟩
set_option maxRecDepth 100000 in
set_option maxHeartbeats 2000000 in
theorem invLaw3 (c p : Int) (w : World) (h : Cl c) (k0 : -200 ≤ p) (k1 : p ≤ 200) (hp : ¬ Pit ((p + midI c) % 7) 0 ((p + midI c) / 7)) (hc : CW w) :
    Calls Tryd.prog 4 #[.int .i64 c, .int .i64 p] w fun e w' => e = .returned (.bool true) ∧ Below w.heap.size w w' := by
  have HP := Lib.hid h
  have HQ := Lib.hid hp
  have B0 := Lib.hid (Bel.refl w)
  have C0 := Lib.hid hc
  go_enter Tryd.func4, Tryd.ntmps4
  go_wp2_with fail
  refine (known_ok _ C0.out).mono ?_
  rintro e w1 ⟨rfl, hb⟩
  have B1 := Lib.hid (B0.out.up hb)
  have C1 := Lib.hid (C0.out.below hb)
  clear hb B0 C0 
  go_wp2_with fail
  refine (at_b3 c p _ HP.out k0 k1 HQ.out C1.out).mono ?_
  rintro e w2 ⟨rfl, hb⟩
  have B2 := Lib.hid ((B1.out.up hb).alloc (.cells #[.int .i64 0, .int .i64 0, .int .i64 0] 23))
  have C2 := Lib.hid ((C1.out.below hb).below ((Below.refl _ _).alloc (Nat.le_refl _) (.cells #[.int .i64 0, .int .i64 0, .int .i64 0] 23)))
  have P2 := Tri.new w2 (.int .i64 0) (.int .i64 0) (.int .i64 0) 23 (w2.heap.size) (by simp)
  clear hb B1 C1 
  obtain ⟨pf0, pf1, pf2, pf3, pf4, pf5, pf6⟩ := id P2
  go_wp2_with fail
  clear pf0 pf1 pf2 pf3 pf4 pf5 pf6
  refine (valid_ok c _ HP.out).mono ?_
  rintro e w3 ⟨rfl, hb⟩
  have B3 := Lib.hid (B2.out.up hb)
  have C3 := Lib.hid (C2.out.below hb)
  have P3 := P2.up hb
  clear hb B2 C2 P2
  obtain ⟨pf0, pf1, pf2, pf3, pf4, pf5, pf6⟩ := id P3
  go_wp2_with fail
  clear pf0 pf1 pf2 pf3 pf4 pf5 pf6
  refine (rat_no c p _ HP.out HQ.out).mono ?_
  rintro e w4 ⟨rfl, hb⟩
  have B4 := Lib.hid ((B3.out.up hb).alloc (.cells #[.int .i64 0, .int .i64 0, .int .i64 0] 23))
  have C4 := Lib.hid ((C3.out.below hb).below ((Below.refl _ _).alloc (Nat.le_refl _) (.cells #[.int .i64 0, .int .i64 0, .int .i64 0] 23)))
  have P4 := (P3.up hb).alloc (.cells #[.int .i64 0, .int .i64 0, .int .i64 0] 23)
  have U4 := Tri.new w4 (.int .i64 0) (.int .i64 0) (.int .i64 0) 23 (w4.heap.size) (by simp)
  clear hb B3 C3 P3
  obtain ⟨pf0, pf1, pf2, pf3, pf4, pf5, pf6⟩ := id P4
  obtain ⟨uf0, uf1, uf2, uf3, uf4, uf5, uf6⟩ := id U4
  go_wp2_with fail
  go_ret
  exact ⟨rfl, B4.out.out⟩
set_option maxRecDepth 100000 in
set_option maxHeartbeats 2000000 in
theorem invLaw4 (c p : Int) (w : World) (h : Cl c) (k0 : -200 ≤ p) (k1 : p ≤ 200) (hp : Pit ((p + midI c) % 7) 0 ((p + midI c) / 7)) (hc : CW w) :
    Calls Tryd.prog 4 #[.int .i64 c, .int .i64 p] w fun e w' => e = .returned (.bool true) ∧ Below w.heap.size w w' := by
  have HP := Lib.hid h
  have HQ := Lib.hid hp
  have KA := fun v hv => at_ok c p v h k0 k1 hp hv
  have KR := fun v => rat_yes c p v h hp
  have KP := fun v hv => pos_ok c ((p + midI c) % 7) 0 ((p + midI c) / 7) v h hp hv
  rw [dia_ne] at KP
  obtain ⟨T, hT⟩ : ∃ T, (p + midI c) % 7 = T := ⟨_, rfl⟩
  obtain ⟨O, hO⟩ : ∃ O, (p + midI c) / 7 = O := ⟨_, rfl⟩
  simp only [hT, hO] at KA KR KP
  clear hT hO
  replace KA := Lib.hid KA
  replace KR := Lib.hid KR
  replace KP := Lib.hid KP
  have B0 := Lib.hid (Bel.refl w)
  have C0 := Lib.hid hc
  go_enter Tryd.func4, Tryd.ntmps4
  go_wp2_with fail
  refine (known_ok _ C0.out).mono ?_
  rintro e w1 ⟨rfl, hb⟩
  have B1 := Lib.hid (B0.out.up hb)
  have C1 := Lib.hid (C0.out.below hb)
  clear hb B0 C0 
  go_wp2_with fail
  refine (KA.out _ C1.out).mono ?_
  rintro e w2 ⟨rfl, hb⟩
  have B2 := Lib.hid ((B1.out.up hb).alloc (.cells #[.int .i64 T, .int .i64 0, .int .i64 O] 23))
  have C2 := Lib.hid ((C1.out.below hb).below ((Below.refl _ _).alloc (Nat.le_refl _) (.cells #[.int .i64 T, .int .i64 0, .int .i64 O] 23)))
  have P2 := Tri.new w2 (.int .i64 T) (.int .i64 0) (.int .i64 O) 23 (w2.heap.size) (by simp)
  clear hb B1 C1 
  obtain ⟨pf0, pf1, pf2, pf3, pf4, pf5, pf6⟩ := id P2
  go_wp2_with fail
  clear pf0 pf1 pf2 pf3 pf4 pf5 pf6
  refine (valid_ok c _ HP.out).mono ?_
  rintro e w3 ⟨rfl, hb⟩
  have B3 := Lib.hid (B2.out.up hb)
  have C3 := Lib.hid (C2.out.below hb)
  have P3 := P2.up hb
  clear hb B2 C2 P2
  obtain ⟨pf0, pf1, pf2, pf3, pf4, pf5, pf6⟩ := id P3
  go_wp2_with fail
  clear pf0 pf1 pf2 pf3 pf4 pf5 pf6
  refine (KR.out _).mono ?_
  rintro e w4 ⟨rfl, hb⟩
  have B4 := Lib.hid ((B3.out.up hb).alloc (.cells #[.int .i64 T, .int .i64 0, .int .i64 O] 23))
  have C4 := Lib.hid ((C3.out.below hb).below ((Below.refl _ _).alloc (Nat.le_refl _) (.cells #[.int .i64 T, .int .i64 0, .int .i64 O] 23)))
  have P4 := (P3.up hb).alloc (.cells #[.int .i64 T, .int .i64 0, .int .i64 O] 23)
  have U4 := Tri.new w4 (.int .i64 T) (.int .i64 0) (.int .i64 O) 23 (w4.heap.size) (by simp)
  clear hb B3 C3 P3
  obtain ⟨pf0, pf1, pf2, pf3, pf4, pf5, pf6⟩ := id P4
  obtain ⟨uf0, uf1, uf2, uf3, uf4, uf5, uf6⟩ := id U4
  go_wp2_with fail
  clear pf0 pf1 pf2 pf3 pf4 pf5 pf6 uf0 uf1 uf2 uf3 uf4 uf5 uf6
  refine (KP.out _ C4.out).mono ?_
  rintro e w5 ⟨rfl, hb⟩
  have B5 := Lib.hid (B4.out.up hb)
  have C5 := Lib.hid (C4.out.below hb)
  have P5 := P4.up hb
  have U5 := U4.up hb
  clear hb B4 C4 P4 U4
  obtain ⟨pf0, pf1, pf2, pf3, pf4, pf5, pf6⟩ := id P5
  obtain ⟨uf0, uf1, uf2, uf3, uf4, uf5, uf6⟩ := id U5
  go_wp2_with fail
  go_ret
  exact ⟨rfl, B5.out.out⟩
theorem law_ClefInverts (c p : Int) (w : World) (p0 : -9223372036854775808 ≤ p) (p1 : p ≤ 9223372036854775807) (hc : CW w) : Calls Tryd.prog 4 #[.int .i64 c, .int .i64 p] w fun e w' => e = .returned (.bool true) ∧ Below w.heap.size w w' := by
  by_cases h : Cl c
  · by_cases k : p < -200 ∨ 200 < p
    · refine invLaw2 c p w h k (fun q => ?_) hc
      have := mid_bd c; have := q.o0; have := q.o1
      omega
    · by_cases hp : Pit ((p + midI c) % 7) 0 ((p + midI c) / 7)
      · exact invLaw4 c p w h (by omega) (by omega) hp hc
      · exact invLaw3 c p w h (by omega) (by omega) hp hc
  · exact invLaw1 c p w h hc
end Go.Proofs.YtmdnlnjapkcanaaDoor
