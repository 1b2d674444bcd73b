/- The reference's Parse. -/
import Derived.Test.YtolfgomlokpopaaDoorNa
import Derived.Test.YtolfgomlokpopaaDoorNb
namespace Go.Proofs.YtolfgomlokpopaaDoor
open Go.RowKit
set_option linter.unusedVariables false
set_option linter.unusedSimpArgs false

def letL : List UInt8 := [67, 68, 69, 70, 71, 65, 66]
/-- the step that the first loop has found behind k rounds -/
def stepTo (c : Int) : Nat → Int
  | 0 => -1
  | k + 1 => if c = ((letL.getD k 0).toNat : Int) then (k : Int) else stepTo c k
theorem stepTo_fin : ∀ c : Fin 256, stepTo ((UInt8.ofNat c.val).toNat : Int) 7 = Lib.indexByte [67, 68, 69, 70, 71, 65, 66] (UInt8.ofNat c.val) := by decide +kernel
theorem letAt_fin : ∀ c : Fin 256, 0 ≤ Lib.indexByte [67, 68, 69, 70, 71, 65, 66] (UInt8.ofNat c.val) → ([67, 68, 69, 70, 71, 65, 66] : List UInt8).getD (Lib.indexByte [67, 68, 69, 70, 71, 65, 66] (UInt8.ofNat c.val)).toNat 0 = UInt8.ofNat c.val := by decide +kernel
theorem u8_fin (c : UInt8) : ∃ x : Fin 256, UInt8.ofNat x.val = c := ⟨⟨c.toNat, by have := UInt8.toNat_lt c; omega⟩, by simp⟩
theorem stepTo_st (s : ByteArray) (h : 0 < s.size) : stepTo (s[0].toNat : Int) 7 = stB s := by
  unfold stB
  rw [head_get s h]
  obtain ⟨x, hx⟩ := u8_fin s[0]
  rw [← hx]
  exact stepTo_fin x
theorem name_back {s : ByteArray} (h : 0 < s.size) {i : Nat} (hi : i ≤ 6) (hs : stB s = i) {a o : Int} (a0 : -2 ≤ a) (hn : s.data.toList.drop 1 = signL a ++ Lib.itoa o) : nameB i (a + 2).toNat o = s := by
  refine ByteArray.ext (Array.toList_inj.1 ?_)
  rw [nameB_list hi]
  have hd : ([67, 68, 69, 70, 71, 65, 66] : List UInt8).getD i 0 = s.data.toList.headD 0 := by
    unfold stB at hs
    obtain ⟨x, hx⟩ := u8_fin (s.data.toList.headD 0)
    rw [← hx] at hs ⊢
    have := letAt_fin x (by rw [hs]; omega)
    rw [hs] at this
    simpa using this
  rw [hd]
  have hl : s.data.toList ≠ [] := fun e => by
    have h2 : s.size = 0 := (size_list s).trans (by rw [e]; rfl)
    omega
  cases hc : s.data.toList with
  | nil => exact absurd hc hl
  | cons c t =>
    rw [hc] at hn
    simp only [List.headD_cons, List.drop_succ_cons, List.drop_zero] at hn ⊢
    rw [hn]; rfl
/-- what the loops keep -/
structure PP (w wr : World) : Prop where
  bel : Bel w wr
  r : Tri wr w.heap.size (.int .i64 0) (.int .i64 0) (.int .i64 0)
theorem PP.up {w wr w' : World} (h : PP w wr) (hb : Below wr.heap.size wr w') : PP w w' := ⟨h.bel.up hb, h.r.up hb⟩
set_option maxRecDepth 100000 in
set_option maxHeartbeats 4000000 in
theorem refParse_any (s : ByteArray) (w : World) (hz : s.size ≤ 1000000) :
    Calls Tryd.prog 29 #[.string s] w (PrsPost s w) := by
  have B0 := Lib.hid ((Bel.refl w).alloc (.cells #[.int .i64 0, .int .i64 0, .int .i64 0] 23))
  have R0 := Tri.new w (.int .i64 0) (.int .i64 0) (.int .i64 0) 23 w.heap.size rfl
  by_cases hs : s.size = 0
  · have he := empty_yes hs
    have HZ := Lib.hid hs
    clear hs
    go_enter Tryd.func29, Tryd.ntmps29
    go_wp2_with fail
    have Tf := R0
    exact bodyPost_ret (v := .tuple #[.agg #[.int .i64 0, .int .i64 0, .int .i64 0], .int .i64 0, .int .i64 4]) (by simp [results, Tryd.results29, go_sem, Tf.c0, Tf.c1, Tf.c2]) rfl ⟨.inl ⟨HZ.out, rfl⟩, B0.out.out⟩
  · have h0 : 0 < s.size := by omega
    have he := empty_no h0
    clear hs
    have HS := Lib.hid (stepTo_st s h0)
    go_enter Tryd.func29, Tryd.ntmps29
    go_wp2_with fail
    go_loopg [5, 6] 7 (fun gm st i wr => ∃ k : Nat, k ≤ 7 ∧ gm = 7 - k ∧ i = .int .i64 (k : Int) ∧ st = .int .i64 (stepTo (s[0].toNat : Int) k) ∧ Hid (PP w wr))
    case atStart => exact ⟨0, by omega, by omega, rfl, rfl, Lib.hid ⟨B0.out, R0⟩⟩
    case round =>
      obtain ⟨k, hk, rfl, rfl, rfl, HW⟩ := hrel
      clear B0 R0
      by_cases hlt : k < 7
      · have hst : stepTo (s[0].toNat : Int) (k + 1) = if (s[0].toNat : Int) = ((letL.getD k 0).toNat : Int) then (k : Int) else stepTo (s[0].toNat : Int) k := rfl
        clear HS
        rcases (show k = 0 ∨ k = 1 ∨ k = 2 ∨ k = 3 ∨ k = 4 ∨ k = 5 ∨ k = 6 by omega) with rfl | rfl | rfl | rfl | rfl | rfl | rfl
        · by_cases hc : (s[0].toNat : Int) = 67
          · have e1 : stepTo (s[0].toNat : Int) (0 + 1) = 0 := by rw [hst, if_pos (by rw [hc]; rfl)]; rfl
            have E1 := Lib.hid e1
            have hm : (((s[0].toNat : Nat) : Int) == (((⟨#[67, 68, 69, 70, 71, 65, 66]⟩ : ByteArray)[0]'(by decide)).toNat : Int)) = true := by rw [hc]; rfl
            clear e1 hst
            go_wp2_with fail
            go_quiet (fail)
            go_wp2_with fail
            go_roundg 6
            case measure => omega
            case rel => exact ⟨0 + 1, by omega, rfl, by go_num, (by rw [E1.out]; first | done | rfl), Lib.hid (by first | exact HW.out | exact HW.out.up (below_drewN (Below.refl _ _) _) | exact HW.out.up (Below.drew (Below.refl _ _)))⟩
          · have e1 : stepTo (s[0].toNat : Int) (0 + 1) = stepTo (s[0].toNat : Int) 0 := by rw [hst, if_neg (by intro h; exact hc (h.trans rfl))]
            have E1 := Lib.hid e1
            have hm : (((s[0].toNat : Nat) : Int) == (((⟨#[67, 68, 69, 70, 71, 65, 66]⟩ : ByteArray)[0]'(by decide)).toNat : Int)) = false := by simp only [beq_eq_false_iff_ne, ne_eq]; exact hc
            clear e1 hst
            go_wp2_with fail
            go_quiet (fail)
            go_wp2_with fail
            go_roundg 6
            case measure => omega
            case rel => exact ⟨0 + 1, by omega, rfl, by go_num, (by rw [E1.out]; first | done | rfl), Lib.hid (by first | exact HW.out | exact HW.out.up (below_drewN (Below.refl _ _) _) | exact HW.out.up (Below.drew (Below.refl _ _)))⟩
        · by_cases hc : (s[0].toNat : Int) = 68
          · have e1 : stepTo (s[0].toNat : Int) (1 + 1) = 1 := by rw [hst, if_pos (by rw [hc]; rfl)]; rfl
            have E1 := Lib.hid e1
            have hm : (((s[0].toNat : Nat) : Int) == (((⟨#[67, 68, 69, 70, 71, 65, 66]⟩ : ByteArray)[1]'(by decide)).toNat : Int)) = true := by rw [hc]; rfl
            clear e1 hst
            go_wp2_with fail
            go_quiet (fail)
            go_wp2_with fail
            go_roundg 5
            case measure => omega
            case rel => exact ⟨1 + 1, by omega, rfl, by go_num, (by rw [E1.out]; first | done | rfl), Lib.hid (by first | exact HW.out | exact HW.out.up (below_drewN (Below.refl _ _) _) | exact HW.out.up (Below.drew (Below.refl _ _)))⟩
          · have e1 : stepTo (s[0].toNat : Int) (1 + 1) = stepTo (s[0].toNat : Int) 1 := by rw [hst, if_neg (by intro h; exact hc (h.trans rfl))]
            have E1 := Lib.hid e1
            have hm : (((s[0].toNat : Nat) : Int) == (((⟨#[67, 68, 69, 70, 71, 65, 66]⟩ : ByteArray)[1]'(by decide)).toNat : Int)) = false := by simp only [beq_eq_false_iff_ne, ne_eq]; exact hc
            clear e1 hst
            go_wp2_with fail
            go_quiet (fail)
            go_wp2_with fail
            go_roundg 5
            case measure => omega
            case rel => exact ⟨1 + 1, by omega, rfl, by go_num, (by rw [E1.out]; first | done | rfl), Lib.hid (by first | exact HW.out | exact HW.out.up (below_drewN (Below.refl _ _) _) | exact HW.out.up (Below.drew (Below.refl _ _)))⟩
        · by_cases hc : (s[0].toNat : Int) = 69
          · have e1 : stepTo (s[0].toNat : Int) (2 + 1) = 2 := by rw [hst, if_pos (by rw [hc]; rfl)]; rfl
            have E1 := Lib.hid e1
            have hm : (((s[0].toNat : Nat) : Int) == (((⟨#[67, 68, 69, 70, 71, 65, 66]⟩ : ByteArray)[2]'(by decide)).toNat : Int)) = true := by rw [hc]; rfl
            clear e1 hst
            go_wp2_with fail
            go_quiet (fail)
            go_wp2_with fail
            go_roundg 4
            case measure => omega
            case rel => exact ⟨2 + 1, by omega, rfl, by go_num, (by rw [E1.out]; first | done | rfl), Lib.hid (by first | exact HW.out | exact HW.out.up (below_drewN (Below.refl _ _) _) | exact HW.out.up (Below.drew (Below.refl _ _)))⟩
          · have e1 : stepTo (s[0].toNat : Int) (2 + 1) = stepTo (s[0].toNat : Int) 2 := by rw [hst, if_neg (by intro h; exact hc (h.trans rfl))]
            have E1 := Lib.hid e1
            have hm : (((s[0].toNat : Nat) : Int) == (((⟨#[67, 68, 69, 70, 71, 65, 66]⟩ : ByteArray)[2]'(by decide)).toNat : Int)) = false := by simp only [beq_eq_false_iff_ne, ne_eq]; exact hc
            clear e1 hst
            go_wp2_with fail
            go_quiet (fail)
            go_wp2_with fail
            go_roundg 4
            case measure => omega
            case rel => exact ⟨2 + 1, by omega, rfl, by go_num, (by rw [E1.out]; first | done | rfl), Lib.hid (by first | exact HW.out | exact HW.out.up (below_drewN (Below.refl _ _) _) | exact HW.out.up (Below.drew (Below.refl _ _)))⟩
        · by_cases hc : (s[0].toNat : Int) = 70
          · have e1 : stepTo (s[0].toNat : Int) (3 + 1) = 3 := by rw [hst, if_pos (by rw [hc]; rfl)]; rfl
            have E1 := Lib.hid e1
            have hm : (((s[0].toNat : Nat) : Int) == (((⟨#[67, 68, 69, 70, 71, 65, 66]⟩ : ByteArray)[3]'(by decide)).toNat : Int)) = true := by rw [hc]; rfl
            clear e1 hst
            go_wp2_with fail
            go_quiet (fail)
            go_wp2_with fail
            go_roundg 3
            case measure => omega
            case rel => exact ⟨3 + 1, by omega, rfl, by go_num, (by rw [E1.out]; first | done | rfl), Lib.hid (by first | exact HW.out | exact HW.out.up (below_drewN (Below.refl _ _) _) | exact HW.out.up (Below.drew (Below.refl _ _)))⟩
          · have e1 : stepTo (s[0].toNat : Int) (3 + 1) = stepTo (s[0].toNat : Int) 3 := by rw [hst, if_neg (by intro h; exact hc (h.trans rfl))]
            have E1 := Lib.hid e1
            have hm : (((s[0].toNat : Nat) : Int) == (((⟨#[67, 68, 69, 70, 71, 65, 66]⟩ : ByteArray)[3]'(by decide)).toNat : Int)) = false := by simp only [beq_eq_false_iff_ne, ne_eq]; exact hc
            clear e1 hst
            go_wp2_with fail
            go_quiet (fail)
            go_wp2_with fail
            go_roundg 3
            case measure => omega
            case rel => exact ⟨3 + 1, by omega, rfl, by go_num, (by rw [E1.out]; first | done | rfl), Lib.hid (by first | exact HW.out | exact HW.out.up (below_drewN (Below.refl _ _) _) | exact HW.out.up (Below.drew (Below.refl _ _)))⟩
        · by_cases hc : (s[0].toNat : Int) = 71
          · have e1 : stepTo (s[0].toNat : Int) (4 + 1) = 4 := by rw [hst, if_pos (by rw [hc]; rfl)]; rfl
            have E1 := Lib.hid e1
            have hm : (((s[0].toNat : Nat) : Int) == (((⟨#[67, 68, 69, 70, 71, 65, 66]⟩ : ByteArray)[4]'(by decide)).toNat : Int)) = true := by rw [hc]; rfl
            clear e1 hst
            go_wp2_with fail
            go_quiet (fail)
            go_wp2_with fail
            go_roundg 2
            case measure => omega
            case rel => exact ⟨4 + 1, by omega, rfl, by go_num, (by rw [E1.out]; first | done | rfl), Lib.hid (by first | exact HW.out | exact HW.out.up (below_drewN (Below.refl _ _) _) | exact HW.out.up (Below.drew (Below.refl _ _)))⟩
          · have e1 : stepTo (s[0].toNat : Int) (4 + 1) = stepTo (s[0].toNat : Int) 4 := by rw [hst, if_neg (by intro h; exact hc (h.trans rfl))]
            have E1 := Lib.hid e1
            have hm : (((s[0].toNat : Nat) : Int) == (((⟨#[67, 68, 69, 70, 71, 65, 66]⟩ : ByteArray)[4]'(by decide)).toNat : Int)) = false := by simp only [beq_eq_false_iff_ne, ne_eq]; exact hc
            clear e1 hst
            go_wp2_with fail
            go_quiet (fail)
            go_wp2_with fail
            go_roundg 2
            case measure => omega
            case rel => exact ⟨4 + 1, by omega, rfl, by go_num, (by rw [E1.out]; first | done | rfl), Lib.hid (by first | exact HW.out | exact HW.out.up (below_drewN (Below.refl _ _) _) | exact HW.out.up (Below.drew (Below.refl _ _)))⟩
        · by_cases hc : (s[0].toNat : Int) = 65
          · have e1 : stepTo (s[0].toNat : Int) (5 + 1) = 5 := by rw [hst, if_pos (by rw [hc]; rfl)]; rfl
            have E1 := Lib.hid e1
            have hm : (((s[0].toNat : Nat) : Int) == (((⟨#[67, 68, 69, 70, 71, 65, 66]⟩ : ByteArray)[5]'(by decide)).toNat : Int)) = true := by rw [hc]; rfl
            clear e1 hst
            go_wp2_with fail
            go_quiet (fail)
            go_wp2_with fail
            go_roundg 1
            case measure => omega
            case rel => exact ⟨5 + 1, by omega, rfl, by go_num, (by rw [E1.out]; first | done | rfl), Lib.hid (by first | exact HW.out | exact HW.out.up (below_drewN (Below.refl _ _) _) | exact HW.out.up (Below.drew (Below.refl _ _)))⟩
          · have e1 : stepTo (s[0].toNat : Int) (5 + 1) = stepTo (s[0].toNat : Int) 5 := by rw [hst, if_neg (by intro h; exact hc (h.trans rfl))]
            have E1 := Lib.hid e1
            have hm : (((s[0].toNat : Nat) : Int) == (((⟨#[67, 68, 69, 70, 71, 65, 66]⟩ : ByteArray)[5]'(by decide)).toNat : Int)) = false := by simp only [beq_eq_false_iff_ne, ne_eq]; exact hc
            clear e1 hst
            go_wp2_with fail
            go_quiet (fail)
            go_wp2_with fail
            go_roundg 1
            case measure => omega
            case rel => exact ⟨5 + 1, by omega, rfl, by go_num, (by rw [E1.out]; first | done | rfl), Lib.hid (by first | exact HW.out | exact HW.out.up (below_drewN (Below.refl _ _) _) | exact HW.out.up (Below.drew (Below.refl _ _)))⟩
        · by_cases hc : (s[0].toNat : Int) = 66
          · have e1 : stepTo (s[0].toNat : Int) (6 + 1) = 6 := by rw [hst, if_pos (by rw [hc]; rfl)]; rfl
            have E1 := Lib.hid e1
            have hm : (((s[0].toNat : Nat) : Int) == (((⟨#[67, 68, 69, 70, 71, 65, 66]⟩ : ByteArray)[6]'(by decide)).toNat : Int)) = true := by rw [hc]; rfl
            clear e1 hst
            go_wp2_with fail
            go_quiet (fail)
            go_wp2_with fail
            go_roundg 0
            case measure => omega
            case rel => exact ⟨6 + 1, by omega, rfl, by go_num, (by rw [E1.out]; first | done | rfl), Lib.hid (by first | exact HW.out | exact HW.out.up (below_drewN (Below.refl _ _) _) | exact HW.out.up (Below.drew (Below.refl _ _)))⟩
          · have e1 : stepTo (s[0].toNat : Int) (6 + 1) = stepTo (s[0].toNat : Int) 6 := by rw [hst, if_neg (by intro h; exact hc (h.trans rfl))]
            have E1 := Lib.hid e1
            have hm : (((s[0].toNat : Nat) : Int) == (((⟨#[67, 68, 69, 70, 71, 65, 66]⟩ : ByteArray)[6]'(by decide)).toNat : Int)) = false := by simp only [beq_eq_false_iff_ne, ne_eq]; exact hc
            clear e1 hst
            go_wp2_with fail
            go_quiet (fail)
            go_wp2_with fail
            go_roundg 0
            case measure => omega
            case rel => exact ⟨6 + 1, by omega, rfl, by go_num, (by rw [E1.out]; first | done | rfl), Lib.hid (by first | exact HW.out | exact HW.out.up (below_drewN (Below.refl _ _) _) | exact HW.out.up (Below.drew (Below.refl _ _)))⟩
      · obtain rfl : k = 7 := by omega
        rw [HS.out]
        obtain ⟨r0, r1, r2, r3, r4, r5, r6⟩ := id HW.out.r
        have b1 := indexB_bd (s.data.toList.headD 0)
        rcases Int.lt_or_le (stB s) 0 with hb0 | hb0
        · have HB0 := Lib.hid hb0
          go_wp2_with fail
          have Tf := HW.out.r.store (u := .int .i64 0) (v := .int .i64 0) (t := .int .i64 0)
          exact bodyPost_ret (v := .tuple #[.agg #[.int .i64 0, .int .i64 0, .int .i64 0], .int .i64 0, .int .i64 6]) (by simp [results, Tryd.results29, go_sem, Tf.c0, Tf.c1, Tf.c2]) rfl ⟨.inr (.inl ⟨h0, HB0.out, rfl⟩), ((HW.out.bel.set (Nat.le_refl _) _ _).set (Nat.le_refl _) _ _).set (Nat.le_refl _) _ _⟩
        · obtain ⟨i, hi⟩ : ∃ i : Nat, stB s = (i : Int) := ⟨(stB s).toNat, by omega⟩
          have hi6 : i ≤ 6 := by have h1 := b1.2; unfold stB at hi; omega
          have HI := Lib.hid hi
          clear b1 HS r0 r1 r2 r3 r4 r5 r6
          rw [hi]
          clear hi hb0
          go_wp2_with fail
          go_loopg [7] 5 (fun gm a wr => ∃ x : Int, -2 ≤ x ∧ x ≤ 3 ∧ gm = (3 - x).toNat ∧ a = .int .i64 x ∧ Hid (∀ b u : Int, -2 ≤ b → b < x → -1 ≤ u → u ≤ 9 → nameB i (b + 2).toNat u ≠ s) ∧ Hid (PP w wr))
          case atStart => exact ⟨-2, by omega, by omega, rfl, rfl, Lib.hid (fun b u h0 h1 => absurd h1 (by omega)), HW⟩
          case round =>
            obtain ⟨x, x0, x1, rfl, rfl, HN, HW2⟩ := hrel
            clear HW
            by_cases hx : x ≤ 2
            · go_wp2_with fail
              try rw [show decide (x ≤ 2) = true from by simpa using hx]
              go_loopg [8] 11 (fun gm o wr => ∃ y : Int, -1 ≤ y ∧ y ≤ 10 ∧ gm = (10 - y).toNat ∧ o = .int .i64 y ∧ Hid (∀ u : Int, -1 ≤ u → u < y → nameB i (x + 2).toNat u ≠ s) ∧ Hid (PP w wr))
              case atStart => exact ⟨-1, by omega, by omega, rfl, rfl, Lib.hid (fun u h0 h1 => absurd h1 (by omega)), HW2⟩
              case round =>
                obtain ⟨y, y0, y1, rfl, rfl, HM, HW3⟩ := hrel
                clear HW2
                by_cases hy : y ≤ 9
                · have HA := Lib.hid (HW3.out.up ((Below.refl _ _).alloc (Nat.le_refl _) (.cells #[.int .i64 (i : Int), .int .i64 x, .int .i64 y] 23)))
                  have X1 := Tri.new wr (.int .i64 (i : Int)) (.int .i64 x) (.int .i64 y) 23 wr.heap.size rfl
                  go_wp2_with fail
                  refine (refName_ok i x y _ hi6 x0 hx y0 hy).mono ?_
                  rintro e w2 ⟨rfl, hb⟩
                  have H2 := Lib.hid (HA.out.up hb)
                  have X2 := X1.up hb
                  clear hb HA X1 HW3
                  obtain ⟨f0, f1, f2, f3, f4, f5, f6⟩ := id X2
                  obtain ⟨NM, hNM⟩ : ∃ NM, nameB i (x + 2).toNat y = NM := ⟨_, rfl⟩
                  have HNM := Lib.hid hNM
                  rw [hNM]
                  clear hNM
                  by_cases hm : NM = s
                  · have hm' := beq_yes hm
                    have HS := Lib.hid hm
                    clear hm
                    by_cases hp : Pit (i : Int) x y
                    · have HP := Lib.hid hp
                      clear hp
                      go_wp2_with fail
                      refine (exists_yes _ _ _ _ HP.out).mono ?_
                      rintro e w3 ⟨rfl, hb⟩
                      have H3 := Lib.hid (H2.out.up hb)
                      have X3 := X2.up hb
                      clear hb H2 X2 f0 f1 f2 f3 f4 f5 f6
                      obtain ⟨f0, f1, f2, f3, f4, f5, f6⟩ := id X3
                      obtain ⟨r0, r1, r2, r3, r4, r5, r6⟩ := id H3.out.r
                      go_wp2_with fail
                      have Tf := H3.out.r.store (u := .int .i64 (i : Int)) (v := .int .i64 x) (t := .int .i64 y)
                      exact bodyPost_ret (v := .tuple #[.agg #[.int .i64 (i : Int), .int .i64 x, .int .i64 y], .int .i64 0, .int .i64 0]) (by simp [results, Tryd.results29, go_sem, Tf.c0, Tf.c1, Tf.c2]) rfl ⟨.inr (.inr (.inl ⟨h0, by rw [HI.out]; omega, x, y, x0, hx, y0, hy, by rw [← HS.out, ← HNM.out]; exact nameB_drop hi6 x0, .inl ⟨by rw [HI.out]; exact HP.out, by rw [HI.out]; rfl⟩⟩)), ((H3.out.bel.set (Nat.le_refl _) _ _).set (Nat.le_refl _) _ _).set (Nat.le_refl _) _ _⟩
                    · have HP := Lib.hid hp
                      clear hp
                      go_wp2_with fail
                      refine (exists_no _ _ _ _ HP.out).mono ?_
                      rintro e w3 ⟨rfl, hb⟩
                      have H3 := Lib.hid (H2.out.up hb)
                      have X3 := X2.up hb
                      clear hb H2 X2 f0 f1 f2 f3 f4 f5 f6
                      obtain ⟨f0, f1, f2, f3, f4, f5, f6⟩ := id X3
                      obtain ⟨r0, r1, r2, r3, r4, r5, r6⟩ := id H3.out.r
                      go_wp2_with fail
                      have Tf := H3.out.r.store (u := .int .i64 0) (v := .int .i64 0) (t := .int .i64 0)
                      exact bodyPost_ret (v := .tuple #[.agg #[.int .i64 0, .int .i64 0, .int .i64 0], .int .i64 0, .int .i64 18]) (by simp [results, Tryd.results29, go_sem, Tf.c0, Tf.c1, Tf.c2]) rfl ⟨.inr (.inr (.inl ⟨h0, by rw [HI.out]; omega, x, y, x0, hx, y0, hy, by rw [← HS.out, ← HNM.out]; exact nameB_drop hi6 x0, .inr ⟨by rw [HI.out]; exact HP.out, rfl⟩⟩)), ((H3.out.bel.set (Nat.le_refl _) _ _).set (Nat.le_refl _) _ _).set (Nat.le_refl _) _ _⟩
                  · have hm' := beq_no hm
                    have HS := Lib.hid hm
                    clear hm
                    go_wp2_with fail
                    go_roundg (10 - (y + 1)).toNat
                    case measure => omega
                    case rel => exact ⟨y + 1, by omega, by omega, rfl, rfl, Lib.hid (fun u h0 h1 => by
                      by_cases e : u = y
                      · subst e; rw [HNM.out]; exact HS.out
                      · exact HM.out u h0 (by omega)), H2⟩
                · obtain rfl : y = 10 := by omega
                  go_wp2_with fail
                  go_roundg (3 - (x + 1)).toNat
                  case measure => omega
                  case rel => exact ⟨x + 1, by omega, by omega, rfl, rfl, Lib.hid (fun b u h0 h1 h2 h3 => by
                      by_cases e : b = x
                      · subst e; exact HM.out u h2 (by omega)
                      · exact HN.out b u h0 (by omega) h2 h3), HW3⟩
            · obtain rfl : x = 3 := by omega
              obtain ⟨r0, r1, r2, r3, r4, r5, r6⟩ := id HW2.out.r
              go_wp2_with fail
              have Tf := HW2.out.r.store (u := .int .i64 0) (v := .int .i64 0) (t := .int .i64 0)
              exact bodyPost_ret (v := .tuple #[.agg #[.int .i64 0, .int .i64 0, .int .i64 0], .int .i64 1, .int .i64 3]) (by simp [results, Tryd.results29, go_sem, Tf.c0, Tf.c1, Tf.c2]) rfl ⟨.inr (.inr (.inr ⟨h0, by rw [HI.out]; omega, fun a o a0 a1 o0 o1 hd => HN.out a o a0 (by omega) o0 o1 (name_back h0 hi6 HI.out a0 hd), rfl⟩)), ((HW2.out.bel.set (Nat.le_refl _) _ _).set (Nat.le_refl _) _ _).set (Nat.le_refl _) _ _⟩
end Go.Proofs.YtolfgomlokpopaaDoor
