/- Clefs: law ClefNames. -/
import Derived.Test.YtmdnlnjapkcanaaDoorCv
namespace Go.Proofs.YtmdnlnjapkcanaaDoor
open Go.RowKit
set_option linter.unusedVariables false
set_option linter.unusedSimpArgs false

set_option maxRecDepth 100000 in
set_option maxHeartbeats 4000000 in
theorem nmLaw_syz (c : Int) (S : ByteArray) (F : Nat) (w : World) (hz : S.size ≤ maxLen) (hs : S.size ≤ 30) (h : Cl c) (hF : fnd S = F) (hp : F = 0) (hc : CW w) :
    Calls Tryd.prog 11 #[.int .i64 c, .string S] w fun e w' => e = .returned (.bool true) ∧ Below w.heap.size w w' := by
  have HP := Lib.hid h
  have B0 := Lib.hid (Bel.refl w)
  have C0 := Lib.hid hc
  obtain ⟨c0, c1⟩ := id h
  have hc9 : c.toNat - 1 < 9 := by omega
  have HFN := Lib.hid (show fnd (namB c) = c.toNat from fnd_hit (by omega) (by omega) (by rw [show ((c.toNat : Nat) : Int) = c by omega]))
  unfold maxLen at hz
  clear hc
  have HZ := Lib.hid hF
  clear hF
  go_enter Tryd.func11, Tryd.ntmps11
  go_wp2_with fail
  refine (known_ok _ C0.out).mono ?_
  rintro e w1 ⟨rfl, hb⟩
  have B1 := Lib.hid (B0.out.up hb)
  have C1 := Lib.hid (C0.out.below hb)
  clear hb B0 C0
  go_wp2_with fail
  have hF := HZ.out
  clear HZ
  have HX := Lib.hid (fun (k : Nat) (h1 : 1 ≤ k) (h9 : k ≤ 9) (h : namB (k : Int) = S) => fnd_hit h1 h9 h)
  have HY := Lib.hid (fun (k : Nat) (h : fnd S = k) (hk : k ≠ 0) => fnd_some h hk)
  have KF := Lib.hid (fun v hv => find_any S v hv)
  simp only [hF] at HX HY KF
  subst hp
  rw [if_pos rfl] at KF
  clear hF
  refine (clefs_ok _).mono ?_
  rintro e w2 ⟨b, rfl, ht, hb⟩
  have B2 := Lib.hid (B1.out.up hb)
  have C2 := Lib.hid (C1.out.below hb)
  have T2 := Lib.hid ht
  clear hb ht B1 C1
  go_wp2_with fail
  go_loopg [5, 7] 9 (fun gm W i wr => ∃ k : Nat, k ≤ 9 ∧ gm = 9 - k ∧ i = .int .i64 (k : Int) ∧ W = .int .i64 0 ∧ Hid (Bel w2 wr))
  case atStart => exact ⟨0, by omega, by omega, rfl, rfl, Lib.hid (Bel.refl w2)⟩
  case round =>
    obtain ⟨k, hk, rfl, rfl, rfl, HB⟩ := hrel
    by_cases hlt : k < 9
    · have hcl : Cl ((k : Int) + 1) := ⟨by omega, by omega⟩
      have r0 := (((T2.out.up HB.out.out).row hcl).r0)
      have e9 : ((k : Int) + 1).toNat - 1 = k := by omega
      rw [e9] at r0
      clear hcl e9
      have hcast : ((k + 1 : Nat) : Int) = (k : Int) + 1 := by omega
      by_cases he : namB ((k : Int) + 1) = S
      · have hit := Lib.hid (HX.out (k + 1) (by omega) (by omega) (by rw [hcast]; exact he))
        have := hit.out
        omega
      · have hn := Lib.hid he
        have hq := beq_no he
        clear he hcast
        generalize namB ((k : Int) + 1) = NB at hq r0
        go_wp2_with fail
        go_roundg (9 - (k + 1))
        case measure => omega
        case rel => exact ⟨k + 1, by omega, rfl, by go_num, rfl, HB⟩
    · obtain rfl : k = 9 := by omega
      have B3 := Lib.hid (B2.out.up HB.out.out)
      have C3 := Lib.hid (C2.out.below HB.out.out)
      have T3 := Lib.hid (T2.out.up HB.out.out)
      clear HB B2 C2 T2 HX HY
      go_wp2_with fail
      refine (KF.out _ C3.out).mono ?_
      rintro e w4 ⟨rfl, hb⟩
      have B4 := Lib.hid (B3.out.up hb)
      have C4 := Lib.hid (C3.out.below hb)
      have T4 := Lib.hid (T3.out.up hb)
      clear hb B3 C3 T3 KF
      go_wp2_with fail
      refine (name_ok c _ HP.out C4.out).mono ?_
      rintro e w5 ⟨rfl, hb⟩
      have B5 := Lib.hid (B4.out.up hb)
      have C5 := Lib.hid (C4.out.below hb)
      have T5 := Lib.hid (T4.out.up hb)
      clear hb B4 C4 T4
      go_wp2_with fail
      refine (sign_ok c _ HP.out C5.out).mono ?_
      rintro e w6 ⟨rfl, hb⟩
      have B6 := Lib.hid (B5.out.up hb)
      have C6 := Lib.hid (C5.out.below hb)
      have T6 := Lib.hid (T5.out.up hb)
      clear hb B5 C5 T5
      go_wp2_with fail
      refine (valid_ok c _ HP.out).mono ?_
      rintro e w7 ⟨rfl, hb⟩
      have B7 := Lib.hid (B6.out.up hb)
      have C7 := Lib.hid (C6.out.below hb)
      have T7 := Lib.hid (T6.out.up hb)
      clear hb B6 C6 T6
      go_wp2_with fail
      refine (find_any (namB c) _ C7.out).mono ?_
      rintro e w8 ⟨rfl, hb⟩
      have B8 := Lib.hid (B7.out.up hb)
      have C8 := Lib.hid (C7.out.below hb)
      have T8 := Lib.hid (T7.out.up hb)
      clear hb B7 C7 T7
      rw [HFN.out, if_neg (by omega)]
      have hcc : ((c.toNat : Nat) : Int) = c := by omega
      obtain ⟨r0, r1, r2, r3, r4, r5, r6⟩ := T8.out.row HP.out
      have s0 := tab_new w8 #[.string (namB c), .int .u8 (ltrI c), .int .i64 (linI c), .int .i64 (octI c), .int .i64 (midI c), .int .i64 (shaI c), .int .i64 (flaI c)] 55 _ rfl 0 _ rfl
      have s1 := tab_new w8 #[.string (namB c), .int .u8 (ltrI c), .int .i64 (linI c), .int .i64 (octI c), .int .i64 (midI c), .int .i64 (shaI c), .int .i64 (flaI c)] 55 _ rfl 1 _ rfl
      have s2 := tab_new w8 #[.string (namB c), .int .u8 (ltrI c), .int .i64 (linI c), .int .i64 (octI c), .int .i64 (midI c), .int .i64 (shaI c), .int .i64 (flaI c)] 55 _ rfl 2 _ rfl
      have s3 := tab_new w8 #[.string (namB c), .int .u8 (ltrI c), .int .i64 (linI c), .int .i64 (octI c), .int .i64 (midI c), .int .i64 (shaI c), .int .i64 (flaI c)] 55 _ rfl 3 _ rfl
      have BF := Lib.hid (B8.out.alloc (.cells #[.string (namB c), .int .u8 (ltrI c), .int .i64 (linI c), .int .i64 (octI c), .int .i64 (midI c), .int .i64 (shaI c), .int .i64 (flaI c)] 55))
      generalize namB c = NB at *
      generalize ltrI c = x1 at *
      generalize linI c = x2 at *
      generalize octI c = x3 at *
      generalize midI c = x4 at *
      generalize shaI c = x5 at *
      generalize flaI c = x6 at *
      go_wp2_with fail
      try (go_quiet (fail); go_wp2_with fail)
      go_ret
      exact ⟨by first | rfl | (simp; done) | (simp; omega), by first | exact BF.out.out | exact below_drewN BF.out.out _⟩
set_option maxRecDepth 100000 in
set_option maxHeartbeats 4000000 in
theorem nmLaw_syp (c : Int) (S : ByteArray) (F : Nat) (w : World) (hz : S.size ≤ maxLen) (hs : S.size ≤ 30) (h : Cl c) (hF : fnd S = F) (hp : 1 ≤ F) (hc : CW w) :
    Calls Tryd.prog 11 #[.int .i64 c, .string S] w fun e w' => e = .returned (.bool true) ∧ Below w.heap.size w w' := by
  have HP := Lib.hid h
  have B0 := Lib.hid (Bel.refl w)
  have C0 := Lib.hid hc
  obtain ⟨c0, c1⟩ := id h
  have hc9 : c.toNat - 1 < 9 := by omega
  have HFN := Lib.hid (show fnd (namB c) = c.toNat from fnd_hit (by omega) (by omega) (by rw [show ((c.toNat : Nat) : Int) = c by omega]))
  unfold maxLen at hz
  clear hc
  have HZ := Lib.hid hF
  clear hF
  go_enter Tryd.func11, Tryd.ntmps11
  go_wp2_with fail
  refine (known_ok _ C0.out).mono ?_
  rintro e w1 ⟨rfl, hb⟩
  have B1 := Lib.hid (B0.out.up hb)
  have C1 := Lib.hid (C0.out.below hb)
  clear hb B0 C0
  go_wp2_with fail
  have hF := HZ.out
  clear HZ
  have HX := Lib.hid (fun (k : Nat) (h1 : 1 ≤ k) (h9 : k ≤ 9) (h : namB (k : Int) = S) => fnd_hit h1 h9 h)
  have HY := Lib.hid (fun (k : Nat) (h : fnd S = k) (hk : k ≠ 0) => fnd_some h hk)
  have KF := Lib.hid (fun v hv => find_any S v hv)
  simp only [hF] at HX HY KF
  have hp9 := (HY.out F rfl (by omega)).1
  have HN := Lib.hid (HY.out F rfl (by omega)).2
  rw [if_neg (by omega)] at KF
  clear hF
  refine (clefs_ok _).mono ?_
  rintro e w2 ⟨b, rfl, ht, hb⟩
  have B2 := Lib.hid (B1.out.up hb)
  have C2 := Lib.hid (C1.out.below hb)
  have T2 := Lib.hid ht
  clear hb ht B1 C1
  go_wp2_with fail
  go_loopg [5, 7] 9 (fun gm W i wr => ∃ k : Nat, k ≤ 9 ∧ gm = 9 - k ∧ i = .int .i64 (k : Int) ∧ Hid (W = .int .i64 (if F ≤ k then (F : Int) else 0)) ∧ Hid (Bel w2 wr))
  case atStart => exact ⟨0, by omega, by omega, rfl, Lib.hid (by rw [if_neg (by omega)]), Lib.hid (Bel.refl w2)⟩
  case round =>
    obtain ⟨k, hk, rfl, rfl, HW, HB⟩ := hrel
    by_cases hlt : k < 9
    · have hcl : Cl ((k : Int) + 1) := ⟨by omega, by omega⟩
      have r0 := (((T2.out.up HB.out.out).row hcl).r0)
      have e9 : ((k : Int) + 1).toNat - 1 = k := by omega
      rw [e9] at r0
      clear hcl e9
      have hcast : ((k + 1 : Nat) : Int) = (k : Int) + 1 := by omega
      by_cases he : namB ((k : Int) + 1) = S
      · have hit := Lib.hid (HX.out (k + 1) (by omega) (by omega) (by rw [hcast]; exact he))
        have hq := beq_yes he
        clear he hcast
        generalize namB ((k : Int) + 1) = NB at hq r0
        go_wp2_with fail
        go_roundg (9 - (k + 1))
        case measure => omega
        case rel => exact ⟨k + 1, by omega, rfl, by go_num, Lib.hid (by rw [hit.out, if_pos (Nat.le_refl _)]; congr 1), HB⟩
      · have hn := Lib.hid he
        have hq := beq_no he
        clear he hcast
        generalize namB ((k : Int) + 1) = NB at hq r0
        go_wp2_with fail
        go_roundg (9 - (k + 1))
        case measure => omega
        case rel => exact ⟨k + 1, by omega, rfl, by go_num, Lib.hid (by
          rw [HW.out]
          congr 1
          by_cases hh : F ≤ k
          · rw [if_pos hh, if_pos (by omega)]
          · rw [if_neg hh, if_neg (fun h => hn.out (by
              have h2 := (HY.out F rfl (by omega)).2
              rw [show (F : Int) = (k : Int) + 1 by omega] at h2
              exact h2))]), HB⟩
    · obtain rfl : k = 9 := by omega
      have hW := HW.out
      rw [if_pos hp9] at hW
      subst hW
      clear HW
      have hF0 : F ≠ 0 := by omega
      have B3 := Lib.hid (B2.out.up HB.out.out)
      have C3 := Lib.hid (C2.out.below HB.out.out)
      have T3 := Lib.hid (T2.out.up HB.out.out)
      clear HB B2 C2 T2 HX HY
      go_wp2_with fail
      refine (KF.out _ C3.out).mono ?_
      rintro e w4 ⟨rfl, hb⟩
      have B4 := Lib.hid (B3.out.up hb)
      have C4 := Lib.hid (C3.out.below hb)
      have T4 := Lib.hid (T3.out.up hb)
      clear hb B3 C3 T3 KF
      go_wp2_with fail
      refine (name_ok c _ HP.out C4.out).mono ?_
      rintro e w5 ⟨rfl, hb⟩
      have B5 := Lib.hid (B4.out.up hb)
      have C5 := Lib.hid (C4.out.below hb)
      have T5 := Lib.hid (T4.out.up hb)
      clear hb B4 C4 T4
      go_wp2_with fail
      refine (sign_ok c _ HP.out C5.out).mono ?_
      rintro e w6 ⟨rfl, hb⟩
      have B6 := Lib.hid (B5.out.up hb)
      have C6 := Lib.hid (C5.out.below hb)
      have T6 := Lib.hid (T5.out.up hb)
      clear hb B5 C5 T5
      go_wp2_with fail
      refine (valid_ok c _ HP.out).mono ?_
      rintro e w7 ⟨rfl, hb⟩
      have B7 := Lib.hid (B6.out.up hb)
      have C7 := Lib.hid (C6.out.below hb)
      have T7 := Lib.hid (T6.out.up hb)
      clear hb B6 C6 T6
      go_wp2_with fail
      refine (find_any (namB c) _ C7.out).mono ?_
      rintro e w8 ⟨rfl, hb⟩
      have B8 := Lib.hid (B7.out.up hb)
      have C8 := Lib.hid (C7.out.below hb)
      have T8 := Lib.hid (T7.out.up hb)
      clear hb B7 C7 T7
      rw [HFN.out, if_neg (by omega)]
      have hcc : ((c.toNat : Nat) : Int) = c := by omega
      obtain ⟨r0, r1, r2, r3, r4, r5, r6⟩ := T8.out.row HP.out
      have s0 := tab_new w8 #[.string (namB c), .int .u8 (ltrI c), .int .i64 (linI c), .int .i64 (octI c), .int .i64 (midI c), .int .i64 (shaI c), .int .i64 (flaI c)] 55 _ rfl 0 _ rfl
      have s1 := tab_new w8 #[.string (namB c), .int .u8 (ltrI c), .int .i64 (linI c), .int .i64 (octI c), .int .i64 (midI c), .int .i64 (shaI c), .int .i64 (flaI c)] 55 _ rfl 1 _ rfl
      have s2 := tab_new w8 #[.string (namB c), .int .u8 (ltrI c), .int .i64 (linI c), .int .i64 (octI c), .int .i64 (midI c), .int .i64 (shaI c), .int .i64 (flaI c)] 55 _ rfl 2 _ rfl
      have s3 := tab_new w8 #[.string (namB c), .int .u8 (ltrI c), .int .i64 (linI c), .int .i64 (octI c), .int .i64 (midI c), .int .i64 (shaI c), .int .i64 (flaI c)] 55 _ rfl 3 _ rfl
      have BF := Lib.hid (B8.out.alloc (.cells #[.string (namB c), .int .u8 (ltrI c), .int .i64 (linI c), .int .i64 (octI c), .int .i64 (midI c), .int .i64 (shaI c), .int .i64 (flaI c)] 55))
      generalize namB c = NB at *
      generalize ltrI c = x1 at *
      generalize linI c = x2 at *
      generalize octI c = x3 at *
      generalize midI c = x4 at *
      generalize shaI c = x5 at *
      generalize flaI c = x6 at *
      go_wp2_with fail
      try (go_quiet (fail); go_wp2_with fail)
      go_ret
      exact ⟨by first | rfl | (simp; done) | (simp; omega), by first | exact BF.out.out | exact below_drewN BF.out.out _⟩
set_option maxRecDepth 100000 in
set_option maxHeartbeats 4000000 in
theorem nmLaw_snz (c : Int) (S : ByteArray) (F : Nat) (w : World) (hz : S.size ≤ maxLen) (hs : S.size ≤ 30) (h : ¬ Cl c) (hF : fnd S = F) (hp : F = 0) (hc : CW w) :
    Calls Tryd.prog 11 #[.int .i64 c, .string S] w fun e w' => e = .returned (.bool true) ∧ Below w.heap.size w w' := by
  have HP := Lib.hid h
  have B0 := Lib.hid (Bel.refl w)
  have C0 := Lib.hid hc
  unfold maxLen at hz
  clear hc
  have HZ := Lib.hid hF
  clear hF
  go_enter Tryd.func11, Tryd.ntmps11
  go_wp2_with fail
  refine (known_ok _ C0.out).mono ?_
  rintro e w1 ⟨rfl, hb⟩
  have B1 := Lib.hid (B0.out.up hb)
  have C1 := Lib.hid (C0.out.below hb)
  clear hb B0 C0
  go_wp2_with fail
  have hF := HZ.out
  clear HZ
  have HX := Lib.hid (fun (k : Nat) (h1 : 1 ≤ k) (h9 : k ≤ 9) (h : namB (k : Int) = S) => fnd_hit h1 h9 h)
  have HY := Lib.hid (fun (k : Nat) (h : fnd S = k) (hk : k ≠ 0) => fnd_some h hk)
  have KF := Lib.hid (fun v hv => find_any S v hv)
  simp only [hF] at HX HY KF
  subst hp
  rw [if_pos rfl] at KF
  clear hF
  refine (clefs_ok _).mono ?_
  rintro e w2 ⟨b, rfl, ht, hb⟩
  have B2 := Lib.hid (B1.out.up hb)
  have C2 := Lib.hid (C1.out.below hb)
  have T2 := Lib.hid ht
  clear hb ht B1 C1
  go_wp2_with fail
  go_loopg [5, 7] 9 (fun gm W i wr => ∃ k : Nat, k ≤ 9 ∧ gm = 9 - k ∧ i = .int .i64 (k : Int) ∧ W = .int .i64 0 ∧ Hid (Bel w2 wr))
  case atStart => exact ⟨0, by omega, by omega, rfl, rfl, Lib.hid (Bel.refl w2)⟩
  case round =>
    obtain ⟨k, hk, rfl, rfl, rfl, HB⟩ := hrel
    by_cases hlt : k < 9
    · have hcl : Cl ((k : Int) + 1) := ⟨by omega, by omega⟩
      have r0 := (((T2.out.up HB.out.out).row hcl).r0)
      have e9 : ((k : Int) + 1).toNat - 1 = k := by omega
      rw [e9] at r0
      clear hcl e9
      have hcast : ((k + 1 : Nat) : Int) = (k : Int) + 1 := by omega
      by_cases he : namB ((k : Int) + 1) = S
      · have hit := Lib.hid (HX.out (k + 1) (by omega) (by omega) (by rw [hcast]; exact he))
        have := hit.out
        omega
      · have hn := Lib.hid he
        have hq := beq_no he
        clear he hcast
        generalize namB ((k : Int) + 1) = NB at hq r0
        go_wp2_with fail
        go_roundg (9 - (k + 1))
        case measure => omega
        case rel => exact ⟨k + 1, by omega, rfl, by go_num, rfl, HB⟩
    · obtain rfl : k = 9 := by omega
      have B3 := Lib.hid (B2.out.up HB.out.out)
      have C3 := Lib.hid (C2.out.below HB.out.out)
      have T3 := Lib.hid (T2.out.up HB.out.out)
      clear HB B2 C2 T2 HX HY
      go_wp2_with fail
      refine (KF.out _ C3.out).mono ?_
      rintro e w4 ⟨rfl, hb⟩
      have B4 := Lib.hid (B3.out.up hb)
      have C4 := Lib.hid (C3.out.below hb)
      have T4 := Lib.hid (T3.out.up hb)
      clear hb B3 C3 T3 KF
      go_wp2_with fail
      refine (name_bad c _ HP.out C4.out).mono ?_
      rintro e w5 ⟨rfl, hb⟩
      have B5 := Lib.hid (B4.out.up hb)
      have C5 := Lib.hid (C4.out.below hb)
      have T5 := Lib.hid (T4.out.up hb)
      clear hb B4 C4 T4
      go_wp2_with fail
      refine (sign_bad c _ HP.out C5.out).mono ?_
      rintro e w6 ⟨rfl, hb⟩
      have B6 := Lib.hid (B5.out.up hb)
      have C6 := Lib.hid (C5.out.below hb)
      have T6 := Lib.hid (T5.out.up hb)
      clear hb B5 C5 T5
      go_wp2_with fail
      refine (valid_bad c _ HP.out).mono ?_
      rintro e w7 ⟨rfl, hb⟩
      have B7 := Lib.hid (B6.out.up hb)
      have C7 := Lib.hid (C6.out.below hb)
      have T7 := Lib.hid (T6.out.up hb)
      clear hb B6 C6 T6
      go_wp2_with fail
      go_ret
      exact ⟨by first | rfl | (simp; done), B7.out.out⟩
set_option maxRecDepth 100000 in
set_option maxHeartbeats 4000000 in
theorem nmLaw_snp (c : Int) (S : ByteArray) (F : Nat) (w : World) (hz : S.size ≤ maxLen) (hs : S.size ≤ 30) (h : ¬ Cl c) (hF : fnd S = F) (hp : 1 ≤ F) (hc : CW w) :
    Calls Tryd.prog 11 #[.int .i64 c, .string S] w fun e w' => e = .returned (.bool true) ∧ Below w.heap.size w w' := by
  have HP := Lib.hid h
  have B0 := Lib.hid (Bel.refl w)
  have C0 := Lib.hid hc
  unfold maxLen at hz
  clear hc
  have HZ := Lib.hid hF
  clear hF
  go_enter Tryd.func11, Tryd.ntmps11
  go_wp2_with fail
  refine (known_ok _ C0.out).mono ?_
  rintro e w1 ⟨rfl, hb⟩
  have B1 := Lib.hid (B0.out.up hb)
  have C1 := Lib.hid (C0.out.below hb)
  clear hb B0 C0
  go_wp2_with fail
  have hF := HZ.out
  clear HZ
  have HX := Lib.hid (fun (k : Nat) (h1 : 1 ≤ k) (h9 : k ≤ 9) (h : namB (k : Int) = S) => fnd_hit h1 h9 h)
  have HY := Lib.hid (fun (k : Nat) (h : fnd S = k) (hk : k ≠ 0) => fnd_some h hk)
  have KF := Lib.hid (fun v hv => find_any S v hv)
  simp only [hF] at HX HY KF
  have hp9 := (HY.out F rfl (by omega)).1
  have HN := Lib.hid (HY.out F rfl (by omega)).2
  rw [if_neg (by omega)] at KF
  clear hF
  refine (clefs_ok _).mono ?_
  rintro e w2 ⟨b, rfl, ht, hb⟩
  have B2 := Lib.hid (B1.out.up hb)
  have C2 := Lib.hid (C1.out.below hb)
  have T2 := Lib.hid ht
  clear hb ht B1 C1
  go_wp2_with fail
  go_loopg [5, 7] 9 (fun gm W i wr => ∃ k : Nat, k ≤ 9 ∧ gm = 9 - k ∧ i = .int .i64 (k : Int) ∧ Hid (W = .int .i64 (if F ≤ k then (F : Int) else 0)) ∧ Hid (Bel w2 wr))
  case atStart => exact ⟨0, by omega, by omega, rfl, Lib.hid (by rw [if_neg (by omega)]), Lib.hid (Bel.refl w2)⟩
  case round =>
    obtain ⟨k, hk, rfl, rfl, HW, HB⟩ := hrel
    by_cases hlt : k < 9
    · have hcl : Cl ((k : Int) + 1) := ⟨by omega, by omega⟩
      have r0 := (((T2.out.up HB.out.out).row hcl).r0)
      have e9 : ((k : Int) + 1).toNat - 1 = k := by omega
      rw [e9] at r0
      clear hcl e9
      have hcast : ((k + 1 : Nat) : Int) = (k : Int) + 1 := by omega
      by_cases he : namB ((k : Int) + 1) = S
      · have hit := Lib.hid (HX.out (k + 1) (by omega) (by omega) (by rw [hcast]; exact he))
        have hq := beq_yes he
        clear he hcast
        generalize namB ((k : Int) + 1) = NB at hq r0
        go_wp2_with fail
        go_roundg (9 - (k + 1))
        case measure => omega
        case rel => exact ⟨k + 1, by omega, rfl, by go_num, Lib.hid (by rw [hit.out, if_pos (Nat.le_refl _)]; congr 1), HB⟩
      · have hn := Lib.hid he
        have hq := beq_no he
        clear he hcast
        generalize namB ((k : Int) + 1) = NB at hq r0
        go_wp2_with fail
        go_roundg (9 - (k + 1))
        case measure => omega
        case rel => exact ⟨k + 1, by omega, rfl, by go_num, Lib.hid (by
          rw [HW.out]
          congr 1
          by_cases hh : F ≤ k
          · rw [if_pos hh, if_pos (by omega)]
          · rw [if_neg hh, if_neg (fun h => hn.out (by
              have h2 := (HY.out F rfl (by omega)).2
              rw [show (F : Int) = (k : Int) + 1 by omega] at h2
              exact h2))]), HB⟩
    · obtain rfl : k = 9 := by omega
      have hW := HW.out
      rw [if_pos hp9] at hW
      subst hW
      clear HW
      have hF0 : F ≠ 0 := by omega
      have B3 := Lib.hid (B2.out.up HB.out.out)
      have C3 := Lib.hid (C2.out.below HB.out.out)
      have T3 := Lib.hid (T2.out.up HB.out.out)
      clear HB B2 C2 T2 HX HY
      go_wp2_with fail
      refine (KF.out _ C3.out).mono ?_
      rintro e w4 ⟨rfl, hb⟩
      have B4 := Lib.hid (B3.out.up hb)
      have C4 := Lib.hid (C3.out.below hb)
      have T4 := Lib.hid (T3.out.up hb)
      clear hb B3 C3 T3 KF
      go_wp2_with fail
      refine (name_bad c _ HP.out C4.out).mono ?_
      rintro e w5 ⟨rfl, hb⟩
      have B5 := Lib.hid (B4.out.up hb)
      have C5 := Lib.hid (C4.out.below hb)
      have T5 := Lib.hid (T4.out.up hb)
      clear hb B4 C4 T4
      go_wp2_with fail
      refine (sign_bad c _ HP.out C5.out).mono ?_
      rintro e w6 ⟨rfl, hb⟩
      have B6 := Lib.hid (B5.out.up hb)
      have C6 := Lib.hid (C5.out.below hb)
      have T6 := Lib.hid (T5.out.up hb)
      clear hb B5 C5 T5
      go_wp2_with fail
      refine (valid_bad c _ HP.out).mono ?_
      rintro e w7 ⟨rfl, hb⟩
      have B7 := Lib.hid (B6.out.up hb)
      have C7 := Lib.hid (C6.out.below hb)
      have T7 := Lib.hid (T6.out.up hb)
      clear hb B6 C6 T6
      go_wp2_with fail
      go_ret
      exact ⟨by first | rfl | (simp; done), B7.out.out⟩
set_option maxRecDepth 100000 in
set_option maxHeartbeats 4000000 in
theorem nmLaw_lyz (c : Int) (S : ByteArray) (F : Nat) (w : World) (hz : S.size ≤ maxLen) (hs : 30 < S.size) (h : Cl c) (hF : fnd (S.extract 0 30) = F) (hp : F = 0) (hc : CW w) :
    Calls Tryd.prog 11 #[.int .i64 c, .string S] w fun e w' => e = .returned (.bool true) ∧ Below w.heap.size w w' := by
  have HP := Lib.hid h
  have B0 := Lib.hid (Bel.refl w)
  have C0 := Lib.hid hc
  obtain ⟨c0, c1⟩ := id h
  have hc9 : c.toNat - 1 < 9 := by omega
  have HFN := Lib.hid (show fnd (namB c) = c.toNat from fnd_hit (by omega) (by omega) (by rw [show ((c.toNat : Nat) : Int) = c by omega]))
  unfold maxLen at hz
  clear hc
  have HZ := Lib.hid hF
  clear hF
  go_enter Tryd.func11, Tryd.ntmps11
  go_wp2_with fail
  refine (known_ok _ C0.out).mono ?_
  rintro e w1 ⟨rfl, hb⟩
  have B1 := Lib.hid (B0.out.up hb)
  have C1 := Lib.hid (C0.out.below hb)
  clear hb B0 C0
  go_wp2_with fail
  have hF := HZ.out
  obtain ⟨N, hS⟩ : ∃ N, S.extract 0 30 = N := ⟨_, rfl⟩
  rw [hS] at hF
  try rw [hS]
  clear hS HZ
  have HX := Lib.hid (fun (k : Nat) (h1 : 1 ≤ k) (h9 : k ≤ 9) (h : namB (k : Int) = N) => fnd_hit h1 h9 h)
  have HY := Lib.hid (fun (k : Nat) (h : fnd N = k) (hk : k ≠ 0) => fnd_some h hk)
  have KF := Lib.hid (fun v hv => find_any N v hv)
  simp only [hF] at HX HY KF
  subst hp
  rw [if_pos rfl] at KF
  clear hF
  refine (clefs_ok _).mono ?_
  rintro e w2 ⟨b, rfl, ht, hb⟩
  have B2 := Lib.hid (B1.out.up hb)
  have C2 := Lib.hid (C1.out.below hb)
  have T2 := Lib.hid ht
  clear hb ht B1 C1
  go_wp2_with fail
  go_loopg [5, 7] 9 (fun gm W i wr => ∃ k : Nat, k ≤ 9 ∧ gm = 9 - k ∧ i = .int .i64 (k : Int) ∧ W = .int .i64 0 ∧ Hid (Bel w2 wr))
  case atStart => exact ⟨0, by omega, by omega, rfl, rfl, Lib.hid (Bel.refl w2)⟩
  case round =>
    obtain ⟨k, hk, rfl, rfl, rfl, HB⟩ := hrel
    by_cases hlt : k < 9
    · have hcl : Cl ((k : Int) + 1) := ⟨by omega, by omega⟩
      have r0 := (((T2.out.up HB.out.out).row hcl).r0)
      have e9 : ((k : Int) + 1).toNat - 1 = k := by omega
      rw [e9] at r0
      clear hcl e9
      have hcast : ((k + 1 : Nat) : Int) = (k : Int) + 1 := by omega
      by_cases he : namB ((k : Int) + 1) = N
      · have hit := Lib.hid (HX.out (k + 1) (by omega) (by omega) (by rw [hcast]; exact he))
        have := hit.out
        omega
      · have hn := Lib.hid he
        have hq := beq_no he
        clear he hcast
        generalize namB ((k : Int) + 1) = NB at hq r0
        go_wp2_with fail
        go_roundg (9 - (k + 1))
        case measure => omega
        case rel => exact ⟨k + 1, by omega, rfl, by go_num, rfl, HB⟩
    · obtain rfl : k = 9 := by omega
      have B3 := Lib.hid (B2.out.up HB.out.out)
      have C3 := Lib.hid (C2.out.below HB.out.out)
      have T3 := Lib.hid (T2.out.up HB.out.out)
      clear HB B2 C2 T2 HX HY
      go_wp2_with fail
      refine (KF.out _ C3.out).mono ?_
      rintro e w4 ⟨rfl, hb⟩
      have B4 := Lib.hid (B3.out.up hb)
      have C4 := Lib.hid (C3.out.below hb)
      have T4 := Lib.hid (T3.out.up hb)
      clear hb B3 C3 T3 KF
      go_wp2_with fail
      refine (name_ok c _ HP.out C4.out).mono ?_
      rintro e w5 ⟨rfl, hb⟩
      have B5 := Lib.hid (B4.out.up hb)
      have C5 := Lib.hid (C4.out.below hb)
      have T5 := Lib.hid (T4.out.up hb)
      clear hb B4 C4 T4
      go_wp2_with fail
      refine (sign_ok c _ HP.out C5.out).mono ?_
      rintro e w6 ⟨rfl, hb⟩
      have B6 := Lib.hid (B5.out.up hb)
      have C6 := Lib.hid (C5.out.below hb)
      have T6 := Lib.hid (T5.out.up hb)
      clear hb B5 C5 T5
      go_wp2_with fail
      refine (valid_ok c _ HP.out).mono ?_
      rintro e w7 ⟨rfl, hb⟩
      have B7 := Lib.hid (B6.out.up hb)
      have C7 := Lib.hid (C6.out.below hb)
      have T7 := Lib.hid (T6.out.up hb)
      clear hb B6 C6 T6
      go_wp2_with fail
      refine (find_any (namB c) _ C7.out).mono ?_
      rintro e w8 ⟨rfl, hb⟩
      have B8 := Lib.hid (B7.out.up hb)
      have C8 := Lib.hid (C7.out.below hb)
      have T8 := Lib.hid (T7.out.up hb)
      clear hb B7 C7 T7
      rw [HFN.out, if_neg (by omega)]
      have hcc : ((c.toNat : Nat) : Int) = c := by omega
      obtain ⟨r0, r1, r2, r3, r4, r5, r6⟩ := T8.out.row HP.out
      have s0 := tab_new w8 #[.string (namB c), .int .u8 (ltrI c), .int .i64 (linI c), .int .i64 (octI c), .int .i64 (midI c), .int .i64 (shaI c), .int .i64 (flaI c)] 55 _ rfl 0 _ rfl
      have s1 := tab_new w8 #[.string (namB c), .int .u8 (ltrI c), .int .i64 (linI c), .int .i64 (octI c), .int .i64 (midI c), .int .i64 (shaI c), .int .i64 (flaI c)] 55 _ rfl 1 _ rfl
      have s2 := tab_new w8 #[.string (namB c), .int .u8 (ltrI c), .int .i64 (linI c), .int .i64 (octI c), .int .i64 (midI c), .int .i64 (shaI c), .int .i64 (flaI c)] 55 _ rfl 2 _ rfl
      have s3 := tab_new w8 #[.string (namB c), .int .u8 (ltrI c), .int .i64 (linI c), .int .i64 (octI c), .int .i64 (midI c), .int .i64 (shaI c), .int .i64 (flaI c)] 55 _ rfl 3 _ rfl
      have BF := Lib.hid (B8.out.alloc (.cells #[.string (namB c), .int .u8 (ltrI c), .int .i64 (linI c), .int .i64 (octI c), .int .i64 (midI c), .int .i64 (shaI c), .int .i64 (flaI c)] 55))
      generalize namB c = NB at *
      generalize ltrI c = x1 at *
      generalize linI c = x2 at *
      generalize octI c = x3 at *
      generalize midI c = x4 at *
      generalize shaI c = x5 at *
      generalize flaI c = x6 at *
      go_wp2_with fail
      try (go_quiet (fail); go_wp2_with fail)
      go_ret
      exact ⟨by first | rfl | (simp; done) | (simp; omega), by first | exact BF.out.out | exact below_drewN BF.out.out _⟩
set_option maxRecDepth 100000 in
set_option maxHeartbeats 4000000 in
theorem nmLaw_lyp (c : Int) (S : ByteArray) (F : Nat) (w : World) (hz : S.size ≤ maxLen) (hs : 30 < S.size) (h : Cl c) (hF : fnd (S.extract 0 30) = F) (hp : 1 ≤ F) (hc : CW w) :
    Calls Tryd.prog 11 #[.int .i64 c, .string S] w fun e w' => e = .returned (.bool true) ∧ Below w.heap.size w w' := by
  have HP := Lib.hid h
  have B0 := Lib.hid (Bel.refl w)
  have C0 := Lib.hid hc
  obtain ⟨c0, c1⟩ := id h
  have hc9 : c.toNat - 1 < 9 := by omega
  have HFN := Lib.hid (show fnd (namB c) = c.toNat from fnd_hit (by omega) (by omega) (by rw [show ((c.toNat : Nat) : Int) = c by omega]))
  unfold maxLen at hz
  clear hc
  have HZ := Lib.hid hF
  clear hF
  go_enter Tryd.func11, Tryd.ntmps11
  go_wp2_with fail
  refine (known_ok _ C0.out).mono ?_
  rintro e w1 ⟨rfl, hb⟩
  have B1 := Lib.hid (B0.out.up hb)
  have C1 := Lib.hid (C0.out.below hb)
  clear hb B0 C0
  go_wp2_with fail
  have hF := HZ.out
  obtain ⟨N, hS⟩ : ∃ N, S.extract 0 30 = N := ⟨_, rfl⟩
  rw [hS] at hF
  try rw [hS]
  clear hS HZ
  have HX := Lib.hid (fun (k : Nat) (h1 : 1 ≤ k) (h9 : k ≤ 9) (h : namB (k : Int) = N) => fnd_hit h1 h9 h)
  have HY := Lib.hid (fun (k : Nat) (h : fnd N = k) (hk : k ≠ 0) => fnd_some h hk)
  have KF := Lib.hid (fun v hv => find_any N v hv)
  simp only [hF] at HX HY KF
  have hp9 := (HY.out F rfl (by omega)).1
  have HN := Lib.hid (HY.out F rfl (by omega)).2
  rw [if_neg (by omega)] at KF
  clear hF
  refine (clefs_ok _).mono ?_
  rintro e w2 ⟨b, rfl, ht, hb⟩
  have B2 := Lib.hid (B1.out.up hb)
  have C2 := Lib.hid (C1.out.below hb)
  have T2 := Lib.hid ht
  clear hb ht B1 C1
  go_wp2_with fail
  go_loopg [5, 7] 9 (fun gm W i wr => ∃ k : Nat, k ≤ 9 ∧ gm = 9 - k ∧ i = .int .i64 (k : Int) ∧ Hid (W = .int .i64 (if F ≤ k then (F : Int) else 0)) ∧ Hid (Bel w2 wr))
  case atStart => exact ⟨0, by omega, by omega, rfl, Lib.hid (by rw [if_neg (by omega)]), Lib.hid (Bel.refl w2)⟩
  case round =>
    obtain ⟨k, hk, rfl, rfl, HW, HB⟩ := hrel
    by_cases hlt : k < 9
    · have hcl : Cl ((k : Int) + 1) := ⟨by omega, by omega⟩
      have r0 := (((T2.out.up HB.out.out).row hcl).r0)
      have e9 : ((k : Int) + 1).toNat - 1 = k := by omega
      rw [e9] at r0
      clear hcl e9
      have hcast : ((k + 1 : Nat) : Int) = (k : Int) + 1 := by omega
      by_cases he : namB ((k : Int) + 1) = N
      · have hit := Lib.hid (HX.out (k + 1) (by omega) (by omega) (by rw [hcast]; exact he))
        have hq := beq_yes he
        clear he hcast
        generalize namB ((k : Int) + 1) = NB at hq r0
        go_wp2_with fail
        go_roundg (9 - (k + 1))
        case measure => omega
        case rel => exact ⟨k + 1, by omega, rfl, by go_num, Lib.hid (by rw [hit.out, if_pos (Nat.le_refl _)]; congr 1), HB⟩
      · have hn := Lib.hid he
        have hq := beq_no he
        clear he hcast
        generalize namB ((k : Int) + 1) = NB at hq r0
        go_wp2_with fail
        go_roundg (9 - (k + 1))
        case measure => omega
        case rel => exact ⟨k + 1, by omega, rfl, by go_num, Lib.hid (by
          rw [HW.out]
          congr 1
          by_cases hh : F ≤ k
          · rw [if_pos hh, if_pos (by omega)]
          · rw [if_neg hh, if_neg (fun h => hn.out (by
              have h2 := (HY.out F rfl (by omega)).2
              rw [show (F : Int) = (k : Int) + 1 by omega] at h2
              exact h2))]), HB⟩
    · obtain rfl : k = 9 := by omega
      have hW := HW.out
      rw [if_pos hp9] at hW
      subst hW
      clear HW
      have hF0 : F ≠ 0 := by omega
      have B3 := Lib.hid (B2.out.up HB.out.out)
      have C3 := Lib.hid (C2.out.below HB.out.out)
      have T3 := Lib.hid (T2.out.up HB.out.out)
      clear HB B2 C2 T2 HX HY
      go_wp2_with fail
      refine (KF.out _ C3.out).mono ?_
      rintro e w4 ⟨rfl, hb⟩
      have B4 := Lib.hid (B3.out.up hb)
      have C4 := Lib.hid (C3.out.below hb)
      have T4 := Lib.hid (T3.out.up hb)
      clear hb B3 C3 T3 KF
      go_wp2_with fail
      refine (name_ok c _ HP.out C4.out).mono ?_
      rintro e w5 ⟨rfl, hb⟩
      have B5 := Lib.hid (B4.out.up hb)
      have C5 := Lib.hid (C4.out.below hb)
      have T5 := Lib.hid (T4.out.up hb)
      clear hb B4 C4 T4
      go_wp2_with fail
      refine (sign_ok c _ HP.out C5.out).mono ?_
      rintro e w6 ⟨rfl, hb⟩
      have B6 := Lib.hid (B5.out.up hb)
      have C6 := Lib.hid (C5.out.below hb)
      have T6 := Lib.hid (T5.out.up hb)
      clear hb B5 C5 T5
      go_wp2_with fail
      refine (valid_ok c _ HP.out).mono ?_
      rintro e w7 ⟨rfl, hb⟩
      have B7 := Lib.hid (B6.out.up hb)
      have C7 := Lib.hid (C6.out.below hb)
      have T7 := Lib.hid (T6.out.up hb)
      clear hb B6 C6 T6
      go_wp2_with fail
      refine (find_any (namB c) _ C7.out).mono ?_
      rintro e w8 ⟨rfl, hb⟩
      have B8 := Lib.hid (B7.out.up hb)
      have C8 := Lib.hid (C7.out.below hb)
      have T8 := Lib.hid (T7.out.up hb)
      clear hb B7 C7 T7
      rw [HFN.out, if_neg (by omega)]
      have hcc : ((c.toNat : Nat) : Int) = c := by omega
      obtain ⟨r0, r1, r2, r3, r4, r5, r6⟩ := T8.out.row HP.out
      have s0 := tab_new w8 #[.string (namB c), .int .u8 (ltrI c), .int .i64 (linI c), .int .i64 (octI c), .int .i64 (midI c), .int .i64 (shaI c), .int .i64 (flaI c)] 55 _ rfl 0 _ rfl
      have s1 := tab_new w8 #[.string (namB c), .int .u8 (ltrI c), .int .i64 (linI c), .int .i64 (octI c), .int .i64 (midI c), .int .i64 (shaI c), .int .i64 (flaI c)] 55 _ rfl 1 _ rfl
      have s2 := tab_new w8 #[.string (namB c), .int .u8 (ltrI c), .int .i64 (linI c), .int .i64 (octI c), .int .i64 (midI c), .int .i64 (shaI c), .int .i64 (flaI c)] 55 _ rfl 2 _ rfl
      have s3 := tab_new w8 #[.string (namB c), .int .u8 (ltrI c), .int .i64 (linI c), .int .i64 (octI c), .int .i64 (midI c), .int .i64 (shaI c), .int .i64 (flaI c)] 55 _ rfl 3 _ rfl
      have BF := Lib.hid (B8.out.alloc (.cells #[.string (namB c), .int .u8 (ltrI c), .int .i64 (linI c), .int .i64 (octI c), .int .i64 (midI c), .int .i64 (shaI c), .int .i64 (flaI c)] 55))
      generalize namB c = NB at *
      generalize ltrI c = x1 at *
      generalize linI c = x2 at *
      generalize octI c = x3 at *
      generalize midI c = x4 at *
      generalize shaI c = x5 at *
      generalize flaI c = x6 at *
      go_wp2_with fail
      try (go_quiet (fail); go_wp2_with fail)
      go_ret
      exact ⟨by first | rfl | (simp; done) | (simp; omega), by first | exact BF.out.out | exact below_drewN BF.out.out _⟩
set_option maxRecDepth 100000 in
set_option maxHeartbeats 4000000 in
theorem nmLaw_lnz (c : Int) (S : ByteArray) (F : Nat) (w : World) (hz : S.size ≤ maxLen) (hs : 30 < S.size) (h : ¬ Cl c) (hF : fnd (S.extract 0 30) = F) (hp : F = 0) (hc : CW w) :
    Calls Tryd.prog 11 #[.int .i64 c, .string S] w fun e w' => e = .returned (.bool true) ∧ Below w.heap.size w w' := by
  have HP := Lib.hid h
  have B0 := Lib.hid (Bel.refl w)
  have C0 := Lib.hid hc
  unfold maxLen at hz
  clear hc
  have HZ := Lib.hid hF
  clear hF
  go_enter Tryd.func11, Tryd.ntmps11
  go_wp2_with fail
  refine (known_ok _ C0.out).mono ?_
  rintro e w1 ⟨rfl, hb⟩
  have B1 := Lib.hid (B0.out.up hb)
  have C1 := Lib.hid (C0.out.below hb)
  clear hb B0 C0
  go_wp2_with fail
  have hF := HZ.out
  obtain ⟨N, hS⟩ : ∃ N, S.extract 0 30 = N := ⟨_, rfl⟩
  rw [hS] at hF
  try rw [hS]
  clear hS HZ
  have HX := Lib.hid (fun (k : Nat) (h1 : 1 ≤ k) (h9 : k ≤ 9) (h : namB (k : Int) = N) => fnd_hit h1 h9 h)
  have HY := Lib.hid (fun (k : Nat) (h : fnd N = k) (hk : k ≠ 0) => fnd_some h hk)
  have KF := Lib.hid (fun v hv => find_any N v hv)
  simp only [hF] at HX HY KF
  subst hp
  rw [if_pos rfl] at KF
  clear hF
  refine (clefs_ok _).mono ?_
  rintro e w2 ⟨b, rfl, ht, hb⟩
  have B2 := Lib.hid (B1.out.up hb)
  have C2 := Lib.hid (C1.out.below hb)
  have T2 := Lib.hid ht
  clear hb ht B1 C1
  go_wp2_with fail
  go_loopg [5, 7] 9 (fun gm W i wr => ∃ k : Nat, k ≤ 9 ∧ gm = 9 - k ∧ i = .int .i64 (k : Int) ∧ W = .int .i64 0 ∧ Hid (Bel w2 wr))
  case atStart => exact ⟨0, by omega, by omega, rfl, rfl, Lib.hid (Bel.refl w2)⟩
  case round =>
    obtain ⟨k, hk, rfl, rfl, rfl, HB⟩ := hrel
    by_cases hlt : k < 9
    · have hcl : Cl ((k : Int) + 1) := ⟨by omega, by omega⟩
      have r0 := (((T2.out.up HB.out.out).row hcl).r0)
      have e9 : ((k : Int) + 1).toNat - 1 = k := by omega
      rw [e9] at r0
      clear hcl e9
      have hcast : ((k + 1 : Nat) : Int) = (k : Int) + 1 := by omega
      by_cases he : namB ((k : Int) + 1) = N
      · have hit := Lib.hid (HX.out (k + 1) (by omega) (by omega) (by rw [hcast]; exact he))
        have := hit.out
        omega
      · have hn := Lib.hid he
        have hq := beq_no he
        clear he hcast
        generalize namB ((k : Int) + 1) = NB at hq r0
        go_wp2_with fail
        go_roundg (9 - (k + 1))
        case measure => omega
        case rel => exact ⟨k + 1, by omega, rfl, by go_num, rfl, HB⟩
    · obtain rfl : k = 9 := by omega
      have B3 := Lib.hid (B2.out.up HB.out.out)
      have C3 := Lib.hid (C2.out.below HB.out.out)
      have T3 := Lib.hid (T2.out.up HB.out.out)
      clear HB B2 C2 T2 HX HY
      go_wp2_with fail
      refine (KF.out _ C3.out).mono ?_
      rintro e w4 ⟨rfl, hb⟩
      have B4 := Lib.hid (B3.out.up hb)
      have C4 := Lib.hid (C3.out.below hb)
      have T4 := Lib.hid (T3.out.up hb)
      clear hb B3 C3 T3 KF
      go_wp2_with fail
      refine (name_bad c _ HP.out C4.out).mono ?_
      rintro e w5 ⟨rfl, hb⟩
      have B5 := Lib.hid (B4.out.up hb)
      have C5 := Lib.hid (C4.out.below hb)
      have T5 := Lib.hid (T4.out.up hb)
      clear hb B4 C4 T4
      go_wp2_with fail
      refine (sign_bad c _ HP.out C5.out).mono ?_
      rintro e w6 ⟨rfl, hb⟩
      have B6 := Lib.hid (B5.out.up hb)
      have C6 := Lib.hid (C5.out.below hb)
      have T6 := Lib.hid (T5.out.up hb)
      clear hb B5 C5 T5
      go_wp2_with fail
      refine (valid_bad c _ HP.out).mono ?_
      rintro e w7 ⟨rfl, hb⟩
      have B7 := Lib.hid (B6.out.up hb)
      have C7 := Lib.hid (C6.out.below hb)
      have T7 := Lib.hid (T6.out.up hb)
      clear hb B6 C6 T6
      go_wp2_with fail
      go_ret
      exact ⟨by first | rfl | (simp; done), B7.out.out⟩
set_option maxRecDepth 100000 in
set_option maxHeartbeats 4000000 in
theorem nmLaw_lnp (c : Int) (S : ByteArray) (F : Nat) (w : World) (hz : S.size ≤ maxLen) (hs : 30 < S.size) (h : ¬ Cl c) (hF : fnd (S.extract 0 30) = F) (hp : 1 ≤ F) (hc : CW w) :
    Calls Tryd.prog 11 #[.int .i64 c, .string S] w fun e w' => e = .returned (.bool true) ∧ Below w.heap.size w w' := by
  have HP := Lib.hid h
  have B0 := Lib.hid (Bel.refl w)
  have C0 := Lib.hid hc
  unfold maxLen at hz
  clear hc
  have HZ := Lib.hid hF
  clear hF
  go_enter Tryd.func11, Tryd.ntmps11
  go_wp2_with fail
  refine (known_ok _ C0.out).mono ?_
  rintro e w1 ⟨rfl, hb⟩
  have B1 := Lib.hid (B0.out.up hb)
  have C1 := Lib.hid (C0.out.below hb)
  clear hb B0 C0
  go_wp2_with fail
  have hF := HZ.out
  obtain ⟨N, hS⟩ : ∃ N, S.extract 0 30 = N := ⟨_, rfl⟩
  rw [hS] at hF
  try rw [hS]
  clear hS HZ
  have HX := Lib.hid (fun (k : Nat) (h1 : 1 ≤ k) (h9 : k ≤ 9) (h : namB (k : Int) = N) => fnd_hit h1 h9 h)
  have HY := Lib.hid (fun (k : Nat) (h : fnd N = k) (hk : k ≠ 0) => fnd_some h hk)
  have KF := Lib.hid (fun v hv => find_any N v hv)
  simp only [hF] at HX HY KF
  have hp9 := (HY.out F rfl (by omega)).1
  have HN := Lib.hid (HY.out F rfl (by omega)).2
  rw [if_neg (by omega)] at KF
  clear hF
  refine (clefs_ok _).mono ?_
  rintro e w2 ⟨b, rfl, ht, hb⟩
  have B2 := Lib.hid (B1.out.up hb)
  have C2 := Lib.hid (C1.out.below hb)
  have T2 := Lib.hid ht
  clear hb ht B1 C1
  go_wp2_with fail
  go_loopg [5, 7] 9 (fun gm W i wr => ∃ k : Nat, k ≤ 9 ∧ gm = 9 - k ∧ i = .int .i64 (k : Int) ∧ Hid (W = .int .i64 (if F ≤ k then (F : Int) else 0)) ∧ Hid (Bel w2 wr))
  case atStart => exact ⟨0, by omega, by omega, rfl, Lib.hid (by rw [if_neg (by omega)]), Lib.hid (Bel.refl w2)⟩
  case round =>
    obtain ⟨k, hk, rfl, rfl, HW, HB⟩ := hrel
    by_cases hlt : k < 9
    · have hcl : Cl ((k : Int) + 1) := ⟨by omega, by omega⟩
      have r0 := (((T2.out.up HB.out.out).row hcl).r0)
      have e9 : ((k : Int) + 1).toNat - 1 = k := by omega
      rw [e9] at r0
      clear hcl e9
      have hcast : ((k + 1 : Nat) : Int) = (k : Int) + 1 := by omega
      by_cases he : namB ((k : Int) + 1) = N
      · have hit := Lib.hid (HX.out (k + 1) (by omega) (by omega) (by rw [hcast]; exact he))
        have hq := beq_yes he
        clear he hcast
        generalize namB ((k : Int) + 1) = NB at hq r0
        go_wp2_with fail
        go_roundg (9 - (k + 1))
        case measure => omega
        case rel => exact ⟨k + 1, by omega, rfl, by go_num, Lib.hid (by rw [hit.out, if_pos (Nat.le_refl _)]; congr 1), HB⟩
      · have hn := Lib.hid he
        have hq := beq_no he
        clear he hcast
        generalize namB ((k : Int) + 1) = NB at hq r0
        go_wp2_with fail
        go_roundg (9 - (k + 1))
        case measure => omega
        case rel => exact ⟨k + 1, by omega, rfl, by go_num, Lib.hid (by
          rw [HW.out]
          congr 1
          by_cases hh : F ≤ k
          · rw [if_pos hh, if_pos (by omega)]
          · rw [if_neg hh, if_neg (fun h => hn.out (by
              have h2 := (HY.out F rfl (by omega)).2
              rw [show (F : Int) = (k : Int) + 1 by omega] at h2
              exact h2))]), HB⟩
    · obtain rfl : k = 9 := by omega
      have hW := HW.out
      rw [if_pos hp9] at hW
      subst hW
      clear HW
      have hF0 : F ≠ 0 := by omega
      have B3 := Lib.hid (B2.out.up HB.out.out)
      have C3 := Lib.hid (C2.out.below HB.out.out)
      have T3 := Lib.hid (T2.out.up HB.out.out)
      clear HB B2 C2 T2 HX HY
      go_wp2_with fail
      refine (KF.out _ C3.out).mono ?_
      rintro e w4 ⟨rfl, hb⟩
      have B4 := Lib.hid (B3.out.up hb)
      have C4 := Lib.hid (C3.out.below hb)
      have T4 := Lib.hid (T3.out.up hb)
      clear hb B3 C3 T3 KF
      go_wp2_with fail
      refine (name_bad c _ HP.out C4.out).mono ?_
      rintro e w5 ⟨rfl, hb⟩
      have B5 := Lib.hid (B4.out.up hb)
      have C5 := Lib.hid (C4.out.below hb)
      have T5 := Lib.hid (T4.out.up hb)
      clear hb B4 C4 T4
      go_wp2_with fail
      refine (sign_bad c _ HP.out C5.out).mono ?_
      rintro e w6 ⟨rfl, hb⟩
      have B6 := Lib.hid (B5.out.up hb)
      have C6 := Lib.hid (C5.out.below hb)
      have T6 := Lib.hid (T5.out.up hb)
      clear hb B5 C5 T5
      go_wp2_with fail
      refine (valid_bad c _ HP.out).mono ?_
      rintro e w7 ⟨rfl, hb⟩
      have B7 := Lib.hid (B6.out.up hb)
      have C7 := Lib.hid (C6.out.below hb)
      have T7 := Lib.hid (T6.out.up hb)
      clear hb B6 C6 T6
      go_wp2_with fail
      go_ret
      exact ⟨by first | rfl | (simp; done), B7.out.out⟩
theorem law_ClefNames (c : Int) (S : ByteArray) (w : World) (hz : S.size ≤ maxLen) (hc : CW w) : Calls Tryd.prog 11 #[.int .i64 c, .string S] w fun e w' => e = .returned (.bool true) ∧ Below w.heap.size w w' := by
  by_cases hs : S.size ≤ 30
  · by_cases h : Cl c
    · by_cases hp : fnd S = 0
      · exact nmLaw_syz c S _ w hz hs h rfl hp hc
      · exact nmLaw_syp c S _ w hz hs h rfl (by omega) hc
    · by_cases hp : fnd S = 0
      · exact nmLaw_snz c S _ w hz hs h rfl hp hc
      · exact nmLaw_snp c S _ w hz hs h rfl (by omega) hc
  · by_cases h : Cl c
    · by_cases hp : fnd (S.extract 0 30) = 0
      · exact nmLaw_lyz c S _ w hz (by omega) h rfl hp hc
      · exact nmLaw_lyp c S _ w hz (by omega) h rfl (by omega) hc
    · by_cases hp : fnd (S.extract 0 30) = 0
      · exact nmLaw_lnz c S _ w hz (by omega) h rfl hp hc
      · exact nmLaw_lnp c S _ w hz (by omega) h rfl (by omega) hc
end Go.Proofs.YtmdnlnjapkcanaaDoor
