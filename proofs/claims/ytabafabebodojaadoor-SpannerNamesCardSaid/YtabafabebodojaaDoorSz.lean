/- Spans: law Names. -/
import Derived.Test.YtabafabebodojaaDoorSza
import Derived.Test.YtabafabebodojaaDoorSq
namespace Go.Proofs.YtabafabebodojaaDoor
open Go.RowKit
set_option linter.unusedVariables false
set_option linter.unusedSimpArgs false

set_option maxRecDepth 100000 in
set_option maxHeartbeats 4000000 in
theorem nmLaw_lyz (j : Nat) (S : ByteArray) (F : Nat) (w : World) (hz : S.size ≤ maxLen) (hv : j < 7) (hF : nfd (S.extract 0 (min (S.size : Int) 30).toNat) = F) (hp : F = 0) (hc : KT w) :
    Calls Tryd.prog 11 #[.int .i64 ((j : Int) + 1), .string S] w fun e w' => e = .returned (.bool true) ∧ Below w.heap.size w w' := by
  have B0 := Lib.hid (Bel.refl w)
  have K0 := Lib.hid hc
  unfold maxLen at hz
  subst hp
  have HZ := Lib.hid hF
  have HV := Lib.hid hv
  clear hc hF
  have v0 : decide ((1 : Int) ≤ (j : Int) + 1) = true := decide_eq_true (by omega)
  have v1 : decide ((j : Int) + 1 ≤ 7) = true := decide_eq_true (by omega)
  have K0w := K0
  go_enter Tryd.func11, Tryd.ntmps11
  go_wp2_with fail
  have hF := HZ.out
  clear HZ
  generalize S.extract 0 (min (S.size : Int) 30).toNat = N at *
  have HF := Lib.hid hF
  clear hF
  refine (rnames_ok _).mono ?_
  rintro e w1 ⟨b, rfl, hb, hcs⟩
  have B1 := Lib.hid (B0.out.up hb)
  have K1 := Lib.hid (K0.out.below hb)
  have hc := hcs j HV.out
  clear hcs
  clear hb B0 K0
  go_wp2_with fail
  clear hc
  refine (parse_at N 0 32 HF.out (by rw [if_pos (by omega)]) _ K1.out).mono ?_
  rintro e w2 ⟨rfl, hb⟩
  have B2 := Lib.hid (B1.out.up hb)
  have K2 := Lib.hid (K1.out.below hb)
  clear hb B1 K1
  go_wp2_with fail
  go_loopg [8, 9] 7 (fun gm W i wr => ∃ k : Nat, k ≤ 7 ∧ gm = 7 - k ∧ i = .int .i64 (k : Int) ∧ W = .int .i64 0 ∧ Hid (Bel w wr))
  case atStart => exact ⟨0, by omega, by omega, rfl, rfl, B2⟩
  case round =>
    obtain ⟨q, hq, rfl, rfl, rfl, HB⟩ := hrel
    by_cases hlt : q < 7
    · go_wp2_with fail
      refine (rnames_ok _).mono ?_
      rintro e w9 ⟨b9, rfl, hb, hcs⟩
      have H9 := Lib.hid (HB.out.up hb)
      have hc := hcs q hlt
      clear hb hcs HB
      by_cases he : ntx q = N
      · exact absurd (nfd_at hlt he) (by rw [HF.out]; omega)
      · have hx := beq_no he
        have HH := Lib.hid he
        clear he
        go_wp2_with fail
        go_roundg (7 - (q + 1))
        case measure => omega
        case rel => exact ⟨q + 1, by omega, rfl, by go_num, rfl, H9⟩
    · obtain rfl : q = 7 := by omega
      have K8 := Lib.hid (K0w.out.below HB.out.out)
      go_wp2_with fail
      refine (known_ok _ K8.out).mono ?_
      rintro e w9 ⟨rfl, hb⟩
      have H9 := Lib.hid (HB.out.up hb)
      have K9 := Lib.hid (K8.out.below hb)
      clear hb HB K8
      go_wp2_with fail
      refine (name_y j HV.out _ K9.out).mono ?_
      rintro e w10 ⟨rfl, hb⟩
      have H10 := Lib.hid (H9.out.up hb)
      clear hb H9
      go_wp2_with fail
      go_ret
      exact ⟨by first | rfl | (simp; done) | (simp; omega), H10.out.out⟩
set_option maxRecDepth 100000 in
set_option maxHeartbeats 4000000 in
theorem nmLaw_lyp (j : Nat) (S : ByteArray) (F : Nat) (w : World) (hz : S.size ≤ maxLen) (hv : j < 7) (hF : nfd (S.extract 0 (min (S.size : Int) 30).toNat) = F) (hp : 1 ≤ F) (hc : KT w) :
    Calls Tryd.prog 11 #[.int .i64 ((j : Int) + 1), .string S] w fun e w' => e = .returned (.bool true) ∧ Below w.heap.size w w' := by
  have B0 := Lib.hid (Bel.refl w)
  have K0 := Lib.hid hc
  unfold maxLen at hz
  have HZ := Lib.hid hF
  have HV := Lib.hid hv
  clear hc hF
  have v0 : decide ((1 : Int) ≤ (j : Int) + 1) = true := decide_eq_true (by omega)
  have v1 : decide ((j : Int) + 1 ≤ 7) = true := decide_eq_true (by omega)
  have K0w := K0
  go_enter Tryd.func11, Tryd.ntmps11
  go_wp2_with fail
  have hF := HZ.out
  clear HZ
  generalize S.extract 0 (min (S.size : Int) 30).toNat = N at *
  have HF := Lib.hid hF
  clear hF
  refine (rnames_ok _).mono ?_
  rintro e w1 ⟨b, rfl, hb, hcs⟩
  have B1 := Lib.hid (B0.out.up hb)
  have K1 := Lib.hid (K0.out.below hb)
  have hc := hcs j HV.out
  clear hcs
  clear hb B0 K0
  go_wp2_with fail
  clear hc
  refine (parse_at N F 0 HF.out (by rw [if_neg (by omega)]) _ K1.out).mono ?_
  rintro e w2 ⟨rfl, hb⟩
  have B2 := Lib.hid (B1.out.up hb)
  have K2 := Lib.hid (K1.out.below hb)
  clear hb B1 K1
  go_wp2_with fail
  go_loopg [8, 9] 7 (fun gm W i wr => ∃ k : Nat, k ≤ 7 ∧ gm = 7 - k ∧ i = .int .i64 (k : Int) ∧ Hid (W = .int .i64 (if F ≤ k then (F : Int) else 0)) ∧ Hid (Bel w wr))
  case atStart => exact ⟨0, by omega, by omega, rfl, Lib.hid (by rw [if_neg (by omega)]), B2⟩
  case round =>
    obtain ⟨q, hq, rfl, rfl, HW, HB⟩ := hrel
    by_cases hlt : q < 7
    · go_wp2_with fail
      refine (rnames_ok _).mono ?_
      rintro e w9 ⟨b9, rfl, hb, hcs⟩
      have H9 := Lib.hid (HB.out.up hb)
      have hc := hcs q hlt
      clear hb hcs HB
      by_cases he : ntx q = N
      · have hit : F = q + 1 := by rw [← HF.out, nfd_at hlt he]
        have HT := Lib.hid hit
        have hx := beq_yes he
        clear he hit
        generalize ntx q = NB at *
        go_wp2_with fail
        go_roundg (7 - (q + 1))
        case measure => omega
        case rel => exact ⟨q + 1, by omega, rfl, by go_num, Lib.hid (by rw [HT.out, if_pos (Nat.le_refl _)]; congr 1), H9⟩
      · have hx := beq_no he
        have HH := Lib.hid he
        clear he
        go_wp2_with fail
        go_roundg (7 - (q + 1))
        case measure => omega
        case rel => exact ⟨q + 1, by omega, rfl, by go_num, Lib.hid (by
            rw [HW.out]
            congr 1
            by_cases hh : F ≤ q
            · rw [if_pos hh, if_pos (by omega)]
            · rw [if_neg hh, if_neg (fun h => HH.out (by
                have h2 := (nfd_some HF.out (by omega)).2
                rw [show F - 1 = q by omega] at h2
                exact h2))]), H9⟩
    · obtain rfl : q = 7 := by omega
      have hF7 := (nfd_some HF.out (by omega)).1
      have hW := HW.out
      rw [if_pos hF7] at hW
      subst hW
      have p0 : decide ((0 : Int) < (F : Int)) = true := decide_eq_true (by omega)
      have p1 : decide (0 < F) = true := decide_eq_true (by omega)
      clear HW
      have K8 := Lib.hid (K0w.out.below HB.out.out)
      go_wp2_with fail
      refine (known_ok _ K8.out).mono ?_
      rintro e w9 ⟨rfl, hb⟩
      have H9 := Lib.hid (HB.out.up hb)
      have K9 := Lib.hid (K8.out.below hb)
      clear hb HB K8
      go_wp2_with fail
      refine (name_y j HV.out _ K9.out).mono ?_
      rintro e w10 ⟨rfl, hb⟩
      have H10 := Lib.hid (H9.out.up hb)
      clear hb H9
      go_wp2_with fail
      go_ret
      exact ⟨by first | rfl | (simp; done) | (simp; omega), H10.out.out⟩
set_option maxRecDepth 100000 in
set_option maxHeartbeats 4000000 in
theorem nmLaw_lnz (k : Int) (S : ByteArray) (F : Nat) (w : World) (hz : S.size ≤ maxLen) (hv : isK k = false) (hF : nfd (S.extract 0 (min (S.size : Int) 30).toNat) = F) (hp : F = 0) (hc : KT w) :
    Calls Tryd.prog 11 #[.int .i64 k, .string S] w fun e w' => e = .returned (.bool true) ∧ Below w.heap.size w w' := by
  have B0 := Lib.hid (Bel.refl w)
  have K0 := Lib.hid hc
  unfold maxLen at hz
  subst hp
  have HZ := Lib.hid hF
  have HV := Lib.hid hv
  clear hc hF
  have hb : ¬ (1 ≤ k ∧ k ≤ 7) := fun h => by
    have := HV.out
    unfold isK at this
    rw [decide_eq_true h.1, decide_eq_true h.2] at this
    cases this
  clear hv
  by_cases hk1 : 1 ≤ k
  all_goals
   have hk7 : 7 < k ∨ k < 1 := by omega
   rcases hk7 with hk7 | hk7
   all_goals try (exfalso; omega)
  all_goals clear hb
  all_goals
   first
    | have v0 : decide ((1 : Int) ≤ k) = false := decide_eq_false (by omega)
    | (have v0 : decide ((1 : Int) ≤ k) = true := decide_eq_true (by omega)
       have v1 : decide (k ≤ 7) = false := decide_eq_false (by omega))
   have K0w := K0
   go_enter Tryd.func11, Tryd.ntmps11
   go_wp2_with fail
   have hF := HZ.out
   clear HZ
   generalize S.extract 0 (min (S.size : Int) 30).toNat = N at *
   have HF := Lib.hid hF
   clear hF
   refine (parse_at N 0 32 HF.out (by rw [if_pos (by omega)]) _ K0.out).mono ?_
   rintro e w1 ⟨rfl, hb⟩
   have B1 := Lib.hid (B0.out.up hb)
   have K1 := Lib.hid (K0.out.below hb)
   clear hb B0 K0
   go_wp2_with fail
   go_loopg [8, 9] 7 (fun gm W i wr => ∃ k : Nat, k ≤ 7 ∧ gm = 7 - k ∧ i = .int .i64 (k : Int) ∧ W = .int .i64 0 ∧ Hid (Bel w wr))
   case atStart => exact ⟨0, by omega, by omega, rfl, rfl, B1⟩
   case round =>
     obtain ⟨q, hq, rfl, rfl, rfl, HB⟩ := hrel
     by_cases hlt : q < 7
     · go_wp2_with fail
       refine (rnames_ok _).mono ?_
       rintro e w9 ⟨b9, rfl, hb, hcs⟩
       have H9 := Lib.hid (HB.out.up hb)
       have hc := hcs q hlt
       clear hb hcs HB
       by_cases he : ntx q = N
       · exact absurd (nfd_at hlt he) (by rw [HF.out]; omega)
       · have hx := beq_no he
         have HH := Lib.hid he
         clear he
         go_wp2_with fail
         go_roundg (7 - (q + 1))
         case measure => omega
         case rel => exact ⟨q + 1, by omega, rfl, by go_num, rfl, H9⟩
     · obtain rfl : q = 7 := by omega
       have K8 := Lib.hid (K0w.out.below HB.out.out)
       go_wp2_with fail
       refine (known_ok _ K8.out).mono ?_
       rintro e w9 ⟨rfl, hb⟩
       have H9 := Lib.hid (HB.out.up hb)
       have K9 := Lib.hid (K8.out.below hb)
       clear hb HB K8
       go_wp2_with fail
       refine (name_n k HV.out _).mono ?_
       rintro e w10 ⟨rfl, hb⟩
       have H10 := Lib.hid (H9.out.up hb)
       clear hb H9
       go_wp2_with fail
       go_ret
       exact ⟨by first | rfl | (simp; done) | (simp; omega), H10.out.out⟩
set_option maxRecDepth 100000 in
set_option maxHeartbeats 4000000 in
theorem nmLaw_lnp (k : Int) (S : ByteArray) (F : Nat) (w : World) (hz : S.size ≤ maxLen) (hv : isK k = false) (hF : nfd (S.extract 0 (min (S.size : Int) 30).toNat) = F) (hp : 1 ≤ F) (hc : KT w) :
    Calls Tryd.prog 11 #[.int .i64 k, .string S] w fun e w' => e = .returned (.bool true) ∧ Below w.heap.size w w' := by
  have B0 := Lib.hid (Bel.refl w)
  have K0 := Lib.hid hc
  unfold maxLen at hz
  have HZ := Lib.hid hF
  have HV := Lib.hid hv
  clear hc hF
  have hb : ¬ (1 ≤ k ∧ k ≤ 7) := fun h => by
    have := HV.out
    unfold isK at this
    rw [decide_eq_true h.1, decide_eq_true h.2] at this
    cases this
  clear hv
  by_cases hk1 : 1 ≤ k
  all_goals
   have hk7 : 7 < k ∨ k < 1 := by omega
   rcases hk7 with hk7 | hk7
   all_goals try (exfalso; omega)
  all_goals clear hb
  all_goals
   first
    | have v0 : decide ((1 : Int) ≤ k) = false := decide_eq_false (by omega)
    | (have v0 : decide ((1 : Int) ≤ k) = true := decide_eq_true (by omega)
       have v1 : decide (k ≤ 7) = false := decide_eq_false (by omega))
   have K0w := K0
   go_enter Tryd.func11, Tryd.ntmps11
   go_wp2_with fail
   have hF := HZ.out
   clear HZ
   generalize S.extract 0 (min (S.size : Int) 30).toNat = N at *
   have HF := Lib.hid hF
   clear hF
   refine (parse_at N F 0 HF.out (by rw [if_neg (by omega)]) _ K0.out).mono ?_
   rintro e w1 ⟨rfl, hb⟩
   have B1 := Lib.hid (B0.out.up hb)
   have K1 := Lib.hid (K0.out.below hb)
   clear hb B0 K0
   go_wp2_with fail
   go_loopg [8, 9] 7 (fun gm W i wr => ∃ k : Nat, k ≤ 7 ∧ gm = 7 - k ∧ i = .int .i64 (k : Int) ∧ Hid (W = .int .i64 (if F ≤ k then (F : Int) else 0)) ∧ Hid (Bel w wr))
   case atStart => exact ⟨0, by omega, by omega, rfl, Lib.hid (by rw [if_neg (by omega)]), B1⟩
   case round =>
     obtain ⟨q, hq, rfl, rfl, HW, HB⟩ := hrel
     by_cases hlt : q < 7
     · go_wp2_with fail
       refine (rnames_ok _).mono ?_
       rintro e w9 ⟨b9, rfl, hb, hcs⟩
       have H9 := Lib.hid (HB.out.up hb)
       have hc := hcs q hlt
       clear hb hcs HB
       by_cases he : ntx q = N
       · have hit : F = q + 1 := by rw [← HF.out, nfd_at hlt he]
         have HT := Lib.hid hit
         have hx := beq_yes he
         clear he hit
         generalize ntx q = NB at *
         go_wp2_with fail
         go_roundg (7 - (q + 1))
         case measure => omega
         case rel => exact ⟨q + 1, by omega, rfl, by go_num, Lib.hid (by rw [HT.out, if_pos (Nat.le_refl _)]; congr 1), H9⟩
       · have hx := beq_no he
         have HH := Lib.hid he
         clear he
         go_wp2_with fail
         go_roundg (7 - (q + 1))
         case measure => omega
         case rel => exact ⟨q + 1, by omega, rfl, by go_num, Lib.hid (by
             rw [HW.out]
             congr 1
             by_cases hh : F ≤ q
             · rw [if_pos hh, if_pos (by omega)]
             · rw [if_neg hh, if_neg (fun h => HH.out (by
                 have h2 := (nfd_some HF.out (by omega)).2
                 rw [show F - 1 = q by omega] at h2
                 exact h2))]), H9⟩
     · obtain rfl : q = 7 := by omega
       have hF7 := (nfd_some HF.out (by omega)).1
       have hW := HW.out
       rw [if_pos hF7] at hW
       subst hW
       have p0 : decide ((0 : Int) < (F : Int)) = true := decide_eq_true (by omega)
       have p1 : decide (0 < F) = true := decide_eq_true (by omega)
       clear HW
       have K8 := Lib.hid (K0w.out.below HB.out.out)
       go_wp2_with fail
       refine (known_ok _ K8.out).mono ?_
       rintro e w9 ⟨rfl, hb⟩
       have H9 := Lib.hid (HB.out.up hb)
       have K9 := Lib.hid (K8.out.below hb)
       clear hb HB K8
       go_wp2_with fail
       refine (name_n k HV.out _).mono ?_
       rintro e w10 ⟨rfl, hb⟩
       have H10 := Lib.hid (H9.out.up hb)
       clear hb H9
       go_wp2_with fail
       go_ret
       exact ⟨by first | rfl | (simp; done) | (simp; omega), H10.out.out⟩
theorem law_SpannerNames (n : Int) (S : ByteArray) (w : World) (n0 : -9223372036854775808 ≤ n) (n1 : n ≤ 9223372036854775807) (hz : S.size ≤ maxLen) (hc : KT w) :
    Calls Tryd.prog 11 #[.int .i64 n, .string S] w fun e w' => e = .returned (.bool true) ∧ Below w.heap.size w w' := by
  by_cases hv : 1 ≤ n ∧ n ≤ 7
  · obtain ⟨j, rfl⟩ : ∃ j : Nat, n = (j : Int) + 1 := ⟨(n - 1).toNat, by omega⟩
    have hj : j < 7 := by omega
    by_cases hp : nfd (S.extract 0 (min (S.size : Int) 30).toNat) = 0
    · exact nmLaw_lyz j S _ w hz hj rfl hp hc
    · exact nmLaw_lyp j S _ w hz hj rfl (by omega) hc
  · have hk : isK n = false := by
      unfold isK
      by_cases h1 : 1 ≤ n
      · rw [decide_eq_false (show ¬ n ≤ 7 by omega)]; simp
      · rw [decide_eq_false h1]; rfl
    by_cases hp : nfd (S.extract 0 (min (S.size : Int) 30).toNat) = 0
    · exact nmLaw_lnz n S _ w hz hk rfl hp hc
    · exact nmLaw_lnp n S _ w hz hk rfl (by omega) hc
end Go.Proofs.YtabafabebodojaaDoor
