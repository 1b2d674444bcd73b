/- Clefs: the reference's Signature. -/
import Derived.Test.YtmdnlnjapkcanaaDoorCn
namespace Go.Proofs.YtmdnlnjapkcanaaDoor
open Go.RowKit
set_option linter.unusedVariables false
set_option linter.unusedSimpArgs false

theorem hit {z m x j : Int} (z0 : -5 ≤ z) (z1 : z ≤ -1) (m0 : 15 ≤ m) (x0 : 0 ≤ x) (x1 : x ≤ 6) (j0 : 0 ≤ j) (j1 : j ≤ 6) :
    ((z + j + m) % 7 == x) = decide (j = (x - (z + m)) % 7) := by
  by_cases e : j = (x - (z + m)) % 7
  · rw [decide_eq_true e]
    simp
    omega
  · rw [decide_eq_false e]
    simp
    omega
set_option maxRecDepth 100000 in
set_option maxHeartbeats 4000000 in
theorem rsgn_pos (c f : Int) (w : World) (h : Cl c) (k : Sg f) (hf : 0 ≤ f) :
    Calls Tryd.prog 25 #[.int .i64 c, .int .i64 f] w fun e w' => ∃ v, e = .returned v ∧ w'.ownsRow w.heap.size 3 1 v (sgnL c f).length (ints (sgnL c f)) ∧ Below w.heap.size w w' := by
  obtain ⟨i0, hi, hz0, hz1, hz2⟩ := info_parts infoI
  have HP := Lib.hid h
  have HQ := Lib.hid k
  obtain ⟨c0, c1⟩ := id h
  obtain ⟨m0, m1⟩ := mid_bd c
  obtain ⟨a0, a1⟩ := sha_bd c
  obtain ⟨b0, b1⟩ := fla_bd c
  have HK := Lib.hid (fun v => steps_ok f v k)
  have hl7 := sigL_len k
  have HB := Lib.hid (fun x => sigL_mem (f := f) (x := x))
  have HT := Lib.hid (show ∀ (j : Nat) (x : Int), (sigL f)[j]? = some x → (sgnL c f)[j]? = some (shaI c + (x - (shaI c + midI c)) % 7) from fun j x hx => by
    unfold sgnL sgnA lowI
    rw [List.getElem?_map, hx]
    simp only [Option.map_some]
    rw [if_neg (by omega)])
  have hlen : (sgnL c f).length = (sigL f).length := by simp [sgnL]
  have HR := Lib.hid (fun (w : World) (b : Nat) (ht : Tab w b) => ht.row h)
  have HR := Lib.hid (fun (w : World) (b : Nat) (ht : Tab w b) => let r := HR.out w b ht; (⟨r.r0, r.r1, r.r2, r.r3, r.r4, r.r5, r.r6⟩ : _ ∧ _ ∧ _ ∧ _ ∧ _ ∧ _ ∧ _))
  generalize namB c = NM at *
  generalize ltrI c = LT at *
  generalize linI c = LI at *
  generalize octI c = OC at *
  generalize sgnL c f = S at *
  generalize sigL f = L at *
  generalize midI c = M at *
  generalize shaI c = ZS at *
  generalize flaI c = ZF at *
  have hc9 : c.toNat - 1 < 9 := by omega
  go_enter Tryd.func25, Tryd.ntmps25
  go_wp2_with fail
  refine (clefs_ok _).mono ?_
  rintro e w1 ⟨b, rfl, ht, hb⟩
  have B1 := Lib.hid ((Bel.up (Bel.refl w) hb).alloc (.cells #[.string NM, .int .u8 LT, .int .i64 LI, .int .i64 OC, .int .i64 M, .int .i64 ZS, .int .i64 ZF] 55))
  obtain ⟨q0, q1, q2, q3, q4, q5, q6⟩ := HR.out w1 b ht
  have S1 := Lib.hid (tab_new w1 #[.string NM, .int .u8 LT, .int .i64 LI, .int .i64 OC, .int .i64 M, .int .i64 ZS, .int .i64 ZF] 55 _ rfl 4 _ rfl)
  clear ht hb
  go_wp2_with fail
  refine (HK.out _).mono ?_
  rintro e w3 ⟨v3, rfl, hown, hb⟩
  obtain ⟨ad, cap, rfl, hrow⟩ := row1_own hown
  have G3 := Lib.hid (show OptRow w3 ad L from hrow)
  have S3 := Lib.hid (cell_up hb S1.out)
  have B3 := Lib.hid (B1.out.up hb)
  have A3 := Lib.hid (show RS w3 w3 (.slice none 0 0) (S.take 0) from ⟨Bel.refl w3, World.ownsRow_nil _ _ _ _⟩)
  clear hb hown hrow S1 B1 q0 q1 q2 q3 q4 q5 q6
  have hsz : w.heap.size ≤ w3.heap.size := B3.out.size
  generalize w1.heap.size = gc at *
  go_wp2_with fail
  go_loopg [8, 9] L.length (fun gm out i wr => ∃ k : Nat, k ≤ L.length ∧ gm = L.length - k ∧ i = .int .i64 (k : Int) ∧ Hid (RS w3 wr out (S.take k)))
  case atStart => exact ⟨0, by omega, by omega, rfl, A3⟩
  case round =>
    obtain ⟨k, hk, rfl, rfl, HS⟩ := hrel
    clear A3
    by_cases hlt : k < L.length
    · obtain ⟨g, rfl, hg⟩ := G3.out (by rintro rfl; simp at hlt)
      obtain ⟨x, hx⟩ : ∃ x, L[k]? = some x := ⟨_, List.getElem?_eq_getElem hlt⟩
      obtain ⟨x0, x1⟩ := HB.out x (List.mem_of_getElem? hx)
      have HX := Lib.hid (HT.out k x hx)
      have HG := Lib.hid (show Row1 w3 g L from hg)
      have e0 : 0 ≤ (x - (ZS + M)) % 7 := by omega
      have e1 : (x - (ZS + M)) % 7 ≤ 6 := by omega
      have HH := Lib.hid (fun (j : Int) (j0 : 0 ≤ j) (j1 : j ≤ 6) => hit (z := ZS) (m := M) (x := x) (j := j) (by omega) (by omega) (by omega) x0 x1 j0 j1)
      have HXk := Lib.hid hx
      clear hx hg
      obtain ⟨E, hE⟩ : ∃ E, (x - (ZS + M)) % 7 = E := ⟨_, rfl⟩
      rw [hE] at HX e0 e1
      simp only [hE] at HH
      clear hE
      have HS9 := Lib.hid (show S.take (k + 1) = S.take k ++ [ZS + E] by rw [List.take_add_one, HX.out]; rfl)
      have hlS := Lib.hid (show (S.take k).length ≤ 7 by simp; omega)
      go_wp2_with fail
      go_loopg [8, 10] 7 (fun gm out p wi => ∃ j : Int, 0 ≤ j ∧ j ≤ 7 ∧ gm = (7 - j).toNat ∧ p = .int .i64 (ZS + j) ∧ Hid (RS w3 wi out (if E < j then S.take k ++ [ZS + E] else S.take k)))
      case atStart => exact ⟨0, by omega, by omega, by omega, by simp, Lib.hid (by rw [if_neg (by omega)]; exact HS.out)⟩
      case round =>
        obtain ⟨j, j0, j7, rfl, rfl, HI⟩ := hrel
        clear HS
        by_cases h6 : j ≤ 6
        · have q8 := (HG.out.up HI.out.bel.out) k x HXk.out
          have q9 := cell_up HI.out.bel.out S3.out
          have hd := HH.out j j0 h6
          have hj7 : ZS + j < ZS + 7 := by omega
          have HD := Lib.hid (fun n => HI.out.up (below_drewN (Below.refl _ _) n))
          have hsz2 : w3.heap.size ≤ wr.heap.size := HI.out.bel.size
          by_cases he : j = E
          · rw [decide_eq_true he] at hd
            have HE := Lib.hid he
            have HI := Lib.hid (show RS w3 wr _ (S.take k) from by have := HI.out; rwa [if_neg (by omega)] at this)
            clear he
            have hl := hlS
            have HD := Lib.hid (fun n => HI.out.up (below_drewN (Below.refl _ _) n))
            go_wp2_with fail
            go_quiet (fail)
            go_wp2_with (first | (at_builtin; refine wpList_append_own _ rfl _ _ 41 rfl w3.heap.size 3 i0 (.int .i64 0) 1 8 Tryd.underlying41 hi hz0 hz1 hz2 rfl (by decide) _ _ _ rfl ((HD.out _).own.alloc _) ⟨_, 0, none⟩ 1 1 [.int .i64 (ZS + j)] rfl rfl (cell1_new _ _ _ _ rfl) (by simp [Value.oneCell']) (by have := hl.out; unfold maxLen; omega) (by have := hl.out; omega) (by simp; omega) ?_; intro v' w2 hown' hgrow _))
            go_roundg (7 - (j + 1)).toNat
            case measure => omega
            case rel =>
              refine ⟨j + 1, by omega, by omega, rfl, by go_num, Lib.hid ⟨Below.grown ((HD.out _).bel.alloc _) hgrow (by simp; omega) (fun r hr => (HI.out.own.lt r hr).1), ?_⟩⟩
              rw [if_pos (by have := HE.out; omega), List.length_append, ints_snoc, ← HE.out]
              exact hown'
          · rw [decide_eq_false he] at hd
            have hn : (E < j + 1) = (E < j) := by apply propext; omega
            go_wp2_with fail
            go_quiet (fail)
            go_wp2_with fail
            go_roundg (7 - (j + 1)).toNat
            case measure => omega
            case rel => exact ⟨j + 1, by omega, by omega, rfl, by go_num, Lib.hid (by simp only [hn]; first | exact HI.out | exact HD.out _)⟩
        · obtain rfl : j = 7 := by omega
          go_wp2_with fail
          go_roundg (L.length - (k + 1))
          case measure => omega
          case rel => exact ⟨k + 1, by omega, rfl, by go_num, Lib.hid (by rw [HS9.out]; have := HI.out; rwa [if_pos (by omega)] at this)⟩
    · obtain rfl : k = L.length := by omega
      go_wp2_with fail
      go_ret
      refine ⟨_, rfl, ?_, B3.out.out.trans (HS.out.bel.out.mono hsz)⟩
      have := HS.out.own
      rw [← hlen, List.take_length] at this
      exact own_mono this hsz
set_option maxRecDepth 100000 in
set_option maxHeartbeats 4000000 in
theorem rsgn_neg (c f : Int) (w : World) (h : Cl c) (k : Sg f) (hf : f < 0) :
    Calls Tryd.prog 25 #[.int .i64 c, .int .i64 f] w fun e w' => ∃ v, e = .returned v ∧ w'.ownsRow w.heap.size 3 1 v (sgnL c f).length (ints (sgnL c f)) ∧ Below w.heap.size w w' := by
  obtain ⟨i0, hi, hz0, hz1, hz2⟩ := info_parts infoI
  have HP := Lib.hid h
  have HQ := Lib.hid k
  obtain ⟨c0, c1⟩ := id h
  obtain ⟨m0, m1⟩ := mid_bd c
  obtain ⟨a0, a1⟩ := sha_bd c
  obtain ⟨b0, b1⟩ := fla_bd c
  have HK := Lib.hid (fun v => steps_ok f v k)
  have hl7 := sigL_len k
  have HB := Lib.hid (fun x => sigL_mem (f := f) (x := x))
  have HT := Lib.hid (show ∀ (j : Nat) (x : Int), (sigL f)[j]? = some x → (sgnL c f)[j]? = some (flaI c + (x - (flaI c + midI c)) % 7) from fun j x hx => by
    unfold sgnL sgnA lowI
    rw [List.getElem?_map, hx]
    simp only [Option.map_some]
    rw [if_pos hf])
  have hlen : (sgnL c f).length = (sigL f).length := by simp [sgnL]
  have HR := Lib.hid (fun (w : World) (b : Nat) (ht : Tab w b) => ht.row h)
  have HR := Lib.hid (fun (w : World) (b : Nat) (ht : Tab w b) => let r := HR.out w b ht; (⟨r.r0, r.r1, r.r2, r.r3, r.r4, r.r5, r.r6⟩ : _ ∧ _ ∧ _ ∧ _ ∧ _ ∧ _ ∧ _))
  generalize namB c = NM at *
  generalize ltrI c = LT at *
  generalize linI c = LI at *
  generalize octI c = OC at *
  generalize sgnL c f = S at *
  generalize sigL f = L at *
  generalize midI c = M at *
  generalize shaI c = ZS at *
  generalize flaI c = ZF at *
  have hc9 : c.toNat - 1 < 9 := by omega
  go_enter Tryd.func25, Tryd.ntmps25
  go_wp2_with fail
  refine (clefs_ok _).mono ?_
  rintro e w1 ⟨b, rfl, ht, hb⟩
  have B1 := Lib.hid ((Bel.up (Bel.refl w) hb).alloc (.cells #[.string NM, .int .u8 LT, .int .i64 LI, .int .i64 OC, .int .i64 M, .int .i64 ZS, .int .i64 ZF] 55))
  obtain ⟨q0, q1, q2, q3, q4, q5, q6⟩ := HR.out w1 b ht
  have S1 := Lib.hid (tab_new w1 #[.string NM, .int .u8 LT, .int .i64 LI, .int .i64 OC, .int .i64 M, .int .i64 ZS, .int .i64 ZF] 55 _ rfl 4 _ rfl)
  clear ht hb
  go_wp2_with fail
  refine (HK.out _).mono ?_
  rintro e w3 ⟨v3, rfl, hown, hb⟩
  obtain ⟨ad, cap, rfl, hrow⟩ := row1_own hown
  have G3 := Lib.hid (show OptRow w3 ad L from hrow)
  have S3 := Lib.hid (cell_up hb S1.out)
  have B3 := Lib.hid (B1.out.up hb)
  have A3 := Lib.hid (show RS w3 w3 (.slice none 0 0) (S.take 0) from ⟨Bel.refl w3, World.ownsRow_nil _ _ _ _⟩)
  clear hb hown hrow S1 B1 q0 q1 q2 q3 q4 q5 q6
  have hsz : w.heap.size ≤ w3.heap.size := B3.out.size
  generalize w1.heap.size = gc at *
  go_wp2_with fail
  go_loopg [8, 9] L.length (fun gm out i wr => ∃ k : Nat, k ≤ L.length ∧ gm = L.length - k ∧ i = .int .i64 (k : Int) ∧ Hid (RS w3 wr out (S.take k)))
  case atStart => exact ⟨0, by omega, by omega, rfl, A3⟩
  case round =>
    obtain ⟨k, hk, rfl, rfl, HS⟩ := hrel
    clear A3
    by_cases hlt : k < L.length
    · obtain ⟨g, rfl, hg⟩ := G3.out (by rintro rfl; simp at hlt)
      obtain ⟨x, hx⟩ : ∃ x, L[k]? = some x := ⟨_, List.getElem?_eq_getElem hlt⟩
      obtain ⟨x0, x1⟩ := HB.out x (List.mem_of_getElem? hx)
      have HX := Lib.hid (HT.out k x hx)
      have HG := Lib.hid (show Row1 w3 g L from hg)
      have e0 : 0 ≤ (x - (ZF + M)) % 7 := by omega
      have e1 : (x - (ZF + M)) % 7 ≤ 6 := by omega
      have HH := Lib.hid (fun (j : Int) (j0 : 0 ≤ j) (j1 : j ≤ 6) => hit (z := ZF) (m := M) (x := x) (j := j) (by omega) (by omega) (by omega) x0 x1 j0 j1)
      have HXk := Lib.hid hx
      clear hx hg
      obtain ⟨E, hE⟩ : ∃ E, (x - (ZF + M)) % 7 = E := ⟨_, rfl⟩
      rw [hE] at HX e0 e1
      simp only [hE] at HH
      clear hE
      have HS9 := Lib.hid (show S.take (k + 1) = S.take k ++ [ZF + E] by rw [List.take_add_one, HX.out]; rfl)
      have hlS := Lib.hid (show (S.take k).length ≤ 7 by simp; omega)
      go_wp2_with fail
      go_loopg [8, 10] 7 (fun gm out p wi => ∃ j : Int, 0 ≤ j ∧ j ≤ 7 ∧ gm = (7 - j).toNat ∧ p = .int .i64 (ZF + j) ∧ Hid (RS w3 wi out (if E < j then S.take k ++ [ZF + E] else S.take k)))
      case atStart => exact ⟨0, by omega, by omega, by omega, by simp, Lib.hid (by rw [if_neg (by omega)]; exact HS.out)⟩
      case round =>
        obtain ⟨j, j0, j7, rfl, rfl, HI⟩ := hrel
        clear HS
        by_cases h6 : j ≤ 6
        · have q8 := (HG.out.up HI.out.bel.out) k x HXk.out
          have q9 := cell_up HI.out.bel.out S3.out
          have hd := HH.out j j0 h6
          have hj7 : ZF + j < ZF + 7 := by omega
          have HD := Lib.hid (fun n => HI.out.up (below_drewN (Below.refl _ _) n))
          have hsz2 : w3.heap.size ≤ wr.heap.size := HI.out.bel.size
          by_cases he : j = E
          · rw [decide_eq_true he] at hd
            have HE := Lib.hid he
            have HI := Lib.hid (show RS w3 wr _ (S.take k) from by have := HI.out; rwa [if_neg (by omega)] at this)
            clear he
            have hl := hlS
            have HD := Lib.hid (fun n => HI.out.up (below_drewN (Below.refl _ _) n))
            go_wp2_with fail
            go_quiet (fail)
            go_wp2_with (first | (at_builtin; refine wpList_append_own _ rfl _ _ 41 rfl w3.heap.size 3 i0 (.int .i64 0) 1 8 Tryd.underlying41 hi hz0 hz1 hz2 rfl (by decide) _ _ _ rfl ((HD.out _).own.alloc _) ⟨_, 0, none⟩ 1 1 [.int .i64 (ZF + j)] rfl rfl (cell1_new _ _ _ _ rfl) (by simp [Value.oneCell']) (by have := hl.out; unfold maxLen; omega) (by have := hl.out; omega) (by simp; omega) ?_; intro v' w2 hown' hgrow _))
            go_roundg (7 - (j + 1)).toNat
            case measure => omega
            case rel =>
              refine ⟨j + 1, by omega, by omega, rfl, by go_num, Lib.hid ⟨Below.grown ((HD.out _).bel.alloc _) hgrow (by simp; omega) (fun r hr => (HI.out.own.lt r hr).1), ?_⟩⟩
              rw [if_pos (by have := HE.out; omega), List.length_append, ints_snoc, ← HE.out]
              exact hown'
          · rw [decide_eq_false he] at hd
            have hn : (E < j + 1) = (E < j) := by apply propext; omega
            go_wp2_with fail
            go_quiet (fail)
            go_wp2_with fail
            go_roundg (7 - (j + 1)).toNat
            case measure => omega
            case rel => exact ⟨j + 1, by omega, by omega, rfl, by go_num, Lib.hid (by simp only [hn]; first | exact HI.out | exact HD.out _)⟩
        · obtain rfl : j = 7 := by omega
          go_wp2_with fail
          go_roundg (L.length - (k + 1))
          case measure => omega
          case rel => exact ⟨k + 1, by omega, rfl, by go_num, Lib.hid (by rw [HS9.out]; have := HI.out; rwa [if_pos (by omega)] at this)⟩
    · obtain rfl : k = L.length := by omega
      go_wp2_with fail
      go_ret
      refine ⟨_, rfl, ?_, B3.out.out.trans (HS.out.bel.out.mono hsz)⟩
      have := HS.out.own
      rw [← hlen, List.take_length] at this
      exact own_mono this hsz
end Go.Proofs.YtmdnlnjapkcanaaDoor
