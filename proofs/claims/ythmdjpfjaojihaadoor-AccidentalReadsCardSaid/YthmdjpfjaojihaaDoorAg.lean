/- Accidentals: display. -/
import Derived.Test.YthmdjpfjaojihaaDoorAh
namespace Go.Proofs.YthmdjpfjaojihaaDoor
open Go.RowKit
set_option linter.unusedVariables false
set_option linter.unusedSimpArgs false

set_option maxRecDepth 100000 in
set_option maxHeartbeats 8000000 in
theorem display_okN (f : Int) (L : List Nt) (ad : Option Addr) (cap : Nat) (w : World) (hf : Sg f) (hl : L.length ≤ 2560) (he : errL 0 L = 0) (hg : Good L) (h : NtAt w ad L) (hk : KT w) :
    Calls Tryd.prog 22 #[.int .i64 f, .slice ad L.length cap] w fun e w' => ∃ (g : Nat), e = .returned (.tuple #[.slice (some ⟨g, 0, none⟩) L.length L.length, .agg (arL (disF L f L.length)).toArray, .int .i64 0]) ∧ FilM w' g L.length (disM L f) ∧ w.heap.size ≤ g ∧ Below w.heap.size w w' := by
  have HA := Lib.hid h
  have HG := Lib.hid hg
  have HE := Lib.hid he
  have HK := Lib.hid hk
  have HF := Lib.hid hf
  have hz := zero77
  have hmk := make_mark L.length (by omega)
  clear h hg he hk hf
  have R0 := Lib.hid (Fil.new w 58 w.heap.size rfl)
  have B0 := Lib.hid ((Bel.refl w).alloc (.cells z77 58))
  go_enter Tryd.func22, Tryd.ntmps22
  go_wp2_with fail
  refine (sigA_ok f _ HF.out (HK.out.below B0.out.out)).mono ?_
  rintro e w1 ⟨rfl, hb⟩
  have hup : Below w1.heap.size w1 (w1.alloc (.cells z77 58)) := (Below.refl _ w1).alloc (Nat.le_refl _) _
  have R1 := Lib.hid ((R0.out.up hb).up hup)
  have B1 := Lib.hid ((B0.out.up hb).alloc (.cells z77 58))
  have F1 := Lib.hid (Fil.new w1 58 w1.heap.size rfl)
  have hr1 : w.heap.size < w1.heap.size := (R0.out.up hb).lt (by omega)
  have F2 := Lib.hid (F1.out.stored (us := frI f))
  have B2 := Lib.hid (below_setCells (Nat.le_of_lt hr1) w (arL (frI f)).toArray.toList 0 _ B1.out.out)
  have R2 := Lib.hid (Fil.asideN (L := (arL (frI f)).toArray.toList) (c := w1.heap.size) R1.out hr1)
  clear hb hup R0 B0 R1
  go_wp2_with (refine wpList_store_mid rfl 58 _ _ rfl w1.heap.size 0 (arL (frI f)).toArray rfl rfl (F1.out.there _) (by rw [size77]; simp [arL_len]) (arL_one _) ?_; generalize ((w1.alloc (.cells z77 58)).setCells w1.heap.size 0 (arL (frI f)).toArray.toList) = W2 at *)
  clear F1 B1
  generalize w1.heap.size = fb at *
  refine (checkN_ok L ad cap _ hl (HA.out.up B2.out)).mono ?_
  rw [HE.out]
  rintro e w3 ⟨rfl, hb⟩
  have hup : Below w3.heap.size w3 (w3.alloc (.cells (madeCells #[.int .i64 0, .bool false] (L.length * 2)) 43)) := (Below.refl _ w3).alloc (Nat.le_refl _) _
  have R4 := Lib.hid ((R2.out.up hb).up hup)
  have F4 := Lib.hid ((F2.out.up hb).up hup)
  have M4 := Lib.hid (filM_made w3 L.length 43 w3.heap.size rfl)
  have B4 := Lib.hid ((Bel.up B2.out hb).alloc (.cells (madeCells #[.int .i64 0, .bool false] (L.length * 2)) 43))
  have hlt3 : fb < w3.heap.size := (F2.out.up hb).lt (by omega)
  clear hb hup F2 B2 R2
  go_wp2_with fail
  generalize (w3.alloc (.cells (madeCells #[.int .i64 0, .bool false] (L.length * 2)) 43)) = W4 at *
  generalize w3.heap.size = mk at *
  refine (contra_ok L ad cap _ hl HG.out (HA.out.up B4.out.out)).mono ?_
  rintro e w5 ⟨q, vs, rfl, hq, hv, hvs, hb⟩
  have hvc : ∀ x, x < L.length → vs x = conB L x := fun x hx => by
    have := hvs x hx
    rw [← conB_iff] at this
    exact Bool.eq_iff_iff.2 this
  have V5 := Lib.hid (hv.eq hvc)
  have R5 := Lib.hid (R4.out.up hb)
  have F5 := Lib.hid (F4.out.up hb)
  have M5 := Lib.hid (M4.out.up hb)
  have B5 := Lib.hid (B4.out.up hb)
  have S5 := Lib.hid (show 0 < L.length → mk < q from fun h0 => Nat.lt_of_lt_of_le (lt_of_cell (M4.out 0 h0).1.1) hq)
  clear hq hv hvs hvc hb R4 F4 M4 B4
  go_wp2_with fail
  go_loopg [40] L.length (fun gm i wr => ∃ (k : Nat), k ≤ L.length ∧ gm = L.length - k ∧ i = .int .i64 (k : Int) ∧ Hid (Fil wr w.heap.size 77 fun _ => 0) ∧ Hid (Fil wr fb 77 (disF L f k)) ∧ Hid (FilM wr mk L.length (fun j => if j < k then disM L f j else (0, false))) ∧ Hid (FilB wr q L.length (conB L)) ∧ Hid (Bel w wr))
  case atStart => exact ⟨0, by omega, by omega, rfl, R5, F5, Lib.hid (M5.out.eq (fun j hj => by simp)), V5, B5⟩
  case round =>
    obtain ⟨k, hk, rfl, rfl, HR, HF2, HM, HV, HB⟩ := hrel
    clear R5 F5 M5 V5 B5
    by_cases hlt : k < L.length
    · obtain ⟨n, hn⟩ : ∃ n, L[k]? = some n := ⟨_, List.getElem?_eq_getElem hlt⟩
      obtain ⟨b, off, rfl, hc6⟩ := (HA.out.up HB.out.out) k n hn
      have hup : Below wr.heap.size wr (wr.alloc (.cells (ntA n) 61)) := (Below.refl _ wr).alloc (Nat.le_refl _) _
      have B1 := Lib.hid (HB.out.alloc (.cells (ntA n) 61))
      have X1 := Lib.hid (B6.new wr n 61 wr.heap.size rfl)
      have R1 := Lib.hid (HR.out.up hup)
      have F1 := Lib.hid (HF2.out.up hup)
      have M1 := Lib.hid (HM.out.up hup)
      have V1 := Lib.hid (HV.out.up hup)
      have DF := Lib.hid (disF_at (f := f) hn)
      have DM := Lib.hid (disM_at (f := f) hn)
      obtain ⟨hp, ha0, ha1, hv0, hv1⟩ := HG.out.each n (List.mem_of_getElem? hn)
      have Hp := Lib.hid hp
      have hPN : pxI n.s n.o = (pxN n : Int) ∧ pxN n < 77 := by
        obtain ⟨p0, p1, p2, p3⟩ := hp
        unfold pxN pxI
        omega
      have hsz : q < wr.heap.size := lt_of_cell (HV.out 0 (by omega)).1
      clear hup HR HF2 HM HV HB hn hp
      obtain ⟨P, hP⟩ : ∃ P, pxN n = P := ⟨_, rfl⟩
      obtain ⟨C, hC⟩ : ∃ C, conB L k = C := ⟨_, rfl⟩
      rw [hC] at DF DM
      rw [hP] at hPN
      obtain ⟨fr, hfr2⟩ : ∃ fr, disF L f k = fr := ⟨_, rfl⟩
      rw [hfr2] at DF DM F1
      obtain ⟨v0, v1⟩ := V1.out k hlt
      rw [hC] at v0
      obtain ⟨g0, g1⟩ := F1.out P hPN.2
      have HC := Lib.hid hC
      have HP := Lib.hid hP
      clear hC hP hfr2
      rcases n with ⟨t, s, a, o, hd, v⟩
      obtain ⟨c0, c1, c2, c3, c4, c5⟩ := hc6
      obtain ⟨x0, x1, x2, x3, x4, x5⟩ := id X1.out
      simp only [ntA] at c0 c1 c2 c3 c4 c5 x0 x1 x2 x3 x4 x5 B1 R1 F1 M1 V1 v0 v1 g0 g1 ha0 ha1 hv0 hv1 hPN
      go_wp2_with fail
      have KP := position_ok ⟨t, s, a, o, hd, v⟩ (wr.alloc (.cells #[.int .i64 t, .int .i64 s, .int .i64 a, .int .i64 o, .bool hd, .int .i64 v] 61)) Hp.out
      simp only [ntA] at KP
      rw [hPN.1] at KP
      refine KP.mono ?_
      rintro e w6 ⟨rfl, hb⟩
      clear KP
      have B2 := Lib.hid (B1.out.up hb)
      have X2 := Lib.hid (X1.out.up hb)
      have R2 := Lib.hid (R1.out.up hb)
      have F2 := Lib.hid (F1.out.up hb)
      have M2 := Lib.hid (M1.out.up hb)
      have V2 := Lib.hid (V1.out.up hb)
      clear hb B1 X1 R1 F1 M1 V1 c0 c1 c2 c3 c4 c5 x0 x1 x2 x3 x4 x5 v0 v1 g0 g1
      obtain ⟨v0, v1⟩ := V2.out k hlt
      rw [HC.out] at v0
      obtain ⟨g0, g1⟩ := F2.out P hPN.2
      obtain ⟨x0, x1, x2, x3, x4, x5⟩ := id X2.out
      simp only at x0 x1 x2 x3 x4 x5
      have hmq : mk < q := S5.out (by omega)
      have DM := Lib.hid DM.out
      cases C
      · cases hd
        · by_cases heq : a = fr P
          · have HEQ := Lib.hid heq
            have hnb : (a != fr P) = false := by simp [heq]
            clear heq
            rcases (show v = 0 ∨ v = 1 ∨ v = 2 by omega) with rfl | rfl | rfl
            · clear hv0 hv1
              have DM2 := Lib.hid (show disM L f k = (0, false) by rw [DM.out]; simp [markM, needB, HP.out, ← HEQ.out])
              have DF2 := Lib.hid (show disF L f (k + 1) = fr by rw [DF.out]; simp [markF, needB, HP.out, ← HEQ.out])
              go_wp2_with fail
              try (go_quiet (fail); go_wp2_with fail)
              try (go_quiet (fail); go_wp2_with fail)
              have hb6 := fun n => below_drewN (Below.refl w6.heap.size w6) n
              go_roundg (L.length - (k + 1))
              case measure => omega
              case rel => exact ⟨k + 1, by omega, rfl, by go_num, Lib.hid (R2.out.up (hb6 _)), Lib.hid ((F2.out.eq (us := disF L f (k + 1)) (fun j _ => by rw [DF2.out])).up (hb6 _)), Lib.hid ((M2.out.stay DM2.out).up (hb6 _)), Lib.hid (V2.out.up (hb6 _)), Lib.hid (B2.out.up (hb6 _))⟩
            · clear hv0 hv1
              go_wp2_with fail
              try (go_quiet (fail); go_wp2_with fail)
              try (go_quiet (fail); go_wp2_with fail)
              refine (of_y a _ ha0 ha1).mono ?_
              rintro e w7 ⟨rfl, hb⟩
              have hb6 : Below w6.heap.size w6 w7 := (below_drewN (Below.refl _ w6) _).trans hb
              have B3 := Lib.hid (B2.out.up hb6)
              have X3 := Lib.hid (X2.out.up hb6)
              have R3 := Lib.hid (R2.out.up hb6)
              have F3 := Lib.hid (F2.out.up hb6)
              have M3 := Lib.hid (M2.out.up hb6)
              have V3 := Lib.hid (V2.out.up hb6)
              clear hb hb6 B2 X2 R2 F2 M2 V2 v0 v1 g0 g1 x0 x1 x2 x3 x4 x5
              obtain ⟨⟨m0, m1⟩, m2, m3⟩ := M3.out k hlt
              obtain ⟨g0, g1⟩ := F3.out P hPN.2
              obtain ⟨x0, x1, x2, x3, x4, x5⟩ := id X3.out
              simp only at x0 x1 x2 x3 x4 x5
              have DM2 := Lib.hid (show disM L f k = (a + 3, false) by rw [DM.out]; simp [markM, needB, HP.out, ← HEQ.out])
              have DF2 := Lib.hid (show disF L f (k + 1) = updF fr P a by rw [DF.out, ← HP.out]; simp [markF, needB, HP.out, ← HEQ.out])
              have hfm : fb ≠ mk := by omega
              have hwm : w.heap.size ≠ mk := by omega
              have hwf : w.heap.size ≠ fb := by omega
              have M4 := Lib.hid ((M3.out.next hlt DM2.out).other (c := fb) (i := P) (u := .int .i64 a) (by omega))
              have F4 := Lib.hid ((((F3.out.other (c := mk) (i := k * 2) (u := .int .i64 (a + 3)) (by omega)).other (c := mk) (i := k * 2 + 1) (u := .bool false) (by omega)).set P hPN.2 a).eq (us := disF L f (k + 1)) (fun j _ => by rw [DF2.out]; rfl))
              have V4 := Lib.hid (((V3.out.other (c := mk) (i := k * 2) (u := .int .i64 (a + 3)) (by omega)).other (c := mk) (i := k * 2 + 1) (u := .bool false) (by omega)).other (c := fb) (i := P) (u := .int .i64 a) (by omega))
              have R4 := Lib.hid (((R3.out.other (c := mk) (i := k * 2) (u := .int .i64 (a + 3)) (by omega)).other (c := mk) (i := k * 2 + 1) (u := .bool false) (by omega)).other (c := fb) (i := P) (u := .int .i64 a) (by omega))
              have B4 := Lib.hid (((B3.out.set (b := mk) (by omega) (k * 2) (.int .i64 (a + 3))).set (b := mk) (by omega) (k * 2 + 1) (.bool false)).set (b := fb) (by omega) P (.int .i64 a))
              clear M3 F3 V3 R3 B3
              go_wp2_with fail
              try (go_quiet (fail); go_wp2_with fail)
              go_roundg (L.length - (k + 1))
              case measure => omega
              case rel => exact ⟨k + 1, by omega, rfl, by go_num, R4, F4, M4, V4, B4⟩
            · clear hv0 hv1
              go_wp2_with fail
              try (go_quiet (fail); go_wp2_with fail)
              try (go_quiet (fail); go_wp2_with fail)
              refine (of_y a _ ha0 ha1).mono ?_
              rintro e w7 ⟨rfl, hb⟩
              have hb6 : Below w6.heap.size w6 w7 := (below_drewN (Below.refl _ w6) _).trans hb
              have B3 := Lib.hid (B2.out.up hb6)
              have X3 := Lib.hid (X2.out.up hb6)
              have R3 := Lib.hid (R2.out.up hb6)
              have F3 := Lib.hid (F2.out.up hb6)
              have M3 := Lib.hid (M2.out.up hb6)
              have V3 := Lib.hid (V2.out.up hb6)
              clear hb hb6 B2 X2 R2 F2 M2 V2 v0 v1 g0 g1 x0 x1 x2 x3 x4 x5
              obtain ⟨⟨m0, m1⟩, m2, m3⟩ := M3.out k hlt
              obtain ⟨g0, g1⟩ := F3.out P hPN.2
              obtain ⟨x0, x1, x2, x3, x4, x5⟩ := id X3.out
              simp only at x0 x1 x2 x3 x4 x5
              have DM2 := Lib.hid (show disM L f k = (a + 3, true) by rw [DM.out]; simp [markM, needB, HP.out, ← HEQ.out])
              have DF2 := Lib.hid (show disF L f (k + 1) = updF fr P a by rw [DF.out, ← HP.out]; simp [markF, needB, HP.out, ← HEQ.out])
              have hfm : fb ≠ mk := by omega
              have hwm : w.heap.size ≠ mk := by omega
              have hwf : w.heap.size ≠ fb := by omega
              have M4 := Lib.hid ((M3.out.next hlt DM2.out).other (c := fb) (i := P) (u := .int .i64 a) (by omega))
              have F4 := Lib.hid ((((F3.out.other (c := mk) (i := k * 2) (u := .int .i64 (a + 3)) (by omega)).other (c := mk) (i := k * 2 + 1) (u := .bool true) (by omega)).set P hPN.2 a).eq (us := disF L f (k + 1)) (fun j _ => by rw [DF2.out]; rfl))
              have V4 := Lib.hid (((V3.out.other (c := mk) (i := k * 2) (u := .int .i64 (a + 3)) (by omega)).other (c := mk) (i := k * 2 + 1) (u := .bool true) (by omega)).other (c := fb) (i := P) (u := .int .i64 a) (by omega))
              have R4 := Lib.hid (((R3.out.other (c := mk) (i := k * 2) (u := .int .i64 (a + 3)) (by omega)).other (c := mk) (i := k * 2 + 1) (u := .bool true) (by omega)).other (c := fb) (i := P) (u := .int .i64 a) (by omega))
              have B4 := Lib.hid (((B3.out.set (b := mk) (by omega) (k * 2) (.int .i64 (a + 3))).set (b := mk) (by omega) (k * 2 + 1) (.bool true)).set (b := fb) (by omega) P (.int .i64 a))
              clear M3 F3 V3 R3 B3
              go_wp2_with fail
              try (go_quiet (fail); go_wp2_with fail)
              go_roundg (L.length - (k + 1))
              case measure => omega
              case rel => exact ⟨k + 1, by omega, rfl, by go_num, R4, F4, M4, V4, B4⟩
          · have hnb : (a != fr P) = true := by simpa using heq
            have HEQ := Lib.hid heq
            clear heq
            go_wp2_with fail
            try (go_quiet (fail); go_wp2_with fail)
            try (go_quiet (fail); go_wp2_with fail)
            refine (of_y a _ ha0 ha1).mono ?_
            rintro e w7 ⟨rfl, hb⟩
            have hb6 : Below w6.heap.size w6 w7 := (below_drewN (Below.refl _ w6) _).trans hb
            have B3 := Lib.hid (B2.out.up hb6)
            have X3 := Lib.hid (X2.out.up hb6)
            have R3 := Lib.hid (R2.out.up hb6)
            have F3 := Lib.hid (F2.out.up hb6)
            have M3 := Lib.hid (M2.out.up hb6)
            have V3 := Lib.hid (V2.out.up hb6)
            clear hb hb6 B2 X2 R2 F2 M2 V2 v0 v1 g0 g1 x0 x1 x2 x3 x4 x5
            obtain ⟨⟨m0, m1⟩, m2, m3⟩ := M3.out k hlt
            obtain ⟨g0, g1⟩ := F3.out P hPN.2
            obtain ⟨x0, x1, x2, x3, x4, x5⟩ := id X3.out
            simp only at x0 x1 x2 x3 x4 x5
            have DM2 := Lib.hid (show disM L f k = (a + 3, false) by rw [DM.out]; simp [markM, needB, HP.out, HEQ.out])
            have DF2 := Lib.hid (show disF L f (k + 1) = updF fr P a by rw [DF.out, ← HP.out]; simp [markF, needB, HP.out, HEQ.out])
            have hfm : fb ≠ mk := by omega
            have hwm : w.heap.size ≠ mk := by omega
            have hwf : w.heap.size ≠ fb := by omega
            have M4 := Lib.hid ((M3.out.next hlt DM2.out).other (c := fb) (i := P) (u := .int .i64 a) (by omega))
            have F4 := Lib.hid ((((F3.out.other (c := mk) (i := k * 2) (u := .int .i64 (a + 3)) (by omega)).other (c := mk) (i := k * 2 + 1) (u := .bool false) (by omega)).set P hPN.2 a).eq (us := disF L f (k + 1)) (fun j _ => by rw [DF2.out]; rfl))
            have V4 := Lib.hid (((V3.out.other (c := mk) (i := k * 2) (u := .int .i64 (a + 3)) (by omega)).other (c := mk) (i := k * 2 + 1) (u := .bool false) (by omega)).other (c := fb) (i := P) (u := .int .i64 a) (by omega))
            have R4 := Lib.hid (((R3.out.other (c := mk) (i := k * 2) (u := .int .i64 (a + 3)) (by omega)).other (c := mk) (i := k * 2 + 1) (u := .bool false) (by omega)).other (c := fb) (i := P) (u := .int .i64 a) (by omega))
            have B4 := Lib.hid (((B3.out.set (b := mk) (by omega) (k * 2) (.int .i64 (a + 3))).set (b := mk) (by omega) (k * 2 + 1) (.bool false)).set (b := fb) (by omega) P (.int .i64 a))
            clear M3 F3 V3 R3 B3
            go_wp2_with fail
            try (go_quiet (fail); go_wp2_with fail)
            go_roundg (L.length - (k + 1))
            case measure => omega
            case rel => exact ⟨k + 1, by omega, rfl, by go_num, R4, F4, M4, V4, B4⟩
        · rcases (show v = 0 ∨ v = 1 ∨ v = 2 by omega) with rfl | rfl | rfl
          · clear hv0 hv1
            have DM2 := Lib.hid (show disM L f k = (0, false) by rw [DM.out]; simp [markM, needB])
            have DF2 := Lib.hid (show disF L f (k + 1) = fr by rw [DF.out]; simp [markF, needB])
            go_wp2_with fail
            try (go_quiet (fail); go_wp2_with fail)
            try (go_quiet (fail); go_wp2_with fail)
            have hb6 := fun n => below_drewN (Below.refl w6.heap.size w6) n
            go_roundg (L.length - (k + 1))
            case measure => omega
            case rel => exact ⟨k + 1, by omega, rfl, by go_num, Lib.hid (R2.out.up (hb6 _)), Lib.hid ((F2.out.eq (us := disF L f (k + 1)) (fun j _ => by rw [DF2.out])).up (hb6 _)), Lib.hid ((M2.out.stay DM2.out).up (hb6 _)), Lib.hid (V2.out.up (hb6 _)), Lib.hid (B2.out.up (hb6 _))⟩
          · clear hv0 hv1
            go_wp2_with fail
            try (go_quiet (fail); go_wp2_with fail)
            try (go_quiet (fail); go_wp2_with fail)
            refine (of_y a _ ha0 ha1).mono ?_
            rintro e w7 ⟨rfl, hb⟩
            have hb6 : Below w6.heap.size w6 w7 := (below_drewN (Below.refl _ w6) _).trans hb
            have B3 := Lib.hid (B2.out.up hb6)
            have X3 := Lib.hid (X2.out.up hb6)
            have R3 := Lib.hid (R2.out.up hb6)
            have F3 := Lib.hid (F2.out.up hb6)
            have M3 := Lib.hid (M2.out.up hb6)
            have V3 := Lib.hid (V2.out.up hb6)
            clear hb hb6 B2 X2 R2 F2 M2 V2 v0 v1 g0 g1 x0 x1 x2 x3 x4 x5
            obtain ⟨⟨m0, m1⟩, m2, m3⟩ := M3.out k hlt
            obtain ⟨g0, g1⟩ := F3.out P hPN.2
            obtain ⟨x0, x1, x2, x3, x4, x5⟩ := id X3.out
            simp only at x0 x1 x2 x3 x4 x5
            have DM2 := Lib.hid (show disM L f k = (a + 3, false) by rw [DM.out]; simp [markM, needB])
            have DF2 := Lib.hid (show disF L f (k + 1) = updF fr P a by rw [DF.out, ← HP.out]; simp [markF, needB])
            have hfm : fb ≠ mk := by omega
            have hwm : w.heap.size ≠ mk := by omega
            have hwf : w.heap.size ≠ fb := by omega
            have M4 := Lib.hid ((M3.out.next hlt DM2.out).other (c := fb) (i := P) (u := .int .i64 a) (by omega))
            have F4 := Lib.hid ((((F3.out.other (c := mk) (i := k * 2) (u := .int .i64 (a + 3)) (by omega)).other (c := mk) (i := k * 2 + 1) (u := .bool false) (by omega)).set P hPN.2 a).eq (us := disF L f (k + 1)) (fun j _ => by rw [DF2.out]; rfl))
            have V4 := Lib.hid (((V3.out.other (c := mk) (i := k * 2) (u := .int .i64 (a + 3)) (by omega)).other (c := mk) (i := k * 2 + 1) (u := .bool false) (by omega)).other (c := fb) (i := P) (u := .int .i64 a) (by omega))
            have R4 := Lib.hid (((R3.out.other (c := mk) (i := k * 2) (u := .int .i64 (a + 3)) (by omega)).other (c := mk) (i := k * 2 + 1) (u := .bool false) (by omega)).other (c := fb) (i := P) (u := .int .i64 a) (by omega))
            have B4 := Lib.hid (((B3.out.set (b := mk) (by omega) (k * 2) (.int .i64 (a + 3))).set (b := mk) (by omega) (k * 2 + 1) (.bool false)).set (b := fb) (by omega) P (.int .i64 a))
            clear M3 F3 V3 R3 B3
            go_wp2_with fail
            try (go_quiet (fail); go_wp2_with fail)
            go_roundg (L.length - (k + 1))
            case measure => omega
            case rel => exact ⟨k + 1, by omega, rfl, by go_num, R4, F4, M4, V4, B4⟩
          · clear hv0 hv1
            go_wp2_with fail
            try (go_quiet (fail); go_wp2_with fail)
            try (go_quiet (fail); go_wp2_with fail)
            refine (of_y a _ ha0 ha1).mono ?_
            rintro e w7 ⟨rfl, hb⟩
            have hb6 : Below w6.heap.size w6 w7 := (below_drewN (Below.refl _ w6) _).trans hb
            have B3 := Lib.hid (B2.out.up hb6)
            have X3 := Lib.hid (X2.out.up hb6)
            have R3 := Lib.hid (R2.out.up hb6)
            have F3 := Lib.hid (F2.out.up hb6)
            have M3 := Lib.hid (M2.out.up hb6)
            have V3 := Lib.hid (V2.out.up hb6)
            clear hb hb6 B2 X2 R2 F2 M2 V2 v0 v1 g0 g1 x0 x1 x2 x3 x4 x5
            obtain ⟨⟨m0, m1⟩, m2, m3⟩ := M3.out k hlt
            obtain ⟨g0, g1⟩ := F3.out P hPN.2
            obtain ⟨x0, x1, x2, x3, x4, x5⟩ := id X3.out
            simp only at x0 x1 x2 x3 x4 x5
            have DM2 := Lib.hid (show disM L f k = (a + 3, true) by rw [DM.out]; simp [markM, needB])
            have DF2 := Lib.hid (show disF L f (k + 1) = updF fr P a by rw [DF.out, ← HP.out]; simp [markF, needB])
            have hfm : fb ≠ mk := by omega
            have hwm : w.heap.size ≠ mk := by omega
            have hwf : w.heap.size ≠ fb := by omega
            have M4 := Lib.hid ((M3.out.next hlt DM2.out).other (c := fb) (i := P) (u := .int .i64 a) (by omega))
            have F4 := Lib.hid ((((F3.out.other (c := mk) (i := k * 2) (u := .int .i64 (a + 3)) (by omega)).other (c := mk) (i := k * 2 + 1) (u := .bool true) (by omega)).set P hPN.2 a).eq (us := disF L f (k + 1)) (fun j _ => by rw [DF2.out]; rfl))
            have V4 := Lib.hid (((V3.out.other (c := mk) (i := k * 2) (u := .int .i64 (a + 3)) (by omega)).other (c := mk) (i := k * 2 + 1) (u := .bool true) (by omega)).other (c := fb) (i := P) (u := .int .i64 a) (by omega))
            have R4 := Lib.hid (((R3.out.other (c := mk) (i := k * 2) (u := .int .i64 (a + 3)) (by omega)).other (c := mk) (i := k * 2 + 1) (u := .bool true) (by omega)).other (c := fb) (i := P) (u := .int .i64 a) (by omega))
            have B4 := Lib.hid (((B3.out.set (b := mk) (by omega) (k * 2) (.int .i64 (a + 3))).set (b := mk) (by omega) (k * 2 + 1) (.bool true)).set (b := fb) (by omega) P (.int .i64 a))
            clear M3 F3 V3 R3 B3
            go_wp2_with fail
            try (go_quiet (fail); go_wp2_with fail)
            go_roundg (L.length - (k + 1))
            case measure => omega
            case rel => exact ⟨k + 1, by omega, rfl, by go_num, R4, F4, M4, V4, B4⟩
      · go_wp2_with fail
        try (go_quiet (fail); go_wp2_with fail)
        try (go_quiet (fail); go_wp2_with fail)
        refine (of_y a _ ha0 ha1).mono ?_
        rintro e w7 ⟨rfl, hb⟩
        have hb6 : Below w6.heap.size w6 w7 := (below_drewN (Below.refl _ w6) _).trans hb
        have B3 := Lib.hid (B2.out.up hb6)
        have X3 := Lib.hid (X2.out.up hb6)
        have R3 := Lib.hid (R2.out.up hb6)
        have F3 := Lib.hid (F2.out.up hb6)
        have M3 := Lib.hid (M2.out.up hb6)
        have V3 := Lib.hid (V2.out.up hb6)
        clear hb hb6 B2 X2 R2 F2 M2 V2 v0 v1 g0 g1 x0 x1 x2 x3 x4 x5
        obtain ⟨⟨m0, m1⟩, m2, m3⟩ := M3.out k hlt
        obtain ⟨g0, g1⟩ := F3.out P hPN.2
        obtain ⟨x0, x1, x2, x3, x4, x5⟩ := id X3.out
        simp only at x0 x1 x2 x3 x4 x5
        have DM2 := Lib.hid (show disM L f k = (a + 3, false) by rw [DM.out]; simp [markM, needB])
        have DF2 := Lib.hid (show disF L f (k + 1) = updF fr P a by rw [DF.out, ← HP.out]; simp [markF, needB])
        have hfm : fb ≠ mk := by omega
        have hwm : w.heap.size ≠ mk := by omega
        have hwf : w.heap.size ≠ fb := by omega
        have M4 := Lib.hid ((M3.out.next hlt DM2.out).other (c := fb) (i := P) (u := .int .i64 a) (by omega))
        have F4 := Lib.hid ((((F3.out.other (c := mk) (i := k * 2) (u := .int .i64 (a + 3)) (by omega)).other (c := mk) (i := k * 2 + 1) (u := .bool false) (by omega)).set P hPN.2 a).eq (us := disF L f (k + 1)) (fun j _ => by rw [DF2.out]; rfl))
        have V4 := Lib.hid (((V3.out.other (c := mk) (i := k * 2) (u := .int .i64 (a + 3)) (by omega)).other (c := mk) (i := k * 2 + 1) (u := .bool false) (by omega)).other (c := fb) (i := P) (u := .int .i64 a) (by omega))
        have R4 := Lib.hid (((R3.out.other (c := mk) (i := k * 2) (u := .int .i64 (a + 3)) (by omega)).other (c := mk) (i := k * 2 + 1) (u := .bool false) (by omega)).other (c := fb) (i := P) (u := .int .i64 a) (by omega))
        have B4 := Lib.hid (((B3.out.set (b := mk) (by omega) (k * 2) (.int .i64 (a + 3))).set (b := mk) (by omega) (k * 2 + 1) (.bool false)).set (b := fb) (by omega) P (.int .i64 a))
        clear M3 F3 V3 R3 B3
        go_wp2_with fail
        try (go_quiet (fail); go_wp2_with fail)
        go_roundg (L.length - (k + 1))
        case measure => omega
        case rel => exact ⟨k + 1, by omega, rfl, by go_num, R4, F4, M4, V4, B4⟩
    · obtain rfl : k = L.length := by omega
      have M1 := Lib.hid (HM.out.eq (us := disM L f) (fun j hj => by simp [hj]))
      have HR1 := Lib.hid HR.out
      clear HM HV
      go_wp2_with fail
      generalize hG : disF L f L.length = G at *
      refine Qt.region 3 (by kernel_rfl) (by kernel_rfl) ?_
      intro TT ff F hne
      have RF := Lib.hid (fun g => HF2.out.up (F.below g))
      have RR := Lib.hid (fun g => HR.out.up (F.below g))
      have RM := Lib.hid (fun g => M1.out.up (F.below g))
      have RB := Lib.hid (fun g => HB.out.up (F.below g))
      simp only [List.take_succ_cons, List.take_zero, List.drop_succ_cons, List.drop_zero]
      go_big_quiet_step (fail)
      refine wpQuiet_load_mid rfl 58 _ rfl fb 0 rfl (arL G) _ (by rintro _ ⟨g, rfl⟩; exact (RF.out g).range) Tryd.underlying58 rfl (by rw [size77, arL_len]) ?_
      go_simp
      go_big_quiet_step (fail)
      refine wpQuiet_nil ?_
      intro g
      have R5 := Lib.hid (RR.out g)
      have M5 := Lib.hid (RM.out g)
      have B5 := Lib.hid (RB.out g)
      clear RF RR RM RB F hne HR HR1 M1 HB HF2
      generalize ff g = w9 at *
      have HS := Lib.hid (R5.out.stored (us := G))
      have M6 := Lib.hid (M5.out.asideN (L := (arL G).toArray.toList) (c := w.heap.size) (by omega))
      have B6 := Lib.hid (below_setCells (Nat.le_refl _) w (arL G).toArray.toList 0 _ B5.out.out)
      go_wp2_with (refine wpList_store_mid rfl 58 _ _ rfl w.heap.size 0 (arL G).toArray rfl rfl (R5.out.there _) (by rw [size77]; simp [arL_len]) (arL_one _) ?_; generalize (w9.setCells w.heap.size 0 (arL G).toArray.toList) = w10 at *)
      have hl := run_loadVar_mid (P := Tryd.prog) w10 w.heap.size 0 58 (arL G) _ HS.out.range Tryd.underlying58 rfl (by rw [size77, arL_len])
      exact bodyPost_ret (v := .tuple #[.slice (some ⟨mk, 0, none⟩) L.length L.length, .agg (arL G).toArray, .int .i64 0]) (by rw [results_tct Tryd.results22]; simp [asAddr, hl, Result.andThen]) rfl ⟨mk, by rw [hG], M6.out, by omega, B6.out⟩
theorem display_ok (f : Int) (L : List Nt) (ad : Option Addr) (cap : Nat) (w : World) (hf : Sg f) (hl : L.length ≤ 2560) (he : errL 0 L = 0) (hg : Good L) (h : NtAt w ad L) (hk : KT w) :
    Calls Tryd.prog 22 #[.int .i64 f, .slice ad L.length cap] w fun e w' => ∃ (g : Nat), e = .returned (.tuple #[.slice (some ⟨g, 0, none⟩) L.length L.length, .agg (arL (disF L f L.length)).toArray, .int .i64 0]) ∧ FilM w' g L.length (disM L f) ∧ Below w.heap.size w w' :=
  (display_okN f L ad cap w hf hl he hg h hk).mono fun _ _ ⟨g, h1, h2, _, h3⟩ => ⟨g, h1, h2, h3⟩
end Go.Proofs.YthmdjpfjaojihaaDoor
