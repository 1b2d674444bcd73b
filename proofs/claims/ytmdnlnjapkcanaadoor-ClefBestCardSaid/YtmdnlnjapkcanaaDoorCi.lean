/- Clefs: Signature. -/
import Derived.Test.YtmdnlnjapkcanaaDoorCf
import Derived.Test.YtmdnlnjapkcanaaDoorCg
import Derived.Deep.OwnRows
namespace Go.Proofs.YtmdnlnjapkcanaaDoor
open Go.RowKit
set_option linter.unusedVariables false
set_option linter.unusedSimpArgs false

set_option maxRecDepth 100000 in
set_option maxHeartbeats 2000000 in
theorem sgn_b1 (c f : Int) (w : World) (h : ¬ Cl c) (hc : CW w) :
    Calls Tryd.prog 24 #[.int .i64 c, .int .i64 f] w fun e w' => e = .returned (.tuple #[.slice none 0 0, .int .i64 11]) ∧ Below w.heap.size w w' := by
  have HP := Lib.hid h
  have B0 := Lib.hid (Bel.refl w)
  have C0 := Lib.hid hc
  go_enter Tryd.func24, Tryd.ntmps24
  go_wp2_with fail
  refine (checkC_bad c _ HP.out).mono ?_
  rintro e w1 ⟨rfl, hb⟩
  have B1 := Lib.hid (B0.out.up hb)
  have C1 := Lib.hid (C0.out.below hb)
  clear hb B0 C0 
  go_wp2_with fail
  go_ret2
  exact ⟨rfl, B1.out.out⟩
set_option maxRecDepth 100000 in
set_option maxHeartbeats 2000000 in
theorem sgn_b2 (c f : Int) (w : World) (h : Cl c) (k : ¬ Sg f) (hc : CW w) :
    Calls Tryd.prog 24 #[.int .i64 c, .int .i64 f] w fun e w' => e = .returned (.tuple #[.slice none 0 0, .int .i64 2]) ∧ Below w.heap.size w w' := by
  have HP := Lib.hid h
  have HQ := Lib.hid k
  have B0 := Lib.hid (Bel.refl w)
  have C0 := Lib.hid hc
  go_enter Tryd.func24, Tryd.ntmps24
  go_wp2_with fail
  refine (checkC_ok c _ HP.out).mono ?_
  rintro e w1 ⟨rfl, hb⟩
  have B1 := Lib.hid (B0.out.up hb)
  have C1 := Lib.hid (C0.out.below hb)
  clear hb B0 C0 
  go_wp2_with fail
  refine (sigK_bad f _ HQ.out C1.out.k).mono ?_
  rintro e w2 ⟨rfl, hb⟩
  have B2 := Lib.hid (B1.out.up hb)
  have C2 := Lib.hid (C1.out.below hb)
  clear hb B1 C1 
  go_wp2_with fail
  go_ret2
  exact ⟨rfl, B2.out.out⟩
theorem up_ok (d s : Int) (w : World) (d0 : -1000 ≤ d) (d1 : d ≤ 1000) (s0 : -1000 ≤ s) (s1 : s ≤ 1000) :
    Calls Tryd.prog 38 #[.int .i64 d, .int .i64 s] w fun e w' => e = .returned (.int .i64 ((s - d) % 7)) ∧ Below w.heap.size w w' := by
  have B0 := Lib.hid (Bel.refl w)
  obtain ⟨e1, e2, e3, e4⟩ := mod7 (s - d)
  go_enter Tryd.func38, Tryd.ntmps38
  go_wp2_with fail
  go_ret
  exact ⟨by first | rfl | (simp [e1]; done) | (rw [e1]), B0.out.out⟩
/-- n cells of a block that the call made -/
def Fil (w : World) (b n : Nat) (vs : Nat → Int) : Prop := ∀ j : Nat, j < n → w.cell? ⟨b, j, none⟩ = some (.int .i64 (vs j)) ∧ w.frozen? ⟨b, j, none⟩ = false
theorem Fil.up {w w' : World} {b n : Nat} {vs : Nat → Int} (h : Fil w b n vs) (hb : Below w.heap.size w w') : Fil w' b n vs := fun j hj => ⟨cell_up hb (h j hj).1, (hb.frozen (p := ⟨b, j, none⟩) (lt_of_cell (h j hj).1)).trans (h j hj).2⟩
theorem Fil.set {w : World} {b n : Nat} {vs : Nat → Int} (h : Fil w b n vs) (i : Nat) (hi : i < n) (u : Int) : Fil (w.setCell ⟨b, i, none⟩ (.int .i64 u)) b n (fun j => if j = i then u else vs j) := by
  intro j hj
  have hi' := h i hi
  have hj' := h j hj
  by_cases e : j = i
  · subst e
    simp [go_sem, hi'.1, hi'.2]
  · have e' : i ≠ j := fun h => e h.symm
    simp [go_sem, hj'.1, hj'.2, e, e']
def RowV (w : World) (b : Nat) (L : List Value) : Prop := ∀ (i : Nat) (v : Value), L[i]? = some v → w.cell? ⟨b, i, none⟩ = some v
theorem RowV.up {w w' : World} {b : Nat} {L : List Value} (h : RowV w b L) (hb : Below w.heap.size w w') : RowV w' b L := fun i v hv => cell_up hb (h i v hv)
def lowI (c f : Int) : Int := if f < 0 then flaI c else shaI c
def sgnA (c f st : Int) : Int := lowI c f + (st - (lowI c f + midI c)) % 7
def sgnL (c f : Int) : List Int := (sigL f).map (sgnA c f)
theorem fil_made (w : World) (n : Nat) (t : TypeId) (g : Nat) (hg : g = w.heap.size) : Fil (w.alloc (.cells (madeCells #[.int .i64 0] n) t)) g n (fun _ => 0) := by
  intro j hj
  subst hg
  constructor
  · exact tab_new w _ t _ rfl j _ (by simp [madeCells, hj, Nat.mod_one])
  · simp [go_sem]
theorem make_int (n : Nat) (hn : n ≤ 100000) (w : World) : (Instr.makeSlice 41 (.int .i64 (n : Int)) (.int .i64 (n : Int))).run Tryd.prog w = .ok (.slice (some ⟨w.heap.size, 0, none⟩) n n) (w.alloc (.cells (madeCells #[.int .i64 0] n) 3)) :=
  run_make_row' _ _ (.int .i64 0) 8 Tryd.underlying41 infoI rfl _ _ n (by omega) (by omega) w
theorem sigL_mem {f x : Int} (h : x ∈ sigL f) : 0 ≤ x ∧ x ≤ 6 := by
  unfold sigL at h
  split at h
  · have := List.mem_of_mem_take h; simp at this; omega
  · have := List.mem_of_mem_take h; simp at this; omega
set_option maxRecDepth 100000 in
set_option maxHeartbeats 4000000 in
theorem sgn_pos (c f : Int) (w : World) (h : Cl c) (k : Sg f) (hf : 0 ≤ f) (hc : CW w) :
    Calls Tryd.prog 24 #[.int .i64 c, .int .i64 f] w fun e w' => ∃ b, e = .returned (.tuple #[.slice (some ⟨b, 0, none⟩) (sgnL c f).length (sgnL c f).length, .int .i64 0]) ∧ Row1 w' b (sgnL c f) ∧ Below w.heap.size w w' := by
  have HP := Lib.hid h
  have HQ := Lib.hid k
  have B0 := Lib.hid (Bel.refl w)
  have C0 := Lib.hid hc
  obtain ⟨c0, c1⟩ := id h
  obtain ⟨m0, m1⟩ := mid_bd c
  obtain ⟨a0, a1⟩ := sha_bd c
  obtain ⟨b0, b1⟩ := fla_bd c
  have HK := Lib.hid (fun v hk => sigK_ok f v k hk)
  have hl7 := sigL_len k
  have HB := Lib.hid (fun x => sigL_mem (f := f) (x := x))
  have HT := Lib.hid (show ∀ (j : Nat) (x : Int), (sigL f)[j]? = some x → (sgnL c f)[j]? = some (shaI c + (x - (shaI c + midI c)) % 7) from fun j x hx => by
    unfold sgnL sgnA lowI
    rw [List.getElem?_map, hx]
    simp only [Option.map_some]
    rw [if_neg (by omega)])
  have hlen : (sgnL c f).length = (sigL f).length := by simp [sgnL]
  have HR := Lib.hid (fun (w : World) (b : Nat) (ht : Tab w b) => ht.row h)
  have HR := Lib.hid (fun (w : World) (b : Nat) (ht : Tab w b) => let r := HR.out w b ht; (⟨r.r0, r.r1, r.r2, r.r3, r.r4, r.r5, r.r6⟩ : _ ∧ _ ∧ _ ∧ _ ∧ _ ∧ _ ∧ _))
  generalize namB c = NM at *
  generalize ltrI c = LT at *
  generalize linI c = LI at *
  generalize octI c = OC at *
  generalize sgnL c f = S at *
  generalize sigL f = L at *
  generalize midI c = M at *
  generalize shaI c = ZS at *
  generalize flaI c = ZF at *
  have HM := Lib.hid (make_int L.length (by omega))
  go_enter Tryd.func24, Tryd.ntmps24
  go_wp2_with fail
  refine (checkC_ok c _ HP.out).mono ?_
  rintro e w1 ⟨rfl, hb⟩
  have B1 := Lib.hid (B0.out.up hb)
  have C1 := Lib.hid (C0.out.below hb)
  clear hb B0 C0
  go_wp2_with fail
  refine (HK.out _ C1.out.k).mono ?_
  rintro e w2 ⟨b, rfl, hr, hb⟩
  have B2 := Lib.hid (B1.out.up hb)
  have G2 := Lib.hid hr
  obtain ⟨q0, q1, q2, q3, q4, q5, q6⟩ := HR.out _ _ (C1.out.below hb).c
  clear hb B1 C1 hr
  have hmk := HM.out
  go_wp2_with fail
  have B3 := Lib.hid ((B2.out.alloc (.cells #[.string NM, .int .u8 LT, .int .i64 LI, .int .i64 OC, .int .i64 M, .int .i64 ZS, .int .i64 ZF] 64)).alloc (.cells (madeCells #[.int .i64 0] L.length) 3))
  have G3 := Lib.hid (G2.out.up (((Below.refl _ _).alloc (Nat.le_refl _) (.cells #[.string NM, .int .u8 LT, .int .i64 LI, .int .i64 OC, .int .i64 M, .int .i64 ZS, .int .i64 ZF] 64)).alloc (by simp) (.cells (madeCells #[.int .i64 0] L.length) 3)))
  have S3 := Lib.hid (cell_up ((Below.refl _ _).alloc (Nat.le_refl _) (.cells (madeCells #[.int .i64 0] L.length) 3)) (tab_new w2 #[.string NM, .int .u8 LT, .int .i64 LI, .int .i64 OC, .int .i64 M, .int .i64 ZS, .int .i64 ZF] 64 _ rfl 4 _ rfl))
  have F3 := Lib.hid (fil_made (w2.alloc (.cells #[.string NM, .int .u8 LT, .int .i64 LI, .int .i64 OC, .int .i64 M, .int .i64 ZS, .int .i64 ZF] 64)) L.length 3 (w2.heap.size + 1) (by simp))
  have hsz : w.heap.size ≤ w2.heap.size := B2.out.size
  have hbw : b < w2.heap.size ∨ L = [] := by
    rcases L with _ | ⟨x0, L0⟩
    · exact .inr rfl
    · exact .inl (lt_of_cell (G2.out 0 x0 rfl))
  generalize ((w2.alloc (.cells #[.string NM, .int .u8 LT, .int .i64 LI, .int .i64 OC, .int .i64 M, .int .i64 ZS, .int .i64 ZF] 64)).alloc (.cells (madeCells #[.int .i64 0] L.length) 3)) = w3 at *
  go_loopg [42] L.length (fun gm i wr => ∃ (k : Nat) (vs : Nat → Int), k ≤ L.length ∧ gm = L.length - k ∧ i = .int .i64 (k : Int) ∧ Hid (Fil wr (w2.heap.size + 1) L.length vs) ∧ Hid (∀ j, j < k → S[j]? = some (vs j)) ∧ Hid (Row1 wr b L) ∧ Hid (wr.cell? ⟨w2.heap.size, 4, none⟩ = some (.int .i64 M)) ∧ Hid (Bel w wr))
  case atStart => exact ⟨0, fun _ => 0, by omega, by omega, rfl, F3, Lib.hid (fun j hj => absurd hj (by omega)), G3, S3, B3⟩
  case round =>
    obtain ⟨k, vs, hk, rfl, rfl, HF, HV, HG, HC, HW⟩ := hrel
    clear F3 G3 S3 B3
    by_cases hlt : k < L.length
    · obtain ⟨x, hx⟩ : ∃ x, L[k]? = some x := ⟨_, List.getElem?_eq_getElem hlt⟩
      have q8 := HG.out k x hx
      have q9 := HC.out
      obtain ⟨x0, x1⟩ := HB.out x (List.mem_of_getElem? hx)
      have HX := Lib.hid (HT.out k x hx)
      clear hx
      go_wp2_with fail
      refine (up_ok (ZS + M) x _ (by omega) (by omega) (by omega) (by omega)).mono ?_
      rintro e w4 ⟨rfl, hb⟩
      have F4 := Lib.hid (HF.out.up hb)
      have G4 := Lib.hid (HG.out.up hb)
      have S4 := Lib.hid (cell_up hb HC.out)
      have B4 := Lib.hid (HW.out.up hb)
      have f8 := (F4.out k hlt).1
      have f9 := (F4.out k hlt).2
      have e0 : 0 ≤ (x - (ZS + M)) % 7 := by omega
      have e1 : (x - (ZS + M)) % 7 ≤ 6 := by omega
      generalize hE : (x - (ZS + M)) % 7 = E at *
      clear hE hb q8 q9 HF HG HC HW
      go_wp2_with fail
      go_roundg (L.length - (k + 1))
      case measure => omega
      case rel =>
        refine ⟨k + 1, fun j => if j = k then ZS + E else vs j, by omega, rfl, by go_num, Lib.hid (F4.out.set k hlt _), Lib.hid (fun j hj => ?_), Lib.hid (fun j v hv => ?_), Lib.hid ?_, Lib.hid (B4.out.set (by omega) _ _)⟩
        · by_cases e : j = k
          · subst e
            simp only [if_pos]
            exact HX.out
          · simp only [if_neg e]
            exact HV.out j (by omega)
        · have := G4.out j v hv
          have hne : w2.heap.size + 1 ≠ b := by
            rcases hbw with h | rfl
            · omega
            · simp at hv
          simpa [go_sem, hne] using this
        · have := S4.out
          simpa [go_sem] using this
    · obtain rfl : k = L.length := by omega
      go_wp2_with fail
      refine bodyPost_ret (v := .tuple #[.slice (some ⟨w2.heap.size + 1, 0, none⟩) L.length L.length, .int .i64 0]) (by first | (simp [results, Tryd.results24, go_sem]; done)) rfl ⟨_, by rw [hlen], fun j v hv => ?_, HW.out.out⟩
      have hj : j < S.length := (List.getElem?_eq_some_iff.1 hv).1
      have := HV.out j (by omega)
      rw [this] at hv
      cases hv
      exact (HF.out j (by omega)).1
set_option maxRecDepth 100000 in
set_option maxHeartbeats 4000000 in
theorem sgn_neg (c f : Int) (w : World) (h : Cl c) (k : Sg f) (hf : f < 0) (hc : CW w) :
    Calls Tryd.prog 24 #[.int .i64 c, .int .i64 f] w fun e w' => ∃ b, e = .returned (.tuple #[.slice (some ⟨b, 0, none⟩) (sgnL c f).length (sgnL c f).length, .int .i64 0]) ∧ Row1 w' b (sgnL c f) ∧ Below w.heap.size w w' := by
  have HP := Lib.hid h
  have HQ := Lib.hid k
  have B0 := Lib.hid (Bel.refl w)
  have C0 := Lib.hid hc
  obtain ⟨c0, c1⟩ := id h
  obtain ⟨m0, m1⟩ := mid_bd c
  obtain ⟨a0, a1⟩ := sha_bd c
  obtain ⟨b0, b1⟩ := fla_bd c
  have HK := Lib.hid (fun v hk => sigK_ok f v k hk)
  have hl7 := sigL_len k
  have HB := Lib.hid (fun x => sigL_mem (f := f) (x := x))
  have HT := Lib.hid (show ∀ (j : Nat) (x : Int), (sigL f)[j]? = some x → (sgnL c f)[j]? = some (flaI c + (x - (flaI c + midI c)) % 7) from fun j x hx => by
    unfold sgnL sgnA lowI
    rw [List.getElem?_map, hx]
    simp only [Option.map_some]
    rw [if_pos hf])
  have hlen : (sgnL c f).length = (sigL f).length := by simp [sgnL]
  have HR := Lib.hid (fun (w : World) (b : Nat) (ht : Tab w b) => ht.row h)
  have HR := Lib.hid (fun (w : World) (b : Nat) (ht : Tab w b) => let r := HR.out w b ht; (⟨r.r0, r.r1, r.r2, r.r3, r.r4, r.r5, r.r6⟩ : _ ∧ _ ∧ _ ∧ _ ∧ _ ∧ _ ∧ _))
  generalize namB c = NM at *
  generalize ltrI c = LT at *
  generalize linI c = LI at *
  generalize octI c = OC at *
  generalize sgnL c f = S at *
  generalize sigL f = L at *
  generalize midI c = M at *
  generalize shaI c = ZS at *
  generalize flaI c = ZF at *
  have HM := Lib.hid (make_int L.length (by omega))
  go_enter Tryd.func24, Tryd.ntmps24
  go_wp2_with fail
  refine (checkC_ok c _ HP.out).mono ?_
  rintro e w1 ⟨rfl, hb⟩
  have B1 := Lib.hid (B0.out.up hb)
  have C1 := Lib.hid (C0.out.below hb)
  clear hb B0 C0
  go_wp2_with fail
  refine (HK.out _ C1.out.k).mono ?_
  rintro e w2 ⟨b, rfl, hr, hb⟩
  have B2 := Lib.hid (B1.out.up hb)
  have G2 := Lib.hid hr
  obtain ⟨q0, q1, q2, q3, q4, q5, q6⟩ := HR.out _ _ (C1.out.below hb).c
  clear hb B1 C1 hr
  have hmk := HM.out
  go_wp2_with fail
  have B3 := Lib.hid ((B2.out.alloc (.cells #[.string NM, .int .u8 LT, .int .i64 LI, .int .i64 OC, .int .i64 M, .int .i64 ZS, .int .i64 ZF] 64)).alloc (.cells (madeCells #[.int .i64 0] L.length) 3))
  have G3 := Lib.hid (G2.out.up (((Below.refl _ _).alloc (Nat.le_refl _) (.cells #[.string NM, .int .u8 LT, .int .i64 LI, .int .i64 OC, .int .i64 M, .int .i64 ZS, .int .i64 ZF] 64)).alloc (by simp) (.cells (madeCells #[.int .i64 0] L.length) 3)))
  have S3 := Lib.hid (cell_up ((Below.refl _ _).alloc (Nat.le_refl _) (.cells (madeCells #[.int .i64 0] L.length) 3)) (tab_new w2 #[.string NM, .int .u8 LT, .int .i64 LI, .int .i64 OC, .int .i64 M, .int .i64 ZS, .int .i64 ZF] 64 _ rfl 4 _ rfl))
  have F3 := Lib.hid (fil_made (w2.alloc (.cells #[.string NM, .int .u8 LT, .int .i64 LI, .int .i64 OC, .int .i64 M, .int .i64 ZS, .int .i64 ZF] 64)) L.length 3 (w2.heap.size + 1) (by simp))
  have hsz : w.heap.size ≤ w2.heap.size := B2.out.size
  have hbw : b < w2.heap.size ∨ L = [] := by
    rcases L with _ | ⟨x0, L0⟩
    · exact .inr rfl
    · exact .inl (lt_of_cell (G2.out 0 x0 rfl))
  generalize ((w2.alloc (.cells #[.string NM, .int .u8 LT, .int .i64 LI, .int .i64 OC, .int .i64 M, .int .i64 ZS, .int .i64 ZF] 64)).alloc (.cells (madeCells #[.int .i64 0] L.length) 3)) = w3 at *
  go_loopg [42] L.length (fun gm i wr => ∃ (k : Nat) (vs : Nat → Int), k ≤ L.length ∧ gm = L.length - k ∧ i = .int .i64 (k : Int) ∧ Hid (Fil wr (w2.heap.size + 1) L.length vs) ∧ Hid (∀ j, j < k → S[j]? = some (vs j)) ∧ Hid (Row1 wr b L) ∧ Hid (wr.cell? ⟨w2.heap.size, 4, none⟩ = some (.int .i64 M)) ∧ Hid (Bel w wr))
  case atStart => exact ⟨0, fun _ => 0, by omega, by omega, rfl, F3, Lib.hid (fun j hj => absurd hj (by omega)), G3, S3, B3⟩
  case round =>
    obtain ⟨k, vs, hk, rfl, rfl, HF, HV, HG, HC, HW⟩ := hrel
    clear F3 G3 S3 B3
    by_cases hlt : k < L.length
    · obtain ⟨x, hx⟩ : ∃ x, L[k]? = some x := ⟨_, List.getElem?_eq_getElem hlt⟩
      have q8 := HG.out k x hx
      have q9 := HC.out
      obtain ⟨x0, x1⟩ := HB.out x (List.mem_of_getElem? hx)
      have HX := Lib.hid (HT.out k x hx)
      clear hx
      go_wp2_with fail
      refine (up_ok (ZF + M) x _ (by omega) (by omega) (by omega) (by omega)).mono ?_
      rintro e w4 ⟨rfl, hb⟩
      have F4 := Lib.hid (HF.out.up hb)
      have G4 := Lib.hid (HG.out.up hb)
      have S4 := Lib.hid (cell_up hb HC.out)
      have B4 := Lib.hid (HW.out.up hb)
      have f8 := (F4.out k hlt).1
      have f9 := (F4.out k hlt).2
      have e0 : 0 ≤ (x - (ZF + M)) % 7 := by omega
      have e1 : (x - (ZF + M)) % 7 ≤ 6 := by omega
      generalize hE : (x - (ZF + M)) % 7 = E at *
      clear hE hb q8 q9 HF HG HC HW
      go_wp2_with fail
      go_roundg (L.length - (k + 1))
      case measure => omega
      case rel =>
        refine ⟨k + 1, fun j => if j = k then ZF + E else vs j, by omega, rfl, by go_num, Lib.hid (F4.out.set k hlt _), Lib.hid (fun j hj => ?_), Lib.hid (fun j v hv => ?_), Lib.hid ?_, Lib.hid (B4.out.set (by omega) _ _)⟩
        · by_cases e : j = k
          · subst e
            simp only [if_pos]
            exact HX.out
          · simp only [if_neg e]
            exact HV.out j (by omega)
        · have := G4.out j v hv
          have hne : w2.heap.size + 1 ≠ b := by
            rcases hbw with h | rfl
            · omega
            · simp at hv
          simpa [go_sem, hne] using this
        · have := S4.out
          simpa [go_sem] using this
    · obtain rfl : k = L.length := by omega
      go_wp2_with fail
      refine bodyPost_ret (v := .tuple #[.slice (some ⟨w2.heap.size + 1, 0, none⟩) L.length L.length, .int .i64 0]) (by first | (simp [results, Tryd.results24, go_sem]; done)) rfl ⟨_, by rw [hlen], fun j v hv => ?_, HW.out.out⟩
      have hj : j < S.length := (List.getElem?_eq_some_iff.1 hv).1
      have := HV.out j (by omega)
      rw [this] at hv
      cases hv
      exact (HF.out j (by omega)).1
end Go.Proofs.YtmdnlnjapkcanaaDoor
