/- Clefs: law ClefShapes. -/
import Derived.Test.YtmdnlnjapkcanaaDoorCp
import Derived.Deep.RegionWith
import Derived.Deep.DeepCutAuto
namespace Go.Proofs.YtmdnlnjapkcanaaDoor
open Go.RowKit
set_option linter.unusedVariables false
set_option linter.unusedSimpArgs false

def chkAt (c f : Int) : Bool := (sigL f).all fun x => decide (Pit ((sgnA c f x + midI c) % 7) 0 ((sgnA c f x + midI c) / 7)) && decide ((sgnA c f x + midI c) % 7 = x) && decide (-200 ≤ sgnA c f x) && decide (sgnA c f x ≤ 200)
def chkAp (c f : Int) : Bool := (List.range 7).all fun k => (List.range k).all fun j => match (sgnL c f)[k]?, (sgnL c f)[j]? with
  | some x, some y => decide (x ≠ y) && decide (x - y ≤ 6) && decide (y - x ≤ 6)
  | _, _ => true
/-- each accidental of a signature stands on its step, the pitch is there -/
theorem sgn_at : ∀ (c : Fin 9) (f : Fin 15), chkAt ((c.val : Int) + 1) ((f.val : Int) - 7) = true := by decide +kernel
theorem sgn_apart : ∀ (c : Fin 9) (f : Fin 15), chkAp ((c.val : Int) + 1) ((f.val : Int) - 7) = true := by decide +kernel
theorem sgn_at' {c f x : Int} (h : Cl c) (hf : Sg f) (hx : x ∈ sigL f) : Pit ((sgnA c f x + midI c) % 7) 0 ((sgnA c f x + midI c) / 7) ∧ (sgnA c f x + midI c) % 7 = x ∧ -200 ≤ sgnA c f x ∧ sgnA c f x ≤ 200 := by
  have h0 := h.c0; have h1 := h.c1; have g0 := hf.f0; have g1 := hf.f1
  have ec : ((((c - 1).toNat : Nat) : Int) + 1) = c := by omega
  have ef : ((((f + 7).toNat : Nat) : Int) - 7) = f := by omega
  have := sgn_at ⟨(c - 1).toNat, by omega⟩ ⟨(f + 7).toNat, by omega⟩
  simp only [ec, ef] at this
  have := List.all_eq_true.1 this x hx
  simp only [Bool.and_eq_true, decide_eq_true_eq] at this
  exact ⟨this.1.1.1, this.1.1.2, this.1.2, this.2⟩
theorem sgn_apart' {c f x y : Int} {k j : Nat} (h : Cl c) (hf : Sg f) (hj : j < k) (hx : (sgnL c f)[k]? = some x) (hy : (sgnL c f)[j]? = some y) : x ≠ y ∧ x - y ≤ 6 ∧ y - x ≤ 6 := by
  have h0 := h.c0; have h1 := h.c1; have g0 := hf.f0; have g1 := hf.f1
  have hk : k < 7 := by
    have := (List.getElem?_eq_some_iff.1 hx).1
    have := sigL_len hf
    simp [sgnL] at *
    omega
  have ec : ((((c - 1).toNat : Nat) : Int) + 1) = c := by omega
  have ef : ((((f + 7).toNat : Nat) : Int) - 7) = f := by omega
  have := sgn_apart ⟨(c - 1).toNat, by omega⟩ ⟨(f + 7).toNat, by omega⟩
  simp only [ec, ef] at this
  have := List.all_eq_true.1 (List.all_eq_true.1 this k (by simpa using hk)) j (by simpa using hj)
  simp only [hx, hy, Bool.and_eq_true, decide_eq_true_eq] at this
  exact ⟨this.1.1, this.1.2, this.2⟩
set_option maxRecDepth 100000 in
set_option maxHeartbeats 4000000 in
theorem shapes_ok (x f : Int) (w : World) (x0 : 0 ≤ x) (x1 : x ≤ 255) (f0 : -128 ≤ f) (f1 : f ≤ 127) (hc : CW w) :
    Calls Tryd.prog 9 #[.int .u8 x, .int .i8 f] w fun e w' => e = .returned (.bool true) ∧ Below w.heap.size w w' := by
  have B0 := Lib.hid (Bel.refl w)
  have C0 := Lib.hid hc
  have x9 : x.tmod 9 = x % 9 := Int.tmod_eq_emod_of_nonneg x0
  have HC := Lib.hid (show Cl (1 + x % 9) from ⟨by omega, by omega⟩)
  obtain ⟨c, hcc⟩ : ∃ c, 1 + x % 9 = c := ⟨_, rfl⟩
  rw [hcc] at HC
  obtain ⟨n, hnn⟩ : ∃ n, f.tmod 8 = n := ⟨_, rfl⟩
  have hn8 : -7 ≤ n ∧ n ≤ 7 := by
    have a1 := Int.tmod_lt_of_pos f (b := 8) (by omega)
    have a2 := Int.lt_tmod_of_pos f (b := 8) (by omega)
    omega
  have HF := Lib.hid (show Sg n from ⟨hn8.1, hn8.2⟩)
  have hl7 := sigL_len HF.out
  have HA := Lib.hid (fun (x : Int) (hx : x ∈ sigL n) => sgn_at' (c := c) HC.out HF.out hx)
  have HB := Lib.hid (fun (k j : Nat) (x y : Int) (hj : j < k) (hx : (sgnL c n)[k]? = some x) (hy : (sgnL c n)[j]? = some y) => sgn_apart' HC.out HF.out hj hx hy)
  have HS := Lib.hid (show ∀ (k : Nat) (x : Int), (sigL n)[k]? = some x → (sgnL c n)[k]? = some (sgnA c n x) from fun k x hx => by simp [sgnL, hx])
  have hlen : (sgnL c n).length = (sigL n).length := by simp [sgnL]
  have KS := Lib.hid (fun v hv => sgn_any c n v HC.out HF.out hv)
  have KT' := Lib.hid (fun v => steps_ok n v HF.out)
  generalize sgnL c n = S at *
  generalize sigL n = L at *
  go_enter Tryd.func9, Tryd.ntmps9
  go_wp2_with fail
  clear hcc hnn x9
  refine (KS.out _ C0.out).mono ?_
  rintro e w1 ⟨b1, rfl, hr, hb⟩
  have G1 := Lib.hid (show OptRow _ (some ⟨b1, 0, none⟩) S from fun _ => ⟨b1, rfl, hr⟩)
  have B1 := Lib.hid (B0.out.up hb)
  have C1 := Lib.hid (C0.out.below hb)
  clear hb hr B0 C0
  go_wp2_with fail
  refine (KT'.out _).mono ?_
  rintro e w2 ⟨v2, rfl, hown, hb⟩
  obtain ⟨ad2, cap2, rfl, hr⟩ := row1_own hown
  have J2 := Lib.hid (show OptRow _ ad2 L from hr)
  have G2 := Lib.hid (G1.out.up hb)
  have B2 := Lib.hid (B1.out.up hb)
  have C2 := Lib.hid (C1.out.below hb)
  clear hb hown hr B1 C1 G1
  go_wp2_with fail
  refine (known_ok _ C2.out).mono ?_
  rintro e w3 ⟨rfl, hb⟩
  have G3 := Lib.hid (G2.out.up hb)
  have J3 := Lib.hid (J2.out.up hb)
  have B3 := Lib.hid (B2.out.up hb)
  clear hb B2 C2 G2 J2
  try rw [hlen]
  have HC0 := Lib.hid hc
  clear hc
  go_wp2_with fail
  go_loopg [10] L.length (fun gm i wr => ∃ k : Nat, k ≤ L.length ∧ gm = L.length - k ∧ i = .int .i64 (k : Int) ∧ Hid (OptRow wr (some ⟨b1, 0, none⟩) S) ∧ Hid (OptRow wr ad2 L) ∧ Hid (Bel w wr))
  case atStart => exact ⟨0, by omega, by omega, rfl, G3, J3, B3⟩
  case round =>
    obtain ⟨k, hk, rfl, rfl, HG, HJ, HW⟩ := hrel
    clear G3 J3 B3
    by_cases hlt : k < L.length
    · obtain ⟨x, hx⟩ : ∃ x, L[k]? = some x := ⟨_, List.getElem?_eq_getElem hlt⟩
      have hs := HS.out k x hx
      obtain ⟨hpit, hstep, ha0, ha1⟩ := HA.out x (List.mem_of_getElem? hx)
      obtain ⟨z, hz⟩ : ∃ z, sgnA c n x = z := ⟨_, rfl⟩
      rw [hz] at hs hpit hstep ha0 ha1
      have HZ := Lib.hid hs
      obtain ⟨ga, hga, ra⟩ := HG.out (by rintro rfl; simp at hs)
      cases hga
      obtain ⟨gb, rfl, rb⟩ := HJ.out (by rintro rfl; simp at hlt)
      have q1 := ra k z hs
      have KA := fun v hv => at_ok c z v HC.out ha0 ha1 hpit hv
      rw [hstep] at KA
      replace KA := Lib.hid KA
      generalize (z + midI c) / 7 = O at *
      have HX := Lib.hid hx
      clear hs hz hpit hstep ra rb hx
      go_wp2_with fail
      clear q1
      refine (KA.out _ (HC0.out.below HW.out.out)).mono ?_
      rintro e w4 ⟨rfl, hb⟩
      have B4 := Lib.hid ((HW.out.up hb).alloc (.cells #[.int .i64 x, .int .i64 0, .int .i64 O] 23))
      have HU := Lib.hid (hb.alloc (Below.size hb) (.cells #[.int .i64 x, .int .i64 0, .int .i64 O] 23))
      have G4 := Lib.hid (HG.out.up HU.out)
      have J4 := Lib.hid (HJ.out.up HU.out)
      have P4 := Tri.new w4 (.int .i64 x) (.int .i64 0) (.int .i64 O) 23 w4.heap.size rfl
      clear hb HU HG HJ HW KA
      obtain ⟨gb2, hgb2, rb⟩ := J4.out (by rintro rfl; simp at hlt)
      cases hgb2
      have q2 := rb k x HX.out
      obtain ⟨p0, p1, p2, p3, p4, p5, p6⟩ := id P4
      clear rb
      go_wp2_with fail
      try (go_quiet (fail); go_wp2_with fail)
      go_loopg [13] k (fun gm i wr => ∃ j : Nat, j ≤ k ∧ gm = k - j ∧ i = .int .i64 (j : Int) ∧ Hid (OptRow wr (some ⟨b1, 0, none⟩) S) ∧ Hid (OptRow wr (some ⟨gb, 0, none⟩) L) ∧ Hid (Bel w wr))
      case atStart => exact ⟨0, by omega, by omega, rfl, Lib.hid (G4.out.up (below_drewN (Below.refl _ _) _)), Lib.hid (J4.out.up (below_drewN (Below.refl _ _) _)), Lib.hid (B4.out.up (below_drewN (Below.refl _ _) _))⟩
      case round =>
        obtain ⟨j, hj, rfl, rfl, HG, HJ, HW⟩ := hrel
        clear G4 J4 B4 q2 p0 p1 p2 p3 p4 p5 p6 P4
        by_cases hjt : j < k
        · obtain ⟨y, hy⟩ : ∃ y, S[j]? = some y := ⟨_, List.getElem?_eq_getElem (by omega)⟩
          obtain ⟨ga, hga, ra⟩ := HG.out (by rintro rfl; simp at hy)
          cases hga
          have q1 := ra k z HZ.out
          have q2 := ra j y hy
          obtain ⟨d1, d2, d3⟩ := HB.out k j z y hjt HZ.out hy
          have hj9 : j < L.length := by omega
          obtain ⟨z0, z1, z2⟩ : (z == y) = false ∧ decide (6 < z - y) = false ∧ decide (6 < y - z) = false := ⟨by simpa using d1, by simp; omega, by simp; omega⟩
          have i1 : IntKind.i64.wrap (z - y) = z - y := (IntWalk.i64_left _).trans (IntWalk.wrap64_in _ ⟨by omega, by omega⟩)
          have i2 : IntKind.i64.wrap (y - z) = y - z := (IntWalk.i64_left _).trans (IntWalk.wrap64_in _ ⟨by omega, by omega⟩)
          clear ra hy
          go_wp2_with fail
          go_quiet (fail)
          go_wp2_with fail
          go_roundg (k - (j + 1))
          case measure => omega
          case rel => exact ⟨j + 1, by omega, rfl, by go_num, Lib.hid (HG.out.up (below_drewN (Below.refl _ _) _)), Lib.hid (HJ.out.up (below_drewN (Below.refl _ _) _)), Lib.hid (HW.out.up (below_drewN (Below.refl _ _) _))⟩
        · obtain rfl : j = k := by omega
          go_wp2_with fail
          go_roundg (L.length - (j + 1))
          case measure => omega
          case rel => exact ⟨j + 1, by omega, rfl, by go_num, HG, HJ, HW⟩
    · obtain rfl : k = L.length := by omega
      go_wp2_with fail
      go_ret
      exact ⟨rfl, HW.out.out⟩
theorem law_ClefShapes (x f : Int) (w : World) (x0 : 0 ≤ x) (x1 : x ≤ 255) (f0 : -128 ≤ f) (f1 : f ≤ 127) (hc : CW w) :
    Calls Tryd.prog 9 #[.int .u8 x, .int .i8 f] w fun e w' => e = .returned (.bool true) ∧ Below w.heap.size w w' := shapes_ok x f w x0 x1 f0 f1 hc
end Go.Proofs.YtmdnlnjapkcanaaDoor
