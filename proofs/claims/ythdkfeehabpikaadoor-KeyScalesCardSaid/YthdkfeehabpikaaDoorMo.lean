/- Keys: Naturals. -/
import Derived.Test.YthdkfeehabpikaaDoorMn
import Derived.Test.YthdkfeehabpikaaDoorMs
import Derived.Test.YthdkfeehabpikaaDoorKe
namespace Go.Proofs.YthdkfeehabpikaaDoor
open Go.RowKit
set_option linter.unusedVariables false
set_option linter.unusedSimpArgs false

set_option maxRecDepth 100000 in
set_option maxHeartbeats 2000000 in
theorem nats_b1 (f t : Int) (w : World) (h : ¬ Sg f) (hk : KT w) :
    Calls Tryd.prog 15 #[.int .i64 f, .int .i64 t] w fun e w' => e = .returned (.tuple #[.slice none 0 0, .int .i64 2]) ∧ Below w.heap.size w w' := by
  have HP := Lib.hid h
  have B0 := Lib.hid ((Bel.refl w).alloc (.cells #[.int .i64 t] 3))
  have K0 := Lib.hid (hk.below ((Below.refl _ _).alloc (Nat.le_refl _) (.cells #[.int .i64 t] 3)))
  have U0 := Uno.new w (.int .i64 t) 3 (w.heap.size) (by simp)
  go_enter Tryd.func15, Tryd.ntmps15
  obtain ⟨uf0, uf1, uf2⟩ := id U0
  go_wp2_with fail
  clear uf0 uf1 uf2
  refine (checkK_bad f _ HP.out).mono ?_
  rintro e w1 ⟨rfl, hb⟩
  have B1 := Lib.hid (B0.out.up hb)
  have K1 := Lib.hid (K0.out.below hb)
  have U1 := U0.up hb
  clear hb B0 K0 U0
  obtain ⟨uf0, uf1, uf2⟩ := id U1
  go_wp2_with fail
  go_ret2
  exact ⟨rfl, B1.out.out⟩
set_option maxRecDepth 100000 in
set_option maxHeartbeats 2000000 in
theorem nats_b2 (f t : Int) (w : World) (h : Sg f) (k : ¬ Sg t) (hk : KT w) :
    Calls Tryd.prog 15 #[.int .i64 f, .int .i64 t] w fun e w' => e = .returned (.tuple #[.slice none 0 0, .int .i64 2]) ∧ Below w.heap.size w w' := by
  have HP := Lib.hid h
  have HQ := Lib.hid k
  have B0 := Lib.hid ((Bel.refl w).alloc (.cells #[.int .i64 t] 3))
  have K0 := Lib.hid (hk.below ((Below.refl _ _).alloc (Nat.le_refl _) (.cells #[.int .i64 t] 3)))
  have U0 := Uno.new w (.int .i64 t) 3 (w.heap.size) (by simp)
  go_enter Tryd.func15, Tryd.ntmps15
  obtain ⟨uf0, uf1, uf2⟩ := id U0
  go_wp2_with fail
  clear uf0 uf1 uf2
  refine (checkK_ok f _ HP.out).mono ?_
  rintro e w1 ⟨rfl, hb⟩
  have B1 := Lib.hid (B0.out.up hb)
  have K1 := Lib.hid (K0.out.below hb)
  have U1 := U0.up hb
  clear hb B0 K0 U0
  obtain ⟨uf0, uf1, uf2⟩ := id U1
  go_wp2_with fail
  clear uf0 uf1 uf2
  refine (checkK_bad t _ HQ.out).mono ?_
  rintro e w2 ⟨rfl, hb⟩
  have B2 := Lib.hid (B1.out.up hb)
  have K2 := Lib.hid (K1.out.below hb)
  have U2 := U1.up hb
  clear hb B1 K1 U1
  obtain ⟨uf0, uf1, uf2⟩ := id U2
  go_wp2_with fail
  go_ret2
  exact ⟨rfl, B2.out.out⟩
set_option maxRecDepth 100000 in
set_option maxHeartbeats 2000000 in
theorem nats_ok (f t : Int) (w : World) (h : Sg f) (k : Sg t) (hk : KT w) :
    Calls Tryd.prog 15 #[.int .i64 f, .int .i64 t] w fun e w' => ∃ b cap, e = .returned (.tuple #[.slice (some ⟨b, 0, none⟩) (natL t (sigL f)).length cap, .int .i64 0]) ∧ Row1 w' b (natL t (sigL f)) ∧ Below w.heap.size w w' := by
  have HP := Lib.hid h
  have HQ := Lib.hid k
  have hl7 := sigL_len h
  have B0 := Lib.hid ((Bel.refl w).alloc (.cells #[.int .i64 t] 3))
  have K0 := Lib.hid (hk.below ((Below.refl _ _).alloc (Nat.le_refl _) (.cells #[.int .i64 t] 3)))
  have U0 := Uno.new w (.int .i64 t) 3 (w.heap.size) (by simp)
  go_enter Tryd.func15, Tryd.ntmps15
  obtain ⟨uf0, uf1, uf2⟩ := id U0
  go_wp2_with fail
  clear uf0 uf1 uf2
  refine (checkK_ok f _ HP.out).mono ?_
  rintro e w1 ⟨rfl, hb⟩
  have B1 := Lib.hid (B0.out.up hb)
  have K1 := Lib.hid (K0.out.below hb)
  have U1 := U0.up hb
  clear hb B0 K0 U0
  obtain ⟨uf0, uf1, uf2⟩ := id U1
  go_wp2_with fail
  clear uf0 uf1 uf2
  refine (checkK_ok t _ HQ.out).mono ?_
  rintro e w2 ⟨rfl, hb⟩
  have B2 := Lib.hid (B1.out.up hb)
  have K2 := Lib.hid (K1.out.below hb)
  have U2 := U1.up hb
  clear hb B1 K1 U1
  obtain ⟨uf0, uf1, uf2⟩ := id U2
  go_wp2_with fail
  refine (sig2_ok f _ HP.out K2.out).mono ?_
  rintro e w3 ⟨g, rfl, hg, hs, hb⟩
  have S3 := Lib.hid hs
  have D3 := Lib.hid hb
  clear hs hb
  go_wp2_with fail
  refine (delete_ok (sigL f) t (svI f) g w.heap.size w2 w3 HQ.out hl7 D3.out hg K2.out U2 S3.out (fun j x hx => svI_at hx)).mono ?_
  rintro e w4 ⟨cap, rfl, hr, hb⟩
  have R4 := Lib.hid hr
  have B4 := Lib.hid (B2.out.up hb)
  clear hr hb
  go_wp2_with fail
  go_ret2
  exact ⟨g, cap, rfl, R4.out, B4.out.out⟩
def OptRow (w : World) (ad : Option Addr) (L : List Int) : Prop := L ≠ [] → ∃ g, ad = some ⟨g, 0, none⟩ ∧ Row1 w g L
theorem OptRow.up {w w' : World} {ad : Option Addr} {L : List Int} (h : OptRow w ad L) (hb : Below w.heap.size w w') : OptRow w' ad L := fun hn => let ⟨g, e, hr⟩ := h hn; ⟨g, e, hr.up hb⟩
set_option maxRecDepth 100000 in
set_option maxHeartbeats 4000000 in
theorem rnat_ok (f t : Int) (w : World) (h : Sg f) (k : Sg t) :
    Calls Tryd.prog 17 #[.int .i64 f, .int .i64 t] w fun e w' => ∃ v, e = .returned v ∧ w'.ownsRow w.heap.size 3 1 v (natL t (sigL f)).length (ints (natL t (sigL f))) ∧ Below w.heap.size w w' := by
  obtain ⟨i0, hi, hz0, hz1, hz2⟩ := info_parts infoI
  have HP := Lib.hid h
  have HQ := Lib.hid k
  have hl7 := sigL_len h
  have KS := Lib.hid (fun v => refSig_ok f v h)
  clear h
  generalize sigL f = L at *
  go_enter Tryd.func17, Tryd.ntmps17
  go_wp2_with fail
  refine (KS.out _).mono ?_
  rintro e w1 ⟨v, rfl, hown, hb⟩
  have B1 := Lib.hid (Bel.up (Bel.refl w) hb)
  obtain ⟨ad, cap, rfl, hrow⟩ := row1_own hown
  have R1 := Lib.hid (show OptRow w1 ad L from hrow)
  have A1 := Lib.hid (show RS w1 w1 (.slice none 0 0) (natL t (L.take 0)) from ⟨Bel.refl w1, World.ownsRow_nil _ _ _ _⟩)
  have hwz : w.heap.size ≤ w1.heap.size := B1.out.size
  clear hown hb hrow
  go_wp2_with fail
  go_loopg [5, 7] L.length (fun gm out i wr => ∃ k : Nat, k ≤ L.length ∧ gm = L.length - k ∧ i = .int .i64 (k : Int) ∧ Hid (RS w1 wr out (natL t (L.take k))))
  case atStart => exact ⟨0, by omega, by omega, rfl, A1⟩
  case round =>
    obtain ⟨k, hk, rfl, rfl, HS⟩ := hrel
    clear A1
    by_cases hlt : k < L.length
    · obtain ⟨g, rfl, hg⟩ := R1.out (by rintro rfl; simp at hlt)
      obtain ⟨x, hx⟩ : ∃ x, L[k]? = some x := ⟨_, List.getElem?_eq_getElem hlt⟩
      have q1 := (hg.up HS.out.bel.out) k x hx
      have HX := Lib.hid hx
      have HG := Lib.hid (show Row1 w1 g L from hg)
      have hl := Lib.hid (show (natL t (L.take k)).length ≤ 7 by have := List.length_filter_le (natQ t) (L.take k); unfold natL; simp at this; omega)
      clear hx hg
      go_wp2_with fail
      clear q1
      refine (refAlter_ok t x _ HQ.out).mono ?_
      rintro e w2 ⟨rfl, hb⟩
      have HS2 := Lib.hid (HS.out.up hb)
      have q2 := (HG.out.up HS2.out.bel.out) k x HX.out
      have hw2 : w1.heap.size ≤ w2.heap.size := HS2.out.bel.size
      clear hb HS
      by_cases hm : alI t x = 0
      · have HN := Lib.hid (natL_hit HX.out hm)
        rw [hm]
        clear hm
        go_wp2_with (first | (at_builtin; refine wpList_append_own _ rfl _ _ 34 rfl w1.heap.size 3 i0 (.int .i64 0) 1 8 Tryd.underlying34 hi hz0 hz1 hz2 rfl (by decide) _ _ _ rfl (HS2.out.own.alloc _) ⟨w2.heap.size, 0, none⟩ 1 1 [.int .i64 x] rfl rfl (cell1_new _ _ _ _ rfl) (by simp [Value.oneCell']) (by have := hl.out; unfold maxLen; omega) (by have := hl.out; omega) (by simp; omega) ?_; intro v' w9 hown' hgrow _))
        go_roundg (L.length - (k + 1))
        case measure => omega
        case rel =>
          refine ⟨k + 1, by omega, rfl, by go_num, Lib.hid ⟨Below.grown (HS2.out.bel.alloc _) hgrow (by simp; omega) (fun r hr => (HS2.out.own.lt r hr).1), ?_⟩⟩
          rw [HN.out, List.length_append, ints_snoc]
          exact hown'
      · have HN := Lib.hid (natL_miss HX.out hm)
        have e1 : (alI t x == 0) = false := by simpa using hm
        clear hm
        generalize alI t x = AL at *
        go_wp2_with fail
        go_roundg (L.length - (k + 1))
        case measure => omega
        case rel => exact ⟨k + 1, by omega, rfl, by go_num, Lib.hid (by rw [HN.out]; exact HS2.out)⟩
    · obtain rfl : k = L.length := by omega
      go_wp2_with fail
      go_ret
      refine ⟨_, rfl, ?_, B1.out.out.trans (HS.out.bel.out.mono hwz)⟩
      have := HS.out.own
      rw [List.take_length] at this
      exact own_mono this hwz
set_option maxRecDepth 100000 in
set_option maxHeartbeats 2000000 in
theorem natLaw1 (f t : Int) (w : World) (h : ¬ Sg f) (hk : KT w) :
    Calls Tryd.prog 6 #[.int .i64 f, .int .i64 t] w fun e w' => e = .returned (.bool true) ∧ Below w.heap.size w w' := by
  have HP := Lib.hid h
  have B0 := Lib.hid (Bel.refl w)
  have K0 := Lib.hid hk
  go_enter Tryd.func6, Tryd.ntmps6
  go_wp2_with fail
  refine (nats_b1 f t _ HP.out K0.out).mono ?_
  rintro e w1 ⟨rfl, hb⟩
  have B1 := Lib.hid (B0.out.up hb)
  have K1 := Lib.hid (K0.out.below hb)
  clear hb B0 K0 
  go_wp2_with fail
  refine (known_any _ K1.out).mono ?_
  rintro e w2 ⟨rfl, hb⟩
  have B2 := Lib.hid (B1.out.up hb)
  have K2 := Lib.hid (K1.out.below hb)
  clear hb B1 K1 
  go_wp2_with fail
  refine (isK_bad f _ HP.out).mono ?_
  rintro e w3 ⟨rfl, hb⟩
  have B3 := Lib.hid (B2.out.up hb)
  have K3 := Lib.hid (K2.out.below hb)
  clear hb B2 K2 
  go_wp2_with fail
  go_ret
  exact ⟨rfl, B3.out.out⟩
set_option maxRecDepth 100000 in
set_option maxHeartbeats 2000000 in
theorem natLaw2 (f t : Int) (w : World) (h : Sg f) (k : ¬ Sg t) (hk : KT w) :
    Calls Tryd.prog 6 #[.int .i64 f, .int .i64 t] w fun e w' => e = .returned (.bool true) ∧ Below w.heap.size w w' := by
  have HP := Lib.hid h
  have HQ := Lib.hid k
  have B0 := Lib.hid (Bel.refl w)
  have K0 := Lib.hid hk
  go_enter Tryd.func6, Tryd.ntmps6
  go_wp2_with fail
  refine (nats_b2 f t _ HP.out HQ.out K0.out).mono ?_
  rintro e w1 ⟨rfl, hb⟩
  have B1 := Lib.hid (B0.out.up hb)
  have K1 := Lib.hid (K0.out.below hb)
  clear hb B0 K0 
  go_wp2_with fail
  refine (known_any _ K1.out).mono ?_
  rintro e w2 ⟨rfl, hb⟩
  have B2 := Lib.hid (B1.out.up hb)
  have K2 := Lib.hid (K1.out.below hb)
  clear hb B1 K1 
  go_wp2_with fail
  refine (isK_ok f _ HP.out).mono ?_
  rintro e w3 ⟨rfl, hb⟩
  have B3 := Lib.hid (B2.out.up hb)
  have K3 := Lib.hid (K2.out.below hb)
  clear hb B2 K2 
  go_wp2_with fail
  refine (isK_bad t _ HQ.out).mono ?_
  rintro e w4 ⟨rfl, hb⟩
  have B4 := Lib.hid (B3.out.up hb)
  have K4 := Lib.hid (K3.out.below hb)
  clear hb B3 K3 
  go_wp2_with fail
  go_ret
  exact ⟨rfl, B4.out.out⟩
set_option maxRecDepth 100000 in
set_option maxHeartbeats 2000000 in
theorem natLaw3 (f t : Int) (w : World) (h : Sg f) (k : Sg t) (hk : KT w) :
    Calls Tryd.prog 6 #[.int .i64 f, .int .i64 t] w fun e w' => e = .returned (.bool true) ∧ Below w.heap.size w w' := by
  have HP := Lib.hid h
  have HQ := Lib.hid k
  have HL := Lib.hid (show (natL t (sigL f)).length ≤ 7 by have := sigL_len h; have := List.length_filter_le (natQ t) (sigL f); unfold natL; omega)
  have B0 := Lib.hid (Bel.refl w)
  have K0 := Lib.hid hk
  go_enter Tryd.func6, Tryd.ntmps6
  go_wp2_with fail
  refine (nats_ok f t _ HP.out HQ.out K0.out).mono ?_
  rintro e w1 ⟨b, cap1, rfl, hr, hb⟩
  have G1 := Lib.hid hr
  clear hr
  have B1 := Lib.hid (B0.out.up hb)
  have K1 := Lib.hid (K0.out.below hb)
  clear hb B0 K0 
  go_wp2_with fail
  refine (known_any _ K1.out).mono ?_
  rintro e w2 ⟨rfl, hb⟩
  have B2 := Lib.hid (B1.out.up hb)
  have K2 := Lib.hid (K1.out.below hb)
  have G2 := Lib.hid (G1.out.up hb)
  clear hb B1 K1 G1 
  go_wp2_with fail
  refine (isK_ok f _ HP.out).mono ?_
  rintro e w3 ⟨rfl, hb⟩
  have B3 := Lib.hid (B2.out.up hb)
  have K3 := Lib.hid (K2.out.below hb)
  have G3 := Lib.hid (G2.out.up hb)
  clear hb B2 K2 G2 
  go_wp2_with fail
  refine (isK_ok t _ HQ.out).mono ?_
  rintro e w4 ⟨rfl, hb⟩
  have B4 := Lib.hid (B3.out.up hb)
  have K4 := Lib.hid (K3.out.below hb)
  have G4 := Lib.hid (G3.out.up hb)
  clear hb B3 K3 G3 
  go_wp2_with fail
  refine (rnat_ok f t _ HP.out HQ.out).mono ?_
  rintro e w5 ⟨v5, rfl, hown, hb⟩
  obtain ⟨ad, cap2, rfl, hrow⟩ := row1_own hown
  have J5 := Lib.hid (show OptRow _ ad (natL t (sigL f)) from hrow)
  clear hown hrow
  have B5 := Lib.hid (B4.out.up hb)
  have K5 := Lib.hid (K4.out.below hb)
  have G5 := Lib.hid (G4.out.up hb)
  clear hb B4 K4 G4 
  go_wp2_with fail
  refine (numbers_same (natL t (sigL f)) b cap1 ad cap2 _ HL.out G5.out J5.out).mono ?_
  rintro e w6 ⟨rfl, hb⟩
  have B6 := Lib.hid (B5.out.up hb)
  have K6 := Lib.hid (K5.out.below hb)
  have G6 := Lib.hid (G5.out.up hb)
  have J6 := Lib.hid (J5.out.up hb)
  clear hb B5 K5 G5 J5 
  go_wp2_with fail
  go_ret
  exact ⟨rfl, B6.out.out⟩
theorem law_KeyNaturals (f t : Int) (w : World) (hk : KT w) : Calls Tryd.prog 6 #[.int .i64 f, .int .i64 t] w fun e w' => e = .returned (.bool true) ∧ Below w.heap.size w w' := by
  by_cases h : Sg f
  · by_cases k : Sg t
    · exact natLaw3 f t w h k hk
    · exact natLaw2 f t w h k hk
  · exact natLaw1 f t w h hk
end Go.Proofs.YthdkfeehabpikaaDoor
