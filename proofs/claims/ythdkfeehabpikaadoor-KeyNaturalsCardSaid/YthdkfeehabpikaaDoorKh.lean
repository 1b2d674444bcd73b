/- Keys: the reference's Alter; Alter, Signature. -/
import Derived.Test.YthdkfeehabpikaaDoorKg
namespace Go.Proofs.YthdkfeehabpikaaDoor
open Go.RowKit
set_option linter.unusedVariables false
set_option linter.unusedSimpArgs false

theorem row1_own {w : World} {base : Nat} {v : Value} {L : List Int} (h : w.ownsRow base 3 1 v L.length (ints L)) : ∃ ad cap, v = .slice ad L.length cap ∧ (L ≠ [] → ∃ g, ad = some ⟨g, 0, none⟩ ∧ Row1 w g L) := by
  have own := h
  rcases h.2 with ⟨h1, h0⟩ | ⟨g, cap, cur, rfl, hg, _, _⟩
  · have : L = [] := List.length_eq_zero_iff.1 h0
    subst this
    exact ⟨_, _, h1, fun h => absurd rfl h⟩
  · refine ⟨_, _, rfl, fun _ => ⟨g, rfl, fun k x hx => ?_⟩⟩
    have hk := (List.getElem?_eq_some_iff.1 hx).1
    rw [own.cellAt k (by omega)]
    simp [ints, hx]
set_option maxRecDepth 100000 in
set_option maxHeartbeats 2000000 in
theorem refAlter_ok (f r : Int) (w : World) (h : Sg f) :
    Calls Tryd.prog 24 #[.int .i64 f, .int .i64 r] w fun e w' => e = .returned (.int .i64 (alI f r)) ∧ Below w.heap.size w w' := by
  have B0 := Lib.hid (Bel.refl w)
  have HP := Lib.hid h
  go_enter Tryd.func24, Tryd.ntmps24
  go_wp2_with fail
  refine (refSig_ok f _ HP.out).mono ?_
  rintro e w1 ⟨v, rfl, hown, hb⟩
  have B1 := Lib.hid (B0.out.up hb)
  obtain ⟨ad, cap, rfl, hrow⟩ := row1_own hown
  have HR := Lib.hid hrow
  have hlen := sigL_len HP.out
  have HX := Lib.hid (show ∀ x ∈ sigL f, x = r → alI f r = if 0 < f then 1 else -1 from fun x hx e => by subst e; unfold alI; rw [if_pos hx])
  have HY := Lib.hid (show (∀ (j : Nat) (x : Int), (sigL f)[j]? = some x → x ≠ r) → alI f r = 0 from fun hn => by
    unfold alI
    rw [if_neg]
    intro hm
    obtain ⟨j, hj, he⟩ := List.getElem_of_mem hm
    exact hn j _ (List.getElem?_eq_getElem hj) he)
  clear hown hb hrow B0
  generalize sigL f = L at HR HX HY hlen
  go_wp2_with fail
  go_loopg [6] L.length (fun gm i wr => ∃ k : Nat, k ≤ L.length ∧ gm = L.length - k ∧ i = .int .i64 (k : Int) ∧ Hid (∀ (j : Nat) (x : Int), j < k → L[j]? = some x → x ≠ r) ∧ Hid (Bel w1 wr))
  case atStart => exact ⟨0, by omega, by omega, rfl, Lib.hid (fun j x hj => absurd hj (by omega)), Lib.hid (Bel.refl w1)⟩
  case round =>
    obtain ⟨k, hk, rfl, rfl, HN, HB⟩ := hrel
    by_cases hlt : k < L.length
    · obtain ⟨g, rfl, hg⟩ := HR.out (by rintro rfl; simp at hlt)
      obtain ⟨x, hx⟩ : ∃ x, L[k]? = some x := ⟨_, List.getElem?_eq_getElem hlt⟩
      have q1 := (hg.up HB.out.out) k x hx
      have HQ := Lib.hid hx
      have hmem := Lib.hid (List.mem_of_getElem? hx)
      clear hx hg
      by_cases hm : x = r
      · have e0 : (x == r) = true := by simpa using hm
        have HE := Lib.hid (HX.out x hmem.out hm)
        clear hm
        by_cases h0 : 0 < f
        · have E := Lib.hid (HE.out.trans (if_pos h0))
          clear HE
          go_wp2_with fail
          go_ret
          exact ⟨by rw [E.out]; first | done | rfl, B1.out.up HB.out.out⟩
        · have E := Lib.hid (HE.out.trans (if_neg h0))
          clear HE
          go_wp2_with fail
          go_ret
          exact ⟨by rw [E.out]; first | done | rfl, B1.out.up HB.out.out⟩
      · have e0 : (x == r) = false := by simpa using hm
        have HM := Lib.hid hm
        clear hm
        go_wp2_with fail
        go_roundg (L.length - (k + 1))
        case measure => omega
        case rel => exact ⟨k + 1, by omega, rfl, by go_num, Lib.hid (fun j y hj hy => by
          by_cases e : j = k
          · subst e; rw [HQ.out] at hy; cases hy; exact HM.out
          · exact HN.out j y (by omega) hy), HB⟩
    · obtain rfl : k = L.length := by omega
      go_wp2_with fail
      go_ret
      exact ⟨by rw [HY.out (fun j x hx => HN.out j x (List.getElem?_eq_some_iff.1 hx).1 hx)]; first | done | rfl, B1.out.up HB.out.out⟩
set_option maxRecDepth 100000 in
set_option maxHeartbeats 2000000 in
theorem isStep_y (r : Int) (w : World) (r0 : 0 ≤ r) (r1 : r ≤ 6) :
    Calls Tryd.prog 44 #[.int .i64 r] w fun e w' => e = .returned (.bool true) ∧ Below w.heap.size w w' := by
  have B0 := Lib.hid (Bel.refl w)
  go_enter Tryd.func44, Tryd.ntmps44
  go_wp2_with fail
  go_ret
  exact ⟨by first | rfl | (simp; done) | (simp; omega), B0.out.out⟩
set_option maxRecDepth 100000 in
set_option maxHeartbeats 2000000 in
theorem isStep_lo (r : Int) (w : World) (h : r < 0) :
    Calls Tryd.prog 44 #[.int .i64 r] w fun e w' => e = .returned (.bool false) ∧ Below w.heap.size w w' := by
  have B0 := Lib.hid (Bel.refl w)
  go_enter Tryd.func44, Tryd.ntmps44
  go_wp2_with fail
  go_ret
  exact ⟨by first | rfl | (simp; done) | (simp; omega), B0.out.out⟩
set_option maxRecDepth 100000 in
set_option maxHeartbeats 2000000 in
theorem isStep_hi (r : Int) (w : World) (r0 : 0 ≤ r) (h : 6 < r) :
    Calls Tryd.prog 44 #[.int .i64 r] w fun e w' => e = .returned (.bool false) ∧ Below w.heap.size w w' := by
  have B0 := Lib.hid (Bel.refl w)
  go_enter Tryd.func44, Tryd.ntmps44
  go_wp2_with fail
  go_ret
  exact ⟨by first | rfl | (simp; done) | (simp; omega), B0.out.out⟩
theorem isStep_n (r : Int) (w : World) (h : r < 0 ∨ 6 < r) : Calls Tryd.prog 44 #[.int .i64 r] w fun e w' => e = .returned (.bool false) ∧ Below w.heap.size w w' := by
  by_cases h0 : r < 0
  · exact isStep_lo r w h0
  · exact isStep_hi r w (by omega) (by omega)
set_option maxRecDepth 100000 in
set_option maxHeartbeats 2000000 in
theorem sigK_bad (f : Int) (w : World) (h : ¬ Sg f) (hk : KT w) :
    Calls Tryd.prog 21 #[.int .i64 f] w fun e w' => e = .returned (.tuple #[.slice none 0 0, .int .i64 2]) ∧ Below w.heap.size w w' := by
  have B0 := Lib.hid (Bel.refl w)
  have K0 := Lib.hid hk
  have HP := Lib.hid h
  go_enter Tryd.func21, Tryd.ntmps21
  go_wp2_with fail
  refine (checkK_bad f _ HP.out).mono ?_
  rintro e w1 ⟨rfl, hb⟩
  have B1 := Lib.hid (B0.out.up hb)
  have K1 := Lib.hid (K0.out.below hb)
  clear hb B0 K0 
  go_wp2_with fail
  go_ret2
  exact ⟨rfl, B1.out.out⟩
set_option maxRecDepth 100000 in
set_option maxHeartbeats 2000000 in
theorem sigK_ok (f : Int) (w : World) (h : Sg f) (hk : KT w) :
    Calls Tryd.prog 21 #[.int .i64 f] w fun e w' => ∃ b, e = .returned (.tuple #[.slice (some ⟨b, 0, none⟩) (sigL f).length 7, .int .i64 0]) ∧ Row1 w' b (sigL f) ∧ Below w.heap.size w w' := by
  have B0 := Lib.hid (Bel.refl w)
  have K0 := Lib.hid hk
  have HP := Lib.hid h
  go_enter Tryd.func21, Tryd.ntmps21
  go_wp2_with fail
  refine (checkK_ok f _ HP.out).mono ?_
  rintro e w1 ⟨rfl, hb⟩
  have B1 := Lib.hid (B0.out.up hb)
  have K1 := Lib.hid (K0.out.below hb)
  clear hb B0 K0 
  go_wp2_with fail
  refine (sig_ok f _ HP.out K1.out).mono ?_
  rintro e w2 ⟨b, rfl, hr, hb⟩
  have G1 := Lib.hid hr
  clear hr
  have B2 := Lib.hid (B1.out.up hb)
  have K2 := Lib.hid (K1.out.below hb)
  clear hb B1 K1 
  go_wp2_with fail
  go_ret2
  exact ⟨b, rfl, G1.out, B2.out.out⟩
set_option maxRecDepth 100000 in
set_option maxHeartbeats 2000000 in
theorem numbers_same (L : List Int) (b cap : Nat) (ad : Option Addr) (cap' : Nat) (w : World) (hl : L.length ≤ 7) (hr : Row1 w b L) (hs : L ≠ [] → ∃ g, ad = some ⟨g, 0, none⟩ ∧ Row1 w g L) :
    Calls Tryd.prog 16 #[.slice (some ⟨b, 0, none⟩) L.length cap, .slice ad L.length cap'] w fun e w' => e = .returned (.bool true) ∧ Below w.heap.size w w' := by
  have HR := Lib.hid hr
  have HS := Lib.hid hs
  clear hr hs
  go_enter Tryd.func16, Tryd.ntmps16
  go_wp2_with fail
  go_loopg [5] L.length (fun gm i wr => ∃ k : Nat, k ≤ L.length ∧ gm = L.length - k ∧ i = .int .i64 (k : Int) ∧ Hid (Bel w wr))
  case atStart => exact ⟨0, by omega, by omega, rfl, Lib.hid (Bel.refl w)⟩
  case round =>
    obtain ⟨k, hk, rfl, rfl, HB⟩ := hrel
    by_cases hlt : k < L.length
    · obtain ⟨g, rfl, hg⟩ := HS.out (by rintro rfl; simp at hlt)
      obtain ⟨x, hx⟩ : ∃ x, L[k]? = some x := ⟨_, List.getElem?_eq_getElem hlt⟩
      have q1 := (HR.out.up HB.out.out) k x hx
      have q2 := (hg.up HB.out.out) k x hx
      clear hx hg
      go_wp2_with fail
      try (go_quiet (fail); go_wp2_with fail)
      go_roundg (L.length - (k + 1))
      case measure => omega
      case rel => exact ⟨k + 1, by omega, rfl, by go_num, by first | exact HB | exact Lib.hid (below_drewN HB.out.out _)⟩
    · obtain rfl : k = L.length := by omega
      go_wp2_with fail
      go_ret
      exact ⟨rfl, HB.out.out⟩
end Go.Proofs.YthdkfeehabpikaaDoor
