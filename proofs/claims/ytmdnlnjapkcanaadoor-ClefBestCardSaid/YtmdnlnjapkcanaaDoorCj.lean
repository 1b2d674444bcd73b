/- Clefs: the examples; the reference's Ledger; law ClefLedgers. -/
import Derived.Test.YtmdnlnjapkcanaaDoorCi
namespace Go.Proofs.YtmdnlnjapkcanaaDoor
open Go.RowKit
set_option linter.unusedVariables false
set_option linter.unusedSimpArgs false

theorem k1 : diaP 0 4 - midI 1 = -6 := by decide
theorem k2 : (-17 + midI 2) % 7 = 5 := by decide
theorem k3 : (-17 + midI 2) / 7 = 0 := by decide
theorem k4 : ledL (-7) = [-6] := by decide
theorem k5 : sgnL 1 3 = [4, 1, 5] := by decide
theorem cl1 : Cl 1 := by decide
theorem cl2 : Cl 2 := by decide
theorem sg3 : Sg 3 := by decide
theorem pit4 : Pit 0 0 4 := by decide
theorem pit5 : Pit ((-17 + midI 2) % 7) 0 ((-17 + midI 2) / 7) := by decide
theorem row_of {w : World} {b : Nat} {v : Value} {L : List Int} (h : w.ownsRow b 3 1 v L.length (ints L)) (hn : L ≠ []) : ∃ g cap, v = .slice (some ⟨g, 0, none⟩) L.length cap ∧ Row1 w g L := by
  obtain ⟨ad, cap, rfl, hr⟩ := row1_own h
  obtain ⟨g, rfl, hg⟩ := hr hn
  exact ⟨g, cap, rfl, hg⟩
set_option maxRecDepth 100000 in
set_option maxHeartbeats 2000000 in
theorem known_ok  (w : World) (hc : CW w) :
    Calls Tryd.prog 12 #[] w fun e w' => e = .returned (.bool true) ∧ Below w.heap.size w w' := by
  have B0 := Lib.hid (Bel.refl w)
  have C0 := Lib.hid hc
  go_enter Tryd.func12, Tryd.ntmps12
  go_wp2_with fail
  refine (pos_ok 1 0 0 4 _ cl1 pit4 C0.out).mono ?_
  rintro e w1 ⟨rfl, hb⟩
  rw [k1]
  have B1 := Lib.hid (B0.out.up hb)
  have C1 := Lib.hid (C0.out.below hb)
  clear hb B0 C0 
  go_wp2_with fail
  refine (at_ok 2 (-17) _ cl2 (by decide) (by decide) pit5 C1.out).mono ?_
  rintro e w2 ⟨rfl, hb⟩
  rw [k2, k3]
  have B2 := Lib.hid ((B1.out.up hb).alloc (.cells #[.int .i64 5, .int .i64 0, .int .i64 0] 23))
  have C2 := Lib.hid ((C1.out.below hb).below ((Below.refl _ _).alloc (Nat.le_refl _) (.cells #[.int .i64 5, .int .i64 0, .int .i64 0] 23)))
  have Q2 := Tri.new w2 (.int .i64 5) (.int .i64 0) (.int .i64 0) 23 (w2.heap.size) (by simp)
  clear hb B1 C1 
  obtain ⟨qf0, qf1, qf2, qf3, qf4, qf5, qf6⟩ := id Q2
  go_wp2_with fail
  clear qf0 qf1 qf2 qf3 qf4 qf5 qf6
  refine (led_any (-7) _).mono ?_
  rintro e w3 ⟨v3, rfl, hown, hb⟩
  rw [k4] at hown
  obtain ⟨g3, cap3, rfl, hr3⟩ := row_of hown (by decide)
  have L3 := Lib.hid hr3
  clear hown hr3
  have B3 := Lib.hid (B2.out.up hb)
  have C3 := Lib.hid (C2.out.below hb)
  have Q3 := Q2.up hb
  clear hb B2 C2 Q2
  obtain ⟨qf0, qf1, qf2, qf3, qf4, qf5, qf6⟩ := id Q3
  go_wp2_with fail
  clear qf0 qf1 qf2 qf3 qf4 qf5 qf6
  refine (sgn_pos 1 3 _ cl1 sg3 (by decide) C3.out).mono ?_
  rintro e w4 ⟨g4, rfl, hr4, hb⟩
  rw [k5] at hr4
  rw [k5]
  have S4 := Lib.hid hr4
  clear hr4
  have B4 := Lib.hid (B3.out.up hb)
  have C4 := Lib.hid (C3.out.below hb)
  have L4 := Lib.hid (L3.out.up hb)
  have Q4 := Q3.up hb
  clear hb B3 C3 L3 Q3
  obtain ⟨qf0, qf1, qf2, qf3, qf4, qf5, qf6⟩ := id Q4
  have l0 := L4.out 0 (-6) rfl
  have s0 := S4.out 0 4 rfl
  have s1 := S4.out 1 1 rfl
  have s2 := S4.out 2 5 rfl
  go_wp2_with fail
  try (go_quiet (fail); go_wp2_with fail)
  go_ret
  exact ⟨rfl, B4.out.out⟩
set_option maxRecDepth 100000 in
set_option maxHeartbeats 2000000 in
theorem rled_far (p : Int) (w : World) (h : p < -200 ∨ 200 < p) :
    Calls Tryd.prog 23 #[.int .i64 p] w fun e w' => ∃ v, e = .returned v ∧ w'.ownsRow w.heap.size 3 1 v (ledL p).length (ints (ledL p)) ∧ Below w.heap.size w w' := by
  have B0 := Lib.hid (Bel.refl w)
  rw [show ledL p = [] from if_pos h]
  rcases h with h | h
  all_goals
    go_enter Tryd.func23, Tryd.ntmps23
    go_wp2_with fail
    go_ret
    exact ⟨_, rfl, World.ownsRow_nil _ _ _ _, B0.out.out⟩
set_option maxRecDepth 100000 in
set_option maxHeartbeats 4000000 in
theorem rled_in (p : Int) (w : World) (h0 : -200 ≤ p) (h1 : p ≤ 200) :
    Calls Tryd.prog 23 #[.int .i64 p] w fun e w' => ∃ v, e = .returned v ∧ w'.ownsRow w.heap.size 3 1 v (ledL p).length (ints (ledL p)) ∧ Below w.heap.size w w' := by
  obtain ⟨i0, hi, hz0, hz1, hz2⟩ := info_parts infoI
  have HL := Lib.hid (show ledL p = ledK 1 (ledN p) ++ ledK (-1) (ledN (-p)) from if_neg (by omega))
  obtain ⟨M, hM⟩ : ∃ M : Nat, ledN p = M := ⟨_, rfl⟩
  obtain ⟨K, hK⟩ : ∃ K : Nat, ledN (-p) = K := ⟨_, rfl⟩
  rw [hM, hK] at HL
  unfold ledN at hM hK
  have HA := Lib.hid (show RS w w (.slice none 0 0) (ledK 1 0) from ⟨Bel.refl w, World.ownsRow_nil _ _ _ _⟩)
  have n0 : ¬ p < -200 := by omega
  have n1 : ¬ 200 < p := by omega
  go_enter Tryd.func23, Tryd.ntmps23
  go_wp2_with fail
  go_loopg [3, 4] M (fun gm out i wr => ∃ k : Nat, k ≤ M ∧ gm = M - k ∧ i = .int .i64 (6 + 2 * (k : Int)) ∧ Hid (RS w wr out (ledK 1 k)))
  case atStart => exact ⟨0, by omega, by omega, rfl, HA⟩
  case round =>
    obtain ⟨k, hk, rfl, rfl, HS⟩ := hrel
    clear HA
    by_cases hlt : k < M
    · have hc1 : 6 + 2 * (k : Int) ≤ p := by omega
      have hl := Lib.hid (show (ledK 1 k).length ≤ 200 by rw [ledK_len]; omega)
      have hw : w.heap.size ≤ wr.heap.size := HS.out.bel.size
      go_wp2_with (first | (at_builtin; refine wpList_append_own _ rfl _ _ 41 rfl w.heap.size 3 i0 (.int .i64 0) 1 8 Tryd.underlying41 hi hz0 hz1 hz2 rfl (by decide) _ _ _ rfl (HS.out.own.alloc _) ⟨wr.heap.size, 0, none⟩ 1 1 [.int .i64 (6 + 2 * (k : Int))] rfl rfl (cell1_new _ _ _ _ rfl) (by simp [Value.oneCell']) (by have := hl.out; unfold maxLen; omega) (by have := hl.out; omega) (by simp; omega) ?_; intro v' w2 hown' hgrow _))
      go_roundg (M - (k + 1))
      case measure => omega
      case rel =>
        refine ⟨k + 1, by omega, rfl, by go_num, Lib.hid ⟨Below.grown (HS.out.bel.alloc _) hgrow (by simp; omega) (fun r hr => (HS.out.own.lt r hr).1), ?_⟩⟩
        rw [ledK_snoc, List.length_append, ints_snoc]
        simpa using hown'
    · have e : M = k := by omega
      subst e
      have hc1 : ¬ 6 + 2 * (M : Int) ≤ p := by omega
      go_wp2_with fail
      go_loopg [3, 5] K (fun gm out i wr => ∃ k : Nat, k ≤ K ∧ gm = K - k ∧ i = .int .i64 (-6 - 2 * (k : Int)) ∧ Hid (RS w wr out (ledK 1 M ++ ledK (-1) k)))
      case atStart => exact ⟨0, by omega, by omega, rfl, Lib.hid (by simpa [ledK] using HS.out)⟩
      case round =>
        obtain ⟨k, hk2, rfl, rfl, HS⟩ := hrel
        by_cases hlt : k < K
        · have hc2 : p ≤ -6 - 2 * (k : Int) := by omega
          have hl := Lib.hid (show (ledK 1 M ++ ledK (-1) k).length ≤ 400 by rw [List.length_append, ledK_len, ledK_len]; omega)
          have hw : w.heap.size ≤ wr.heap.size := HS.out.bel.size
          go_wp2_with (first | (at_builtin; refine wpList_append_own _ rfl _ _ 41 rfl w.heap.size 3 i0 (.int .i64 0) 1 8 Tryd.underlying41 hi hz0 hz1 hz2 rfl (by decide) _ _ _ rfl (HS.out.own.alloc _) ⟨wr.heap.size, 0, none⟩ 1 1 [.int .i64 (-6 - 2 * (k : Int))] rfl rfl (cell1_new _ _ _ _ rfl) (by simp [Value.oneCell']) (by have := hl.out; unfold maxLen; omega) (by have := hl.out; omega) (by simp; omega) ?_; intro v' w2 hown' hgrow _))
          go_roundg (K - (k + 1))
          case measure => omega
          case rel =>
            refine ⟨k + 1, by omega, rfl, by go_num, Lib.hid ⟨Below.grown (HS.out.bel.alloc _) hgrow (by simp; omega) (fun r hr => (HS.out.own.lt r hr).1), ?_⟩⟩
            rw [show ledK 1 M ++ ledK (-1) (k + 1) = (ledK 1 M ++ ledK (-1) k) ++ [-6 - 2 * (k : Int)] by rw [ledK_snoc, List.append_assoc, show -1 * (6 + 2 * (k : Int)) = -6 - 2 * (k : Int) by omega], List.length_append, ints_snoc]
            exact hown'
        · have e : K = k := by omega
          subst e
          have hc2 : ¬ p ≤ -6 - 2 * (K : Int) := by omega
          go_wp2_with fail
          go_ret
          exact ⟨_, rfl, by rw [HL.out]; exact HS.out.own, HS.out.bel.out⟩
theorem rled_any (p : Int) (w : World) :
    Calls Tryd.prog 23 #[.int .i64 p] w fun e w' => ∃ v, e = .returned v ∧ w'.ownsRow w.heap.size 3 1 v (ledL p).length (ints (ledL p)) ∧ Below w.heap.size w w' := by
  by_cases h : p < -200 ∨ 200 < p
  · exact rled_far p w h
  · exact rled_in p w (by omega) (by omega)
set_option maxRecDepth 100000 in
set_option maxHeartbeats 2000000 in
theorem numbers_same (L : List Int) (bd : Option Addr) (cap : Nat) (ad : Option Addr) (cap' : Nat) (w : World) (hl : L.length ≤ 1000) (hr : L ≠ [] → ∃ g, bd = some ⟨g, 0, none⟩ ∧ Row1 w g L) (hs : L ≠ [] → ∃ g, ad = some ⟨g, 0, none⟩ ∧ Row1 w g L) :
    Calls Tryd.prog 21 #[.slice bd L.length cap, .slice ad L.length cap'] w fun e w' => e = .returned (.bool true) ∧ Below w.heap.size w w' := by
  have HR := Lib.hid hr
  have HS := Lib.hid hs
  clear hr hs
  go_enter Tryd.func21, Tryd.ntmps21
  go_wp2_with fail
  go_loopg [5] L.length (fun gm i wr => ∃ k : Nat, k ≤ L.length ∧ gm = L.length - k ∧ i = .int .i64 (k : Int) ∧ Hid (Bel w wr))
  case atStart => exact ⟨0, by omega, by omega, rfl, Lib.hid (Bel.refl w)⟩
  case round =>
    obtain ⟨k, hk, rfl, rfl, HB⟩ := hrel
    by_cases hlt : k < L.length
    · obtain ⟨g, rfl, hg⟩ := HS.out (by rintro rfl; simp at hlt)
      obtain ⟨b, rfl, hg2⟩ := HR.out (by rintro rfl; simp at hlt)
      obtain ⟨x, hx⟩ : ∃ x, L[k]? = some x := ⟨_, List.getElem?_eq_getElem hlt⟩
      have q1 := (hg2.up HB.out.out) k x hx
      have q2 := (hg.up HB.out.out) k x hx
      clear hx hg hg2
      go_wp2_with fail
      try (go_quiet (fail); go_wp2_with fail)
      go_roundg (L.length - (k + 1))
      case measure => omega
      case rel => exact ⟨k + 1, by omega, rfl, by go_num, by first | exact HB | exact Lib.hid (below_drewN HB.out.out _)⟩
    · obtain rfl : k = L.length := by omega
      go_wp2_with fail
      go_ret
      exact ⟨rfl, HB.out.out⟩
def OptRow (w : World) (ad : Option Addr) (L : List Int) : Prop := L ≠ [] → ∃ g, ad = some ⟨g, 0, none⟩ ∧ Row1 w g L
theorem OptRow.up {w w' : World} {ad : Option Addr} {L : List Int} (h : OptRow w ad L) (hb : Below w.heap.size w w') : OptRow w' ad L := fun hn => let ⟨g, e, hr⟩ := h hn; ⟨g, e, hr.up hb⟩
theorem ledL_len (p : Int) : (ledL p).length ≤ 1000 := by
  unfold ledL
  split
  · simp
  · rw [List.length_append, ledK_len, ledK_len]; unfold ledN; omega
set_option maxRecDepth 100000 in
set_option maxHeartbeats 2000000 in
theorem law_ClefLedgers (p : Int) (w : World) (hc : CW w) :
    Calls Tryd.prog 6 #[.int .i64 p] w fun e w' => e = .returned (.bool true) ∧ Below w.heap.size w w' := by
  have HL := Lib.hid (ledL_len p)
  have B0 := Lib.hid (Bel.refl w)
  have C0 := Lib.hid hc
  go_enter Tryd.func6, Tryd.ntmps6
  go_wp2_with fail
  refine (known_ok _ C0.out).mono ?_
  rintro e w1 ⟨rfl, hb⟩
  have B1 := Lib.hid (B0.out.up hb)
  have C1 := Lib.hid (C0.out.below hb)
  clear hb B0 C0 
  go_wp2_with fail
  refine (led_any p _).mono ?_
  rintro e w2 ⟨v1, rfl, hown, hb⟩
  obtain ⟨ad1, cap1, rfl, hr1⟩ := row1_own hown
  have G2 := Lib.hid (show OptRow _ ad1 (ledL p) from hr1)
  clear hown hr1
  have B2 := Lib.hid (B1.out.up hb)
  have C2 := Lib.hid (C1.out.below hb)
  clear hb B1 C1 
  go_wp2_with fail
  refine (rled_any p _).mono ?_
  rintro e w3 ⟨v2, rfl, hown, hb⟩
  obtain ⟨ad2, cap2, rfl, hr2⟩ := row1_own hown
  have J3 := Lib.hid (show OptRow _ ad2 (ledL p) from hr2)
  clear hown hr2
  have B3 := Lib.hid (B2.out.up hb)
  have C3 := Lib.hid (C2.out.below hb)
  have G3 := Lib.hid (G2.out.up hb)
  clear hb B2 C2 G2 
  go_wp2_with fail
  refine (numbers_same (ledL p) ad1 cap1 ad2 cap2 _ HL.out G3.out J3.out).mono ?_
  rintro e w4 ⟨rfl, hb⟩
  have B4 := Lib.hid (B3.out.up hb)
  have C4 := Lib.hid (C3.out.below hb)
  have G4 := Lib.hid (G3.out.up hb)
  have J4 := Lib.hid (J3.out.up hb)
  clear hb B3 C3 G3 J3 
  go_wp2_with fail
  go_ret
  exact ⟨rfl, B4.out.out⟩
end Go.Proofs.YtmdnlnjapkcanaaDoor
