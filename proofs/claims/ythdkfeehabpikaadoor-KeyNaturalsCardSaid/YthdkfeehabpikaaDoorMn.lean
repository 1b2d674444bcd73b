/- Keys: slices.DeleteFunc. -/
import Derived.Test.YthdkfeehabpikaaDoorKj
import Derived.Lib.SliceRun
namespace Go.Proofs.YthdkfeehabpikaaDoor
open Go.RowKit
set_option linter.unusedVariables false
set_option linter.unusedSimpArgs false

def svI (f : Int) (j : Nat) : Int := if 0 ≤ f then ([3, 0, 4, 1, 5, 2, 6] : List Int).getD j 0 else ([6, 2, 5, 1, 4, 0, 3] : List Int).getD j 0
theorem svI_at {f x : Int} {j : Nat} (hx : (sigL f)[j]? = some x) : svI f j = x := by
  unfold sigL at hx
  unfold svI
  split at hx
  · rename_i h
    rw [if_pos h]
    have := (List.getElem?_eq_some_iff.1 hx).1
    rw [List.getElem?_take] at hx
    split at hx
    · simp [List.getD, hx]
    · cases hx
  · rename_i h
    rw [if_neg h]
    rw [List.getElem?_take] at hx
    split at hx
    · simp [List.getD, hx]
    · cases hx
set_option maxRecDepth 100000 in
set_option maxHeartbeats 4000000 in
theorem sig2_pos (f : Int) (w : World) (hk : KT w) (h : f = 0 ∨ f = 1 ∨ f = 2 ∨ f = 3 ∨ f = 4 ∨ f = 5 ∨ f = 6 ∨ f = 7) :
    Calls Tryd.prog 31 #[.int .i64 f] w fun e w' => ∃ b, e = .returned (.slice (some ⟨b, 0, none⟩) (sigL f).length 7) ∧ w.heap.size ≤ b ∧ Sev w' b (svI f) ∧ Below w.heap.size w w' := by
  have K0 := Lib.hid hk
  obtain ⟨s0, s1, s2, s3, s4, s5, s6, g0, g1, g2⟩ := id K0.out
  rcases h with rfl | rfl | rfl | rfl | rfl | rfl | rfl | rfl
  all_goals
    go_enter Tryd.func31, Tryd.ntmps31
    go_wp2_with fail
    refine bodyPost_ret (v := .slice (some ⟨w.heap.size, 0, none⟩) _ 7) (by first | (simp [results, Tryd.results31, go_sem]; done) | (simp [results, Tryd.results31, go_sem]; rfl)) rfl ⟨w.heap.size, rfl, Nat.le_refl _, ?_, by repeat (first | exact Below.refl _ _ | refine below_drewN ?_ _ | refine Below.drew ?_ | refine Below.alloc ?_ (Nat.le_refl _) _)⟩
    intro j hj
    match j, hj with
    | 0, _ => exact ⟨by simp [svI], by simp⟩
    | 1, _ => exact ⟨by simp [svI], by simp⟩
    | 2, _ => exact ⟨by simp [svI], by simp⟩
    | 3, _ => exact ⟨by simp [svI], by simp⟩
    | 4, _ => exact ⟨by simp [svI], by simp⟩
    | 5, _ => exact ⟨by simp [svI], by simp⟩
    | 6, _ => exact ⟨by simp [svI], by simp⟩
set_option maxRecDepth 100000 in
set_option maxHeartbeats 4000000 in
theorem sig2_neg (f : Int) (w : World) (hk : KT w) (h : f = -1 ∨ f = -2 ∨ f = -3 ∨ f = -4 ∨ f = -5 ∨ f = -6 ∨ f = -7) :
    Calls Tryd.prog 31 #[.int .i64 f] w fun e w' => ∃ b, e = .returned (.slice (some ⟨b, 0, none⟩) (sigL f).length 7) ∧ w.heap.size ≤ b ∧ Sev w' b (svI f) ∧ Below w.heap.size w w' := by
  have K0 := Lib.hid hk
  obtain ⟨s0, s1, s2, s3, s4, s5, s6, g0, g1, g2⟩ := id K0.out
  rcases h with rfl | rfl | rfl | rfl | rfl | rfl | rfl
  all_goals
    go_enter Tryd.func31, Tryd.ntmps31
    go_wp2_with fail
    refine (rev_7 w.heap.size 7 w.heap.size (fun j => ([3, 0, 4, 1, 5, 2, 6] : List Int).getD j 0) _ (Nat.le_refl _) (fun j hj => ?_)).mono ?_
    · match j, hj with
      | 0, _ => exact ⟨by simp, by simp⟩
      | 1, _ => exact ⟨by simp, by simp⟩
      | 2, _ => exact ⟨by simp, by simp⟩
      | 3, _ => exact ⟨by simp, by simp⟩
      | 4, _ => exact ⟨by simp, by simp⟩
      | 5, _ => exact ⟨by simp, by simp⟩
      | 6, _ => exact ⟨by simp, by simp⟩
    rintro e w1 ⟨rfl, hs, hb⟩
    have B1 := Lib.hid (show Below w.heap.size w w1 from Below.trans (by repeat (first | exact Below.refl _ _ | refine below_drewN ?_ _ | refine Below.drew ?_ | refine Below.alloc ?_ (Nat.le_refl _) _)) hb)
    have S1 := Lib.hid hs
    clear hb hs
    go_wp2_with fail
    refine bodyPost_ret (v := .slice (some ⟨w.heap.size, 0, none⟩) _ 7) (by first | (simp [results, Tryd.results31, go_sem]; done) | (simp [results, Tryd.results31, go_sem]; rfl)) rfl ⟨w.heap.size, rfl, Nat.le_refl _, ?_, by repeat (first | exact B1.out | refine below_drewN ?_ _ | refine Below.drew ?_)⟩
    intro j hj
    have hc := S1.out j hj
    match j, hj, hc with
    | 0, _, hc => exact ⟨by simpa [svI] using hc.1, by simpa using hc.2⟩
    | 1, _, hc => exact ⟨by simpa [svI] using hc.1, by simpa using hc.2⟩
    | 2, _, hc => exact ⟨by simpa [svI] using hc.1, by simpa using hc.2⟩
    | 3, _, hc => exact ⟨by simpa [svI] using hc.1, by simpa using hc.2⟩
    | 4, _, hc => exact ⟨by simpa [svI] using hc.1, by simpa using hc.2⟩
    | 5, _, hc => exact ⟨by simpa [svI] using hc.1, by simpa using hc.2⟩
    | 6, _, hc => exact ⟨by simpa [svI] using hc.1, by simpa using hc.2⟩
theorem sig2_ok (f : Int) (w : World) (h : Sg f) (hk : KT w) :
    Calls Tryd.prog 31 #[.int .i64 f] w fun e w' => ∃ b, e = .returned (.slice (some ⟨b, 0, none⟩) (sigL f).length 7) ∧ w.heap.size ≤ b ∧ Sev w' b (svI f) ∧ Below w.heap.size w w' := by
  rcases sig_cases h with h | h
  · exact sig2_pos f w hk h
  · exact sig2_neg f w hk h
/-- the callback asks whether a step is altered under the other signature -/
theorem nat1_ok (t x : Int) (b : Nat) (w : World) (h : Sg t) (hk : KT w) (hu : Uno w b (.int .i64 t)) :
    Calls Tryd.prog 32 #[.int .i64 x, .pointer (some ⟨b, 0, none⟩)] w fun e w' => e = .returned (.bool (alI t x != 0)) ∧ Below w.heap.size w w' := by
  have HP := Lib.hid h
  have K0 := Lib.hid hk
  obtain ⟨u0, u1, u2⟩ := id hu
  go_enter Tryd.func32, Tryd.ntmps32
  go_wp2_with fail
  refine (alter_ok t x _ HP.out K0.out).mono ?_
  rintro e w1 ⟨rfl, hb⟩
  have B1 := Lib.hid (Bel.up (Bel.refl w) hb)
  go_wp2_with fail
  go_ret
  exact ⟨rfl, B1.out.out⟩
def IxN (L : List Int) (t : Int) (w : World) (e : Ending) (w' : World) : Prop :=
  (∃ (k : Nat) (x : Int), L[k]? = some x ∧ alI t x ≠ 0 ∧ (∀ (j : Nat) (y : Int), j < k → L[j]? = some y → alI t y = 0) ∧ e = .returned (.int .i64 (k : Int)) ∧ Below w.heap.size w w') ∨
  ((∀ (j : Nat) (y : Int), L[j]? = some y → alI t y = 0) ∧ e = .returned (.int .i64 (-1)) ∧ Below w.heap.size w w')
set_option maxRecDepth 100000 in
set_option maxHeartbeats 2000000 in
theorem indexN_ok (L : List Int) (t : Int) (g cap b : Nat) (w : World) (h : Sg t) (hl : L.length ≤ 7) (hk : KT w) (hu : Uno w b (.int .i64 t)) (hr : Row1 w g L) :
    Calls Tryd.prog 40 #[.slice (some ⟨g, 0, none⟩) L.length cap, .func (.func 32) #[] #[.pointer (some ⟨b, 0, none⟩)]] w (IxN L t w) := by
  have HP := Lib.hid h
  have HT := Lib.hid hk
  have HU := Lib.hid hu
  have HR := Lib.hid hr
  clear hk hu hr h
  go_enter Tryd.func40, Tryd.ntmps40
  go_wp2_with fail
  go_loopg [8] L.length (fun gm i wr => ∃ k : Nat, k ≤ L.length ∧ gm = L.length - k ∧ i = .int .i64 (k : Int) ∧ Hid (∀ (j : Nat) (y : Int), j < k → L[j]? = some y → alI t y = 0) ∧ Hid (Bel w wr))
  case atStart => exact ⟨0, by omega, by omega, rfl, Lib.hid (fun j q hj => absurd hj (by omega)), Lib.hid (Bel.refl w)⟩
  case round =>
    obtain ⟨k, hk, rfl, rfl, HN, HB⟩ := hrel
    by_cases hlt : k < L.length
    · obtain ⟨x, hx⟩ : ∃ x, L[k]? = some x := ⟨_, List.getElem?_eq_getElem hlt⟩
      have q1 := (HR.out.up HB.out.out) k x hx
      have HQ := Lib.hid hx
      clear hx
      go_wp2_with fail
      refine (nat1_ok t x b _ HP.out (HT.out.below HB.out.out) (HU.out.up HB.out.out)).mono ?_
      rintro e w2 ⟨rfl, hb⟩
      have H2 := Lib.hid (HB.out.up hb)
      clear hb HB q1
      by_cases hm : alI t x = 0
      · have e1 : (alI t x != 0) = false := by rw [hm]; rfl
        have HM := Lib.hid hm
        rw [e1]
        clear hm e1
        go_wp2_with fail
        go_roundg (L.length - (k + 1))
        case measure => omega
        case rel => exact ⟨k + 1, by omega, rfl, by go_num, Lib.hid (fun j y hj hy => by
            by_cases e : j = k
            · subst e; rw [HQ.out] at hy; cases hy; exact HM.out
            · exact HN.out j y (by omega) hy), H2⟩
      · have e1 : (alI t x != 0) = true := by simpa using hm
        have HM := Lib.hid hm
        rw [e1]
        clear hm e1
        go_wp2_with fail
        go_ret
        exact .inl ⟨k, x, HQ.out, HM.out, HN.out, rfl, H2.out.out⟩
    · obtain rfl : k = L.length := by omega
      go_wp2_with fail
      go_ret
      exact .inr ⟨fun j y hy => HN.out j y (List.getElem?_eq_some_iff.1 hy).1 hy, rfl, HB.out.out⟩
def natQ (t : Int) (x : Int) : Bool := alI t x == 0
def natL (t : Int) (L : List Int) : List Int := L.filter (natQ t)
theorem natL_all {t : Int} {L : List Int} (h : ∀ (j : Nat) (y : Int), L[j]? = some y → alI t y = 0) : natL t L = L := by
  unfold natL
  rw [List.filter_eq_self]
  intro x hx
  obtain ⟨j, hj, e⟩ := List.getElem_of_mem hx
  simp [natQ, h j x (by rw [List.getElem?_eq_getElem hj, e])]
theorem natL_hit {t x : Int} {L : List Int} {k : Nat} (hx : L[k]? = some x) (h : alI t x = 0) : natL t (L.take (k + 1)) = natL t (L.take k) ++ [x] := by
  unfold natL
  rw [List.take_add_one, hx]
  simp [List.filter_append, natQ, h]
theorem natL_miss {t x : Int} {L : List Int} {k : Nat} (hx : L[k]? = some x) (h : alI t x ≠ 0) : natL t (L.take (k + 1)) = natL t (L.take k) := by
  unfold natL
  rw [List.take_add_one, hx]
  simp [List.filter_append, natQ, h]
theorem below_setCells {B b : Nat} (hb : B ≤ b) (a : World) : ∀ (vs : List Value) (o : Nat) (w : World), Below B a w → Below B a (w.setCells b o vs)
  | [], _, _, h => h
  | v :: vs, o, w, h => below_setCells hb a vs (o + 1) _ (h.setCell (p := ⟨b, o, none⟩) hb v)
theorem zeroInt (w : World) : (zeroValue 3).run Tryd.prog w = .ok (.int .i64 0) w := by kernel_rfl
set_option maxRecDepth 100000 in
set_option maxHeartbeats 4000000 in
theorem delete_ok (L : List Int) (t : Int) (vs : Nat → Int) (g b : Nat) (w0 w : World) (h : Sg t) (hl : L.length ≤ 7) (hB : Below w0.heap.size w0 w) (hg : w0.heap.size ≤ g) (hk : KT w0) (hu : Uno w0 b (.int .i64 t)) (hs : Sev w g vs) (hL : ∀ (j : Nat) (x : Int), L[j]? = some x → vs j = x) :
    Calls Tryd.prog 30 #[.slice (some ⟨g, 0, none⟩) L.length 7, .func (.func 32) #[] #[.pointer (some ⟨b, 0, none⟩)]] w fun e w' => ∃ cap, e = .returned (.slice (some ⟨g, 0, none⟩) (natL t L).length cap) ∧ Row1 w' g (natL t L) ∧ Below w0.heap.size w0 w' := by
  have HP := Lib.hid h
  have HT := Lib.hid hk
  have HU := Lib.hid hu
  have HS := Lib.hid hs
  have HL := Lib.hid hL
  have HB := Lib.hid hB
  have HR := Lib.hid (show Row1 w g L from fun j x hx => by rw [← hL j x hx]; exact (hs j (by have := (List.getElem?_eq_some_iff.1 hx).1; omega)).1)
  clear h hB hk hu hs hL
  go_enter Tryd.func30, Tryd.ntmps30
  go_wp2_with fail
  refine (indexN_ok L t g 7 b _ HP.out hl (HT.out.below HB.out) (HU.out.up HB.out) HR.out).mono ?_
  rintro e w1 (⟨k, x, hx, hx0, hmin, rfl, hb⟩ | ⟨hall, rfl, hb⟩)
  rotate_left
  · have HA := Lib.hid (natL_all hall)
    have B1 := Lib.hid (HB.out.trans (hb.mono HB.out.size))
    have R1 := Lib.hid (HR.out.up hb)
    clear hall hb
    go_wp2_with fail
    go_ret
    exact ⟨7, by rw [HA.out]; rfl, by rw [HA.out]; exact R1.out, B1.out⟩
  · have B1 := Lib.hid (HB.out.trans (hb.mono HB.out.size))
    have S1 := Lib.hid (show Sev w1 g vs from fun j hj => ⟨cell_up hb (HS.out j hj).1, (hb.frozen (p := ⟨g, j, none⟩) (HS.out.lt)).trans (HS.out j hj).2⟩)
    have hkl : k < L.length := (List.getElem?_eq_some_iff.1 hx).1
    have N1 := Lib.hid (show natL t (L.take k) = L.take k from natL_all (fun j y hy => by
      rw [List.getElem?_take] at hy
      split at hy
      · rename_i hjk; exact hmin j y hjk hy
      · cases hy))
    have M1 := Lib.hid (show natL t (L.take (k + 1)) = natL t (L.take k) from natL_miss hx hx0)
    have HX := Lib.hid hx
    clear hx hx0 hmin hb HB HS HR
    go_wp2_with fail
    go_loopg [5, 6] (L.length - (k + 1)) (fun gm i j wr => ∃ (a c : Nat) (us : Nat → Int), c ≤ L.length ∧ k + 1 ≤ c ∧ gm = L.length - c ∧ j = .int .i64 (c : Int) ∧ i = .int .i64 (a : Int) ∧ a < c ∧ Hid (a = (natL t (L.take c)).length) ∧ Hid (Sev wr g us) ∧ Hid (∀ (m : Nat) (y : Int), (natL t (L.take c))[m]? = some y → us m = y) ∧ Hid (∀ m, c ≤ m → us m = vs m) ∧ Hid (Below w0.heap.size w0 wr))
    case atStart => exact ⟨k, k + 1, vs, by omega, by omega, by omega, by go_num, rfl, by omega, Lib.hid (by rw [M1.out, N1.out, List.length_take]; omega), S1, Lib.hid (fun m y hy => by
        rw [M1.out, N1.out, List.getElem?_take] at hy
        split at hy
        · exact HL.out m y hy
        · cases hy), Lib.hid (fun m _ => rfl), B1⟩
    case round =>
      obtain ⟨a, c, us, hc, hkc, rfl, rfl, rfl, hac, HA, HS, HU2, HV, HB⟩ := hrel
      clear S1 B1 M1 N1
      by_cases hlt : c < L.length
      · obtain ⟨y, hy⟩ : ∃ y, L[c]? = some y := ⟨_, List.getElem?_eq_getElem hlt⟩
        have hyc : us c = y := (HV.out c (Nat.le_refl _)).trans (HL.out c y hy)
        have q1 := (HS.out c (by omega)).1
        rw [hyc] at q1
        have HY := Lib.hid hy
        clear hy hyc
        go_wp2_with fail
        refine (nat1_ok t y b _ HP.out (HT.out.below HB.out) (HU.out.up HB.out)).mono ?_
        rintro e w2 ⟨rfl, hb⟩
        have B2 := Lib.hid (HB.out.trans (hb.mono HB.out.size))
        have S2 := Lib.hid (show Sev w2 g us from fun j hj => ⟨cell_up hb (HS.out j hj).1, (hb.frozen (p := ⟨g, j, none⟩) (HS.out.lt)).trans (HS.out j hj).2⟩)
        clear hb HB HS q1
        by_cases hm : alI t y = 0
        · have e1 : (alI t y != 0) = false := by rw [hm]; rfl
          have HN := Lib.hid (natL_hit HY.out hm)
          rw [e1]
          clear hm e1
          obtain ⟨s1, s2⟩ := S2.out a (by omega)
          go_wp2_with fail
          go_roundg (L.length - (c + 1))
          case measure => omega
          case rel => exact ⟨a + 1, c + 1, fun m => if m = a then y else us m, by omega, by omega, rfl, by go_num, by go_num, by omega, Lib.hid (by rw [HN.out, List.length_append, HA.out]; rfl), Lib.hid (S2.out.set a (by omega) y), Lib.hid (fun m z hz => by
              rw [HN.out, List.getElem?_append] at hz
              split at hz
              · rename_i hma
                show (if m = a then y else us m) = z
                have hm9 := (List.getElem?_eq_some_iff.1 hz).1
                rw [if_neg (by have := HA.out; omega)]
                exact HU2.out m z hz
              · rename_i hma
                have hm0 : m - (natL t (L.take c)).length = 0 := by
                  have := (List.getElem?_eq_some_iff.1 hz).1
                  simp at this
                  omega
                rw [hm0] at hz
                simp at hz
                show (if m = a then y else us m) = z
                rw [if_pos (by have := HA.out; omega), hz]), Lib.hid (fun m hm => by show (if m = a then y else us m) = vs m; rw [if_neg (by omega)]; exact HV.out m (by omega)), Lib.hid (B2.out.setCell (p := ⟨g, a, none⟩) hg _)⟩
        · have e1 : (alI t y != 0) = true := by simpa using hm
          have HN := Lib.hid (natL_miss HY.out hm)
          rw [e1]
          clear hm e1
          go_wp2_with fail
          go_roundg (L.length - (c + 1))
          case measure => omega
          case rel => exact ⟨a, c + 1, us, by omega, by omega, rfl, by go_num, rfl, by omega, Lib.hid (by rw [HN.out]; exact HA.out), S2, Lib.hid (fun m z hz => by rw [HN.out] at hz; exact HU2.out m z hz), Lib.hid (fun m hm => HV.out m (by omega)), B2⟩
      · obtain rfl : c = L.length := by omega
        have hcl : ∀ ty, (Builtin.clear_ #[34] ty #[.slice (some ⟨g, a, none⟩) (L.length - a) (7 - a)]).run Tryd.prog wr = .ok (.tuple #[]) (wr.setCells g a (List.replicate (L.length - a) (.int .i64 0))) :=
          fun ty => Lib.run_clear_slice wr _ _ ty _ Tryd.underlying34 zeroInt rfl rfl g a _ _ (by omega) (fun j hj => by rw [(HS.out (a + j) (by omega)).1]; rfl) (fun j hj => (HS.out (a + j) (by omega)).2)
        have HW := Lib.hid (show Row1 (wr.setCells g a (List.replicate (L.length - a) (.int .i64 0))) g (natL t L) from fun m y hy => by
          have h1 := HU2.out m y (by rw [List.take_length]; exact hy)
          have h2 := HA.out
          rw [List.take_length] at h2
          have h3 := (List.getElem?_eq_some_iff.1 hy).1
          rw [World.cell?_setCells_out g _ a wr ⟨g, m, none⟩ (fun _ _ => .inl (show m < a by omega)), (HS.out m (by omega)).1, h1])
        have HA2 := Lib.hid (show a = (natL t L).length by have := HA.out; rwa [List.take_length] at this)
        have B3 := Lib.hid (below_setCells hg w0 (List.replicate (L.length - a) (.int .i64 0)) a wr HB.out)
        clear HA HS HU2 HV HB
        go_wp2_with fail
        go_ret
        exact ⟨7, by rw [← HA2.out]; rfl, HW.out, B3.out⟩
end Go.Proofs.YthdkfeehabpikaaDoor
