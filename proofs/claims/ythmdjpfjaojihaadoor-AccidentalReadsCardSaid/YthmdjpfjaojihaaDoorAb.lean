/- Accidentals: key signatures. -/
import Derived.Test.YthmdjpfjaojihaaDoorAa
namespace Go.Proofs.YthmdjpfjaojihaaDoor
open Go.RowKit
set_option linter.unusedVariables false
set_option linter.unusedSimpArgs false

/-- a signature -/
structure Sg (f : Int) : Prop where
  f0 : -7 ≤ f
  f1 : f ≤ 7
theorem not_sg {f : Int} (h : ¬ Sg f) : f < -7 ∨ -7 ≤ f ∧ 7 < f := by
  have : ¬ (-7 ≤ f ∧ f ≤ 7) := fun ⟨a, b⟩ => h ⟨a, b⟩
  omega
set_option maxRecDepth 100000 in
set_option maxHeartbeats 2000000 in
theorem checkK_ok (f : Int) (w : World) (h : Sg f) :
    Calls Tryd.prog 37 #[.int .i64 f] w fun e w' => e = .returned (.int .i64 0) ∧ Below w.heap.size w w' := by
  have B0 := Lib.hid (Bel.refl w)
  obtain ⟨f0, f1⟩ := h
  go_enter Tryd.func37, Tryd.ntmps37
  go_wp2_with fail
  go_ret
  exact ⟨by first | rfl | (simp; done) | (simp [go_sem]; done) | (simp [go_sem]; omega), B0.out.out⟩
set_option maxRecDepth 100000 in
set_option maxHeartbeats 2000000 in
theorem checkK_lo (f : Int) (w : World) (h : f < -7) :
    Calls Tryd.prog 37 #[.int .i64 f] w fun e w' => e = .returned (.int .i64 2) ∧ Below w.heap.size w w' := by
  have B0 := Lib.hid (Bel.refl w)
  go_enter Tryd.func37, Tryd.ntmps37
  go_wp2_with fail
  go_ret
  exact ⟨by first | rfl | (simp; done) | (simp [go_sem]; done) | (simp [go_sem]; omega), B0.out.out⟩
set_option maxRecDepth 100000 in
set_option maxHeartbeats 2000000 in
theorem checkK_hi (f : Int) (w : World) (h : 7 < f) :
    Calls Tryd.prog 37 #[.int .i64 f] w fun e w' => e = .returned (.int .i64 2) ∧ Below w.heap.size w w' := by
  have B0 := Lib.hid (Bel.refl w)
  go_enter Tryd.func37, Tryd.ntmps37
  go_wp2_with fail
  go_ret
  exact ⟨by first | rfl | (simp; done) | (simp [go_sem]; done) | (simp [go_sem]; omega), B0.out.out⟩
theorem checkK_bad (f : Int) (w : World) (h : ¬ Sg f) : Calls Tryd.prog 37 #[.int .i64 f] w fun e w' => e = .returned (.int .i64 2) ∧ Below w.heap.size w w' := by
  rcases not_sg h with h | ⟨_, h⟩
  · exact checkK_lo f w h
  · exact checkK_hi f w h
/-- the order of sharps lies in the package's variable -/
structure KT (w : World) : Prop where
  s0 : w.cell? ⟨0, 0, none⟩ = some (.int .i64 3)
  s1 : w.cell? ⟨0, 1, none⟩ = some (.int .i64 0)
  s2 : w.cell? ⟨0, 2, none⟩ = some (.int .i64 4)
  s3 : w.cell? ⟨0, 3, none⟩ = some (.int .i64 1)
  s4 : w.cell? ⟨0, 4, none⟩ = some (.int .i64 5)
  s5 : w.cell? ⟨0, 5, none⟩ = some (.int .i64 2)
  s6 : w.cell? ⟨0, 6, none⟩ = some (.int .i64 6)
theorem KT.below {w w' : World} (h : KT w) (hb : Below w.heap.size w w') : KT w' :=
  ⟨cell_up hb h.s0, cell_up hb h.s1, cell_up hb h.s2, cell_up hb h.s3, cell_up hb h.s4, cell_up hb h.s5, cell_up hb h.s6⟩
/-- a row of numbers at an address -/
def Row1 (w : World) (g : Nat) (L : List Int) : Prop := ∀ (k : Nat) (x : Int), L[k]? = some x → w.cell? ⟨g, k, none⟩ = some (.int .i64 x)
theorem Row1.up {w w' : World} {g : Nat} {L : List Int} (h : Row1 w g L) (hb : Below w.heap.size w w') : Row1 w' g L := fun k x hk => cell_up hb (h k x hk)
/-- seven cells of a block -/
def Sev (w : World) (b : Nat) (vs : Nat → Int) : Prop := ∀ j : Nat, j < 7 → w.cell? ⟨b, j, none⟩ = some (.int .i64 (vs j)) ∧ w.frozen? ⟨b, j, none⟩ = false
theorem Sev.lt {w : World} {b : Nat} {vs : Nat → Int} (h : Sev w b vs) : b < w.heap.size := lt_of_cell (h 0 (by omega)).1
theorem Sev.set {w : World} {b : Nat} {vs : Nat → Int} (h : Sev w b vs) (i : Nat) (hi : i < 7) (u : Int) : Sev (w.setCell ⟨b, i, none⟩ (.int .i64 u)) b (fun j => if j = i then u else vs j) := by
  intro j hj
  have hi' := h i hi
  have hj' := h j hj
  by_cases e : j = i
  · subst e
    simp [go_sem, hi'.1, hi'.2]
  · have e' : i ≠ j := fun h => e h.symm
    simp [go_sem, hj'.1, hj'.2, e, e']
theorem Sev.drew {w : World} {b : Nat} {vs : Nat → Int} (h : Sev w b vs) : Sev w.drew b vs := fun j hj => by have := h j hj; simpa [go_sem] using this
theorem Sev.eq {w : World} {b : Nat} {vs us : Nat → Int} (h : Sev w b vs) (e : ∀ j, j < 7 → vs j = us j) : Sev w b us := fun j hj => by rw [← e j hj]; exact h j hj
set_option maxRecDepth 100000 in
set_option maxHeartbeats 2000000 in
theorem rev_7 (g cap base : Nat) (vs : Nat → Int) (w : World) (hg : base ≤ g) (hr : Sev w g vs) :
    Calls Tryd.prog 43 #[.slice (some ⟨g, 0, none⟩) 7 cap] w fun e w' => e = .returned (.tuple #[]) ∧ Sev w' g (fun j => vs (6 - j)) ∧ Below base w w' := by
  have HR := Lib.hid hr
  clear hr
  go_enter Tryd.func43, Tryd.ntmps43
  go_wp2_with fail
  go_loopg [2, 3] 3 (fun gm i j wr => ∃ k : Nat, k ≤ 3 ∧ gm = 3 - k ∧ i = .int .i64 (k : Int) ∧ j = .int .i64 (6 - (k : Int)) ∧ Hid (Sev wr g (fun j => if j < k ∨ 6 - k < j then vs (6 - j) else vs j)) ∧ Hid (Below base w wr))
  case atStart => exact ⟨0, by omega, by omega, rfl, rfl, Lib.hid (fun j hj => by have := HR.out j hj; simpa [show ¬ 6 < j by omega] using this), Lib.hid (Below.refl _ _)⟩
  case round =>
    obtain ⟨k, hk, rfl, rfl, rfl, HS, HB⟩ := hrel
    by_cases hlt : k < 3
    · obtain ⟨c0, g0⟩ := HS.out k (by omega)
      obtain ⟨c1, g1⟩ := HS.out (6 - k) (by omega)
      have t1 : (6 - (k : Int)).toNat = 6 - k := by omega
      simp only [show ¬ (k < k ∨ 6 - k < k) by omega, show ¬ (6 - k < k ∨ 6 - k < 6 - k) by omega, if_false] at c0 c1
      have S2 := Lib.hid ((HS.out.set k (by omega) (vs (6 - k))).set (6 - k) (by omega) (vs k))
      have B2 := Lib.hid ((HB.out.setCell (p := ⟨g, k, none⟩) hg (.int .i64 (vs (6 - k)))).setCell (p := ⟨g, 6 - k, none⟩) hg (.int .i64 (vs k)))
      have ne1 : k ≠ 6 - k := by omega
      have ne2 : 6 - k ≠ k := by omega
      go_wp2_with fail
      go_region_with (fail)
      go_wp2_with fail
      all_goals
        go_roundg (3 - (k + 1))
        case measure => omega
        case rel => exact ⟨k + 1, by omega, rfl, by go_num, by go_num, Lib.hid ((S2.out.drew).eq (by
          intro j hj
          by_cases e1 : j = 6 - k
          · subst e1; simp only [if_pos, show (6 - k < k + 1 ∨ 6 - (k + 1) < 6 - k) by omega, if_true]; congr 1; omega
          · by_cases e2 : j = k
            · subst e2; simp only [e1, if_false, if_true, show (j < j + 1 ∨ 6 - (j + 1) < j) by omega]
            · simp only [e1, e2, if_false]
              by_cases e3 : j < k ∨ 6 - k < j
              · rw [if_pos e3, if_pos (by omega)]
              · rw [if_neg e3, if_neg (by omega)])), Lib.hid B2.out.drew⟩
    · obtain rfl : k = 3 := by omega
      go_wp2_with fail
      go_end0
      exact ⟨rfl, HS.out.eq (by
        intro j hj
        by_cases e3 : j < 3 ∨ 6 - 3 < j
        · simp only [if_pos e3]
        · simp only [if_neg e3]; congr 1; omega), HB.out⟩
theorem sig_cases {f : Int} (h : Sg f) : (f = 0 ∨ f = 1 ∨ f = 2 ∨ f = 3 ∨ f = 4 ∨ f = 5 ∨ f = 6 ∨ f = 7) ∨ (f = -1 ∨ f = -2 ∨ f = -3 ∨ f = -4 ∨ f = -5 ∨ f = -6 ∨ f = -7) := by
  have := h.f0; have := h.f1; omega
def sigL (f : Int) : List Int := if 0 ≤ f then [3, 0, 4, 1, 5, 2, 6].take f.toNat else [6, 2, 5, 1, 4, 0, 3].take (-f).toNat
set_option maxRecDepth 100000 in
set_option maxHeartbeats 4000000 in
theorem sig_pos (f : Int) (w : World) (hk : KT w) (h : f = 0 ∨ f = 1 ∨ f = 2 ∨ f = 3 ∨ f = 4 ∨ f = 5 ∨ f = 6 ∨ f = 7) :
    Calls Tryd.prog 41 #[.int .i64 f] w fun e w' => ∃ b, e = .returned (.slice (some ⟨b, 0, none⟩) (sigL f).length 7) ∧ Row1 w' b (sigL f) ∧ Below w.heap.size w w' := by
  have B0 := Lib.hid (Bel.refl w)
  have K0 := Lib.hid hk
  obtain ⟨s0, s1, s2, s3, s4, s5, s6⟩ := id K0.out
  rcases h with rfl | rfl | rfl | rfl | rfl | rfl | rfl | rfl
  all_goals
    go_enter Tryd.func41, Tryd.ntmps41
    go_wp2_with fail
    refine bodyPost_ret (v := .slice (some ⟨w.heap.size, 0, none⟩) _ 7) (by first | (simp [results, Tryd.results41, go_sem]; done) | (simp [results, Tryd.results41, go_sem]; rfl)) rfl ⟨w.heap.size, rfl, fun k x hx => ?_, by repeat (first | exact Below.refl _ _ | refine below_drewN ?_ _ | refine Below.drew ?_ | refine Below.alloc ?_ (Nat.le_refl _) _)⟩
    match k, hx with
    | 0, hx => first | (simp [sigL] at hx; done) | (simp [sigL] at hx; subst hx; simp)
    | 1, hx => first | (simp [sigL] at hx; done) | (simp [sigL] at hx; subst hx; simp)
    | 2, hx => first | (simp [sigL] at hx; done) | (simp [sigL] at hx; subst hx; simp)
    | 3, hx => first | (simp [sigL] at hx; done) | (simp [sigL] at hx; subst hx; simp)
    | 4, hx => first | (simp [sigL] at hx; done) | (simp [sigL] at hx; subst hx; simp)
    | 5, hx => first | (simp [sigL] at hx; done) | (simp [sigL] at hx; subst hx; simp)
    | 6, hx => first | (simp [sigL] at hx; done) | (simp [sigL] at hx; subst hx; simp)
    | k + 7, hx => simp [sigL] at hx
set_option maxRecDepth 100000 in
set_option maxHeartbeats 4000000 in
theorem sig_neg (f : Int) (w : World) (hk : KT w) (h : f = -1 ∨ f = -2 ∨ f = -3 ∨ f = -4 ∨ f = -5 ∨ f = -6 ∨ f = -7) :
    Calls Tryd.prog 41 #[.int .i64 f] w fun e w' => ∃ b, e = .returned (.slice (some ⟨b, 0, none⟩) (sigL f).length 7) ∧ Row1 w' b (sigL f) ∧ Below w.heap.size w w' := by
  have B0 := Lib.hid (Bel.refl w)
  have K0 := Lib.hid hk
  obtain ⟨s0, s1, s2, s3, s4, s5, s6⟩ := id K0.out
  rcases h with rfl | rfl | rfl | rfl | rfl | rfl | rfl
  all_goals
    go_enter Tryd.func41, Tryd.ntmps41
    go_wp2_with fail
    refine (rev_7 w.heap.size 7 w.heap.size (fun j => ([3, 0, 4, 1, 5, 2, 6] : List Int).getD j 0) _ (Nat.le_refl _) (fun j hj => ?_)).mono ?_
    · match j, hj with
      | 0, _ => exact ⟨by simp, by simp⟩
      | 1, _ => exact ⟨by simp, by simp⟩
      | 2, _ => exact ⟨by simp, by simp⟩
      | 3, _ => exact ⟨by simp, by simp⟩
      | 4, _ => exact ⟨by simp, by simp⟩
      | 5, _ => exact ⟨by simp, by simp⟩
      | 6, _ => exact ⟨by simp, by simp⟩
    rintro e w1 ⟨rfl, hs, hb⟩
    have B1 := Lib.hid (show Below w.heap.size w w1 from Below.trans (by repeat (first | exact Below.refl _ _ | refine below_drewN ?_ _ | refine Below.drew ?_ | refine Below.alloc ?_ (Nat.le_refl _) _)) hb)
    have S1 := Lib.hid hs
    clear hb hs
    go_wp2_with fail
    refine bodyPost_ret (v := .slice (some ⟨w.heap.size, 0, none⟩) _ 7) (by first | (simp [results, Tryd.results41, go_sem]; done) | (simp [results, Tryd.results41, go_sem]; rfl)) rfl ⟨w.heap.size, rfl, fun k x hx => ?_, by repeat (first | exact B1.out | refine below_drewN ?_ _ | refine Below.drew ?_)⟩
    have hk' : k < 7 := by
      have := (List.getElem?_eq_some_iff.1 hx).1
      simp [sigL] at this
      omega
    have hc := (S1.out k hk').1
    match k, hx, hc with
    | 0, hx, hc => first | (simp [sigL] at hx; done) | (simp [sigL] at hx; subst hx; simpa using hc)
    | 1, hx, hc => first | (simp [sigL] at hx; done) | (simp [sigL] at hx; subst hx; simpa using hc)
    | 2, hx, hc => first | (simp [sigL] at hx; done) | (simp [sigL] at hx; subst hx; simpa using hc)
    | 3, hx, hc => first | (simp [sigL] at hx; done) | (simp [sigL] at hx; subst hx; simpa using hc)
    | 4, hx, hc => first | (simp [sigL] at hx; done) | (simp [sigL] at hx; subst hx; simpa using hc)
    | 5, hx, hc => first | (simp [sigL] at hx; done) | (simp [sigL] at hx; subst hx; simpa using hc)
    | 6, hx, hc => first | (simp [sigL] at hx; done) | (simp [sigL] at hx; subst hx; simpa using hc)
    | k + 7, hx, hc => simp [sigL] at hx
theorem sig_ok (f : Int) (w : World) (h : Sg f) (hk : KT w) :
    Calls Tryd.prog 41 #[.int .i64 f] w fun e w' => ∃ b, e = .returned (.slice (some ⟨b, 0, none⟩) (sigL f).length 7) ∧ Row1 w' b (sigL f) ∧ Below w.heap.size w w' := by
  rcases sig_cases h with h | h
  · exact sig_pos f w hk h
  · exact sig_neg f w hk h
theorem sigL_len {f : Int} (h : Sg f) : (sigL f).length ≤ 7 := by
  have := h.f0
  have := h.f1
  unfold sigL
  split <;> simp <;> omega
instance (f : Int) : Decidable (Sg f) := decidable_of_iff (-7 ≤ f ∧ f ≤ 7) ⟨fun ⟨a, b⟩ => ⟨a, b⟩, fun ⟨a, b⟩ => ⟨a, b⟩⟩
def IxP (L : List Int) (v : Int) (w : World) (e : Ending) (w' : World) : Prop :=
  ((∃ k : Nat, L[k]? = some v ∧ e = .returned (.int .i64 (k : Int))) ∨ ((∀ (j : Nat) (x : Int), L[j]? = some x → x ≠ v) ∧ e = .returned (.int .i64 (-1)))) ∧ Below w.heap.size w w'
set_option maxRecDepth 100000 in
set_option maxHeartbeats 2000000 in
theorem index_ok (L : List Int) (g cap : Nat) (v : Int) (w : World) (hl : L.length ≤ 1000) (hr : Row1 w g L) :
    Calls Tryd.prog 42 #[.slice (some ⟨g, 0, none⟩) L.length cap, .int .i64 v] w (IxP L v w) := by
  have HR := Lib.hid hr
  clear hr
  go_enter Tryd.func42, Tryd.ntmps42
  go_wp2_with fail
  go_loopg [8] L.length (fun gm i wr => ∃ k : Nat, k ≤ L.length ∧ gm = L.length - k ∧ i = .int .i64 (k : Int) ∧ Hid (∀ (j : Nat) (x : Int), j < k → L[j]? = some x → x ≠ v) ∧ Hid (Bel w wr))
  case atStart => exact ⟨0, by omega, by omega, rfl, Lib.hid (fun j x hj => absurd hj (by omega)), Lib.hid (Bel.refl w)⟩
  case round =>
    obtain ⟨k, hk, rfl, rfl, HN, HB⟩ := hrel
    by_cases hlt : k < L.length
    · obtain ⟨x, hx⟩ : ∃ x, L[k]? = some x := ⟨_, List.getElem?_eq_getElem hlt⟩
      have q1 := (HR.out.up HB.out.out) k x hx
      have HQ := Lib.hid hx
      clear hx
      by_cases hm : v = x
      · have e1 : (v == x) = true := by simpa using hm
        have HM := Lib.hid hm
        clear hm
        go_wp2_with fail
        try (go_quiet (fail); go_wp2_with fail)
        go_ret
        exact ⟨.inl ⟨k, by rw [HM.out]; exact HQ.out, rfl⟩, by first | exact HB.out.out | exact below_drewN HB.out.out _⟩
      · have e1 : (v == x) = false := by simpa using hm
        have HM := Lib.hid hm
        clear hm
        go_wp2_with fail
        try (go_quiet (fail); go_wp2_with fail)
        go_roundg (L.length - (k + 1))
        case measure => omega
        case rel => exact ⟨k + 1, by omega, rfl, by go_num, Lib.hid (fun j y hj hy => by
          by_cases e : j = k
          · subst e; rw [HQ.out] at hy; cases hy; exact fun h => HM.out h.symm
          · exact HN.out j y (by omega) hy), by first | exact HB | exact Lib.hid (below_drewN HB.out.out _)⟩
    · obtain rfl : k = L.length := by omega
      go_wp2_with fail
      go_ret
      exact ⟨.inr ⟨fun j x hx => HN.out j x (by
        rcases Nat.lt_or_ge j L.length with h | h
        · exact h
        · rw [List.getElem?_eq_none h] at hx; cases hx) hx, rfl⟩, HB.out.out⟩
theorem contains_ok (L : List Int) (g cap : Nat) (v : Int) (w : World) (hl : L.length ≤ 1000) (hr : Row1 w g L) :
    Calls Tryd.prog 40 #[.slice (some ⟨g, 0, none⟩) L.length cap, .int .i64 v] w fun e w' => e = .returned (.bool (decide (v ∈ L))) ∧ Below w.heap.size w w' := by
  have HR := Lib.hid hr
  have B0 := Lib.hid (Bel.refl w)
  clear hr
  go_enter Tryd.func40, Tryd.ntmps40
  go_wp2_with fail
  refine (index_ok L g cap v _ hl HR.out).mono ?_
  rintro e w1 ⟨h, hb⟩
  have B1 := Lib.hid (B0.out.up hb)
  rcases h with ⟨k, hk, rfl⟩ | ⟨hn, rfl⟩
  · have e1 : decide (v ∈ L) = true := by simpa using List.mem_of_getElem? hk
    have E1 := Lib.hid e1
    clear e1 hk hb
    go_wp2_with fail
    go_ret
    exact ⟨by rw [E1.out]; first | done | rfl | simp, B1.out.out⟩
  · have e1 : decide (v ∈ L) = false := by
      simp only [decide_eq_false_iff_not]
      intro hm
      obtain ⟨j, hj, he⟩ := List.getElem_of_mem hm
      exact hn j _ (List.getElem?_eq_getElem hj) he
    have E1 := Lib.hid e1
    clear e1 hn hb
    go_wp2_with fail
    go_ret
    exact ⟨by rw [E1.out]; first | done | rfl | simp, B1.out.out⟩
def alI (f r : Int) : Int := if r ∈ sigL f then if 0 < f then 1 else -1 else 0
set_option maxRecDepth 100000 in
set_option maxHeartbeats 2000000 in
theorem alter_ok (f r : Int) (w : World) (h : Sg f) (hk : KT w) :
    Calls Tryd.prog 39 #[.int .i64 f, .int .i64 r] w fun e w' => e = .returned (.int .i64 (alI f r)) ∧ Below w.heap.size w w' := by
  have B0 := Lib.hid (Bel.refl w)
  have K0 := Lib.hid hk
  have HP := Lib.hid h
  go_enter Tryd.func39, Tryd.ntmps39
  go_wp2_with fail
  refine (sig_ok f _ HP.out K0.out).mono ?_
  rintro e w1 ⟨b, rfl, hr, hb⟩
  have G1 := Lib.hid hr
  clear hr
  have B1 := Lib.hid (B0.out.up hb)
  have K1 := Lib.hid (K0.out.below hb)
  clear hb B0 K0 
  go_wp2_with fail
  refine (contains_ok (sigL f) b 7 r _ (by have := sigL_len HP.out; omega) G1.out).mono ?_
  rintro e w2 ⟨rfl, hb⟩
  have B2 := Lib.hid (B1.out.up hb)
  clear hb
  by_cases hm : r ∈ sigL f
  · rw [show decide (r ∈ sigL f) = true by simpa using hm]
    by_cases h0 : 0 < f
    · have E : Hid (alI f r = 1) := by unfold Hid alI; rw [if_pos hm, if_pos h0]
      go_wp2_with fail
      go_ret
      exact ⟨by rw [E.out]; first | done | rfl, B2.out.out⟩
    · have E : Hid (alI f r = -1) := by unfold Hid alI; rw [if_pos hm, if_neg h0]
      go_wp2_with fail
      go_ret
      exact ⟨by rw [E.out]; first | done | rfl, B2.out.out⟩
  · have E : Hid (alI f r = 0) := by unfold Hid alI; rw [if_neg hm]
    rw [show decide (r ∈ sigL f) = false by simpa using hm]
    go_wp2_with fail
    go_ret
    exact ⟨by rw [E.out]; first | done | rfl, B2.out.out⟩
set_option maxRecDepth 100000 in
set_option maxHeartbeats 2000000 in
theorem isStep_y (r : Int) (w : World) (r0 : 0 ≤ r) (r1 : r ≤ 6) :
    Calls Tryd.prog 38 #[.int .i64 r] w fun e w' => e = .returned (.bool true) ∧ Below w.heap.size w w' := by
  have B0 := Lib.hid (Bel.refl w)
  go_enter Tryd.func38, Tryd.ntmps38
  go_wp2_with fail
  go_ret
  exact ⟨by first | rfl | (simp; done) | (simp; omega), B0.out.out⟩
set_option maxRecDepth 100000 in
set_option maxHeartbeats 2000000 in
theorem isStep_lo (r : Int) (w : World) (h : r < 0) :
    Calls Tryd.prog 38 #[.int .i64 r] w fun e w' => e = .returned (.bool false) ∧ Below w.heap.size w w' := by
  have B0 := Lib.hid (Bel.refl w)
  go_enter Tryd.func38, Tryd.ntmps38
  go_wp2_with fail
  go_ret
  exact ⟨by first | rfl | (simp; done) | (simp; omega), B0.out.out⟩
set_option maxRecDepth 100000 in
set_option maxHeartbeats 2000000 in
theorem isStep_hi (r : Int) (w : World) (r0 : 0 ≤ r) (h : 6 < r) :
    Calls Tryd.prog 38 #[.int .i64 r] w fun e w' => e = .returned (.bool false) ∧ Below w.heap.size w w' := by
  have B0 := Lib.hid (Bel.refl w)
  go_enter Tryd.func38, Tryd.ntmps38
  go_wp2_with fail
  go_ret
  exact ⟨by first | rfl | (simp; done) | (simp; omega), B0.out.out⟩
theorem isStep_n (r : Int) (w : World) (h : r < 0 ∨ 6 < r) : Calls Tryd.prog 38 #[.int .i64 r] w fun e w' => e = .returned (.bool false) ∧ Below w.heap.size w w' := by
  by_cases h0 : r < 0
  · exact isStep_lo r w h0
  · exact isStep_hi r w (by omega) (by omega)
set_option maxRecDepth 100000 in
set_option maxHeartbeats 2000000 in
theorem alterK_b1 (f r : Int) (w : World) (h : ¬ Sg f) (hk : KT w) :
    Calls Tryd.prog 33 #[.int .i64 f, .int .i64 r] w fun e w' => e = .returned (.tuple #[.int .i64 (0), .int .i64 2]) ∧ Below w.heap.size w w' := by
  have B0 := Lib.hid (Bel.refl w)
  have K0 := Lib.hid hk
  have HP := Lib.hid h
  go_enter Tryd.func33, Tryd.ntmps33
  go_wp2_with fail
  refine (checkK_bad f _ HP.out).mono ?_
  rintro e w1 ⟨rfl, hb⟩
  have B1 := Lib.hid (B0.out.up hb)
  have K1 := Lib.hid (K0.out.below hb)
  clear hb B0 K0 
  go_wp2_with fail
  go_ret2
  exact ⟨rfl, B1.out.out⟩
set_option maxRecDepth 100000 in
set_option maxHeartbeats 2000000 in
theorem alterK_b2 (f r : Int) (w : World) (h : Sg f) (k : r < 0 ∨ 6 < r) (hk : KT w) :
    Calls Tryd.prog 33 #[.int .i64 f, .int .i64 r] w fun e w' => e = .returned (.tuple #[.int .i64 (0), .int .i64 18]) ∧ Below w.heap.size w w' := by
  have B0 := Lib.hid (Bel.refl w)
  have K0 := Lib.hid hk
  have HP := Lib.hid h
  have HQ := Lib.hid k
  go_enter Tryd.func33, Tryd.ntmps33
  go_wp2_with fail
  refine (checkK_ok f _ HP.out).mono ?_
  rintro e w1 ⟨rfl, hb⟩
  have B1 := Lib.hid (B0.out.up hb)
  have K1 := Lib.hid (K0.out.below hb)
  clear hb B0 K0 
  go_wp2_with fail
  refine (isStep_n r _ HQ.out).mono ?_
  rintro e w2 ⟨rfl, hb⟩
  have B2 := Lib.hid (B1.out.up hb)
  have K2 := Lib.hid (K1.out.below hb)
  clear hb B1 K1 
  go_wp2_with fail
  go_ret2
  exact ⟨rfl, B2.out.out⟩
set_option maxRecDepth 100000 in
set_option maxHeartbeats 2000000 in
theorem alterK_ok (f r : Int) (w : World) (h : Sg f) (r0 : 0 ≤ r) (r1 : r ≤ 6) (hk : KT w) :
    Calls Tryd.prog 33 #[.int .i64 f, .int .i64 r] w fun e w' => e = .returned (.tuple #[.int .i64 (alI f r), .int .i64 0]) ∧ Below w.heap.size w w' := by
  have B0 := Lib.hid (Bel.refl w)
  have K0 := Lib.hid hk
  have HP := Lib.hid h
  go_enter Tryd.func33, Tryd.ntmps33
  go_wp2_with fail
  refine (checkK_ok f _ HP.out).mono ?_
  rintro e w1 ⟨rfl, hb⟩
  have B1 := Lib.hid (B0.out.up hb)
  have K1 := Lib.hid (K0.out.below hb)
  clear hb B0 K0 
  go_wp2_with fail
  refine (isStep_y r _ r0 r1).mono ?_
  rintro e w2 ⟨rfl, hb⟩
  have B2 := Lib.hid (B1.out.up hb)
  have K2 := Lib.hid (K1.out.below hb)
  clear hb B1 K1 
  go_wp2_with fail
  refine (alter_ok f r _ HP.out K2.out).mono ?_
  rintro e w3 ⟨rfl, hb⟩
  have B3 := Lib.hid (B2.out.up hb)
  have K3 := Lib.hid (K2.out.below hb)
  clear hb B2 K2 
  go_wp2_with fail
  go_ret2
  exact ⟨rfl, B3.out.out⟩
theorem alI_bd (f r : Int) : -1 ≤ alI f r ∧ alI f r ≤ 1 := by
  unfold alI
  split
  · split <;> omega
  · omega
end Go.Proofs.YthmdjpfjaojihaaDoor
