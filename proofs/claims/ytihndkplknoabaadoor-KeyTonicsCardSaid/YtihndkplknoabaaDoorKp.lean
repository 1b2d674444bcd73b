/- Keys: the reference's Of. -/
import Derived.Test.YtihndkplknoabaaDoorKo
namespace Go.Proofs.YtihndkplknoabaaDoor
open Go.RowKit
set_option linter.unusedVariables false
set_option linter.unusedSimpArgs false

def ofN (F : Int) : Int := if Sg F then F else 0
def ofE (F : Int) : Int := if Sg F then 0 else 2
theorem not_cls {s a : Int} (h : ¬ Cls s a) : s < 0 ∨ 0 ≤ s ∧ (6 < s ∨ s ≤ 6 ∧ (a < -2 ∨ -2 ≤ a ∧ 2 < a)) := by
  by_cases h0 : s < 0
  · exact .inl h0
  · refine .inr ⟨by omega, ?_⟩
    by_cases h1 : 6 < s
    · exact .inl h1
    · refine .inr ⟨by omega, ?_⟩
      by_cases h2 : a < -2
      · exact .inl h2
      · refine .inr ⟨by omega, ?_⟩
        by_cases h3 : 2 < a
        · exact h3
        · exact absurd ⟨by omega, by omega, by omega, by omega⟩ h
set_option maxRecDepth 100000 in
set_option maxHeartbeats 2000000 in
theorem rof_bn (s a : Int) (w : World) (h : ¬ Cls s a) :
    Calls Tryd.prog 19 #[.int .i64 s, .int .i64 a, .bool false] w fun e w' => e = .returned (.tuple #[.int .i64 0, .int .i64 18]) ∧ Below w.heap.size w w' := by
  rcases not_cls h with h1 | ⟨q0, h1 | ⟨q1, h1 | ⟨q2, h1⟩⟩⟩
  all_goals
    clear h
    have B0 := Lib.hid (Bel.refl w)
    go_enter Tryd.func19, Tryd.ntmps19
    go_wp2_with fail
    go_ret2
    exact ⟨rfl, B0.out.out⟩
set_option maxRecDepth 100000 in
set_option maxHeartbeats 2000000 in
theorem rof_n (s a F : Int) (w : World) (k : Cls s a) (hF : ixI s - 1 + 7 * a - 0 = F) :
    Calls Tryd.prog 19 #[.int .i64 s, .int .i64 a, .bool false] w fun e w' => e = .returned (.tuple #[.int .i64 (ofN F), .int .i64 (ofE F)]) ∧ Below w.heap.size w w' := by
  obtain ⟨s0, s1, a0, a1⟩ := k
  have HE := Lib.hid (show ∀ g : Int, shI ((g + 1) % 7) = s → (g + 1) / 7 = a → g = F from fun g h1 h2 => by
    have := tonic_eq s0 s1 h1 h2
    omega)
  have HA := Lib.hid (show ∀ g : Int, g = F → shI ((g + 1) % 7) = s ∧ (g + 1) / 7 = a from fun g h => tonic_at s0 s1 (by omega))
  clear hF
  go_enter Tryd.func19, Tryd.ntmps19
  go_wp2_with fail
  simp only [show decide (s < 0) = false by simp; omega, show decide (6 < s) = false by simp; omega, show decide (a < -2) = false by simp; omega, show decide (2 < a) = false by simp; omega, Bool.or_false]
  go_loopg [8] 15 (fun gm i wr => ∃ g : Int, -7 ≤ g ∧ g ≤ 8 ∧ gm = (8 - g).toNat ∧ i = .int .i64 g ∧ Hid (-7 ≤ F → F ≤ 7 → g ≤ F) ∧ Hid (Bel w wr))
  case atStart => exact ⟨-7, by omega, by omega, by omega, rfl, Lib.hid (fun h _ => h), Lib.hid (Bel.refl w)⟩
  case round =>
    obtain ⟨g, g0, g8, rfl, rfl, HG, HB⟩ := hrel
    by_cases h7 : g ≤ 7
    · go_wp2_with fail
      refine (refTonic_n g _ ⟨g0, h7⟩).mono ?_
      rintro e w1 ⟨rfl, hb⟩
      have HB1 := Lib.hid (HB.out.up hb)
      clear hb HB
      have HE1 := Lib.hid (HE.out g)
      have HA1 := Lib.hid (HA.out g)
      generalize shI ((g + 1) % 7) = S at *
      generalize (g + 1) / 7 = A at *
      by_cases hS : S = s
      · have e0 : (S == s) = true := by simpa using hS
        by_cases hA : A = a
        · have e1 : (A == a) = true := by simpa using hA
          have hg : g = F := HE1.out hS hA
          have E1 := Lib.hid (show ofN F = g by rw [← hg]; unfold ofN; rw [if_pos ⟨g0, h7⟩])
          have E2 := Lib.hid (show ofE F = 0 by rw [← hg]; unfold ofE; rw [if_pos ⟨g0, h7⟩])
          clear hg hS hA
          go_wp2_with fail
          all_goals
            go_ret2
            exact ⟨by rw [E1.out, E2.out]; first | done | rfl, HB1.out.out⟩
        · have e1 : (A == a) = false := by simpa using hA
          have hn := Lib.hid (show g ≠ F from fun h => hA (HA1.out h).2)
          clear hS hA
          go_wp2_with fail
          go_roundg (8 - (g + 1)).toNat
          case measure => omega
          case rel => exact ⟨g + 1, by omega, by omega, rfl, by go_num, Lib.hid (fun h1 h2 => by have := HG.out h1 h2; have := hn.out; omega), HB1⟩
      · have e0 : (S == s) = false := by simpa using hS
        have hn := Lib.hid (show g ≠ F from fun h => hS (HA1.out h).1)
        clear hS
        go_wp2_with fail
        go_roundg (8 - (g + 1)).toNat
        case measure => omega
        case rel => exact ⟨g + 1, by omega, by omega, rfl, by go_num, Lib.hid (fun h1 h2 => by have := HG.out h1 h2; have := hn.out; omega), HB1⟩
    · have hs : ¬ Sg F := fun c => by have := HG.out c.f0 c.f1; have := c.f1; omega
      have E1 := Lib.hid (show ofN F = 0 by unfold ofN; rw [if_neg hs])
      have E2 := Lib.hid (show ofE F = 2 by unfold ofE; rw [if_neg hs])
      clear hs
      go_wp2_with fail
      all_goals
        go_ret2
        exact ⟨by rw [E1.out, E2.out]; first | done | rfl, HB.out.out⟩
set_option maxRecDepth 100000 in
set_option maxHeartbeats 2000000 in
theorem rof_by (s a : Int) (w : World) (h : ¬ Cls s a) :
    Calls Tryd.prog 19 #[.int .i64 s, .int .i64 a, .bool true] w fun e w' => e = .returned (.tuple #[.int .i64 0, .int .i64 18]) ∧ Below w.heap.size w w' := by
  rcases not_cls h with h1 | ⟨q0, h1 | ⟨q1, h1 | ⟨q2, h1⟩⟩⟩
  all_goals
    clear h
    have B0 := Lib.hid (Bel.refl w)
    go_enter Tryd.func19, Tryd.ntmps19
    go_wp2_with fail
    go_ret2
    exact ⟨rfl, B0.out.out⟩
set_option maxRecDepth 100000 in
set_option maxHeartbeats 2000000 in
theorem rof_y (s a F : Int) (w : World) (k : Cls s a) (hF : ixI s - 1 + 7 * a - 3 = F) :
    Calls Tryd.prog 19 #[.int .i64 s, .int .i64 a, .bool true] w fun e w' => e = .returned (.tuple #[.int .i64 (ofN F), .int .i64 (ofE F)]) ∧ Below w.heap.size w w' := by
  obtain ⟨s0, s1, a0, a1⟩ := k
  have HE := Lib.hid (show ∀ g : Int, shI ((g + 3 + 1) % 7) = s → (g + 3 + 1) / 7 = a → g = F from fun g h1 h2 => by
    have := tonic_eq s0 s1 h1 h2
    omega)
  have HA := Lib.hid (show ∀ g : Int, g = F → shI ((g + 3 + 1) % 7) = s ∧ (g + 3 + 1) / 7 = a from fun g h => tonic_at s0 s1 (by omega))
  clear hF
  go_enter Tryd.func19, Tryd.ntmps19
  go_wp2_with fail
  simp only [show decide (s < 0) = false by simp; omega, show decide (6 < s) = false by simp; omega, show decide (a < -2) = false by simp; omega, show decide (2 < a) = false by simp; omega, Bool.or_false]
  go_loopg [8] 15 (fun gm i wr => ∃ g : Int, -7 ≤ g ∧ g ≤ 8 ∧ gm = (8 - g).toNat ∧ i = .int .i64 g ∧ Hid (-7 ≤ F → F ≤ 7 → g ≤ F) ∧ Hid (Bel w wr))
  case atStart => exact ⟨-7, by omega, by omega, by omega, rfl, Lib.hid (fun h _ => h), Lib.hid (Bel.refl w)⟩
  case round =>
    obtain ⟨g, g0, g8, rfl, rfl, HG, HB⟩ := hrel
    by_cases h7 : g ≤ 7
    · go_wp2_with fail
      refine (refTonic_y g _ ⟨g0, h7⟩).mono ?_
      rintro e w1 ⟨rfl, hb⟩
      have HB1 := Lib.hid (HB.out.up hb)
      clear hb HB
      have HE1 := Lib.hid (HE.out g)
      have HA1 := Lib.hid (HA.out g)
      generalize shI ((g + 3 + 1) % 7) = S at *
      generalize (g + 3 + 1) / 7 = A at *
      by_cases hS : S = s
      · have e0 : (S == s) = true := by simpa using hS
        by_cases hA : A = a
        · have e1 : (A == a) = true := by simpa using hA
          have hg : g = F := HE1.out hS hA
          have E1 := Lib.hid (show ofN F = g by rw [← hg]; unfold ofN; rw [if_pos ⟨g0, h7⟩])
          have E2 := Lib.hid (show ofE F = 0 by rw [← hg]; unfold ofE; rw [if_pos ⟨g0, h7⟩])
          clear hg hS hA
          go_wp2_with fail
          all_goals
            go_ret2
            exact ⟨by rw [E1.out, E2.out]; first | done | rfl, HB1.out.out⟩
        · have e1 : (A == a) = false := by simpa using hA
          have hn := Lib.hid (show g ≠ F from fun h => hA (HA1.out h).2)
          clear hS hA
          go_wp2_with fail
          go_roundg (8 - (g + 1)).toNat
          case measure => omega
          case rel => exact ⟨g + 1, by omega, by omega, rfl, by go_num, Lib.hid (fun h1 h2 => by have := HG.out h1 h2; have := hn.out; omega), HB1⟩
      · have e0 : (S == s) = false := by simpa using hS
        have hn := Lib.hid (show g ≠ F from fun h => hS (HA1.out h).1)
        clear hS
        go_wp2_with fail
        go_roundg (8 - (g + 1)).toNat
        case measure => omega
        case rel => exact ⟨g + 1, by omega, by omega, rfl, by go_num, Lib.hid (fun h1 h2 => by have := HG.out h1 h2; have := hn.out; omega), HB1⟩
    · have hs : ¬ Sg F := fun c => by have := HG.out c.f0 c.f1; have := c.f1; omega
      have E1 := Lib.hid (show ofN F = 0 by unfold ofN; rw [if_neg hs])
      have E2 := Lib.hid (show ofE F = 2 by unfold ofE; rw [if_neg hs])
      clear hs
      go_wp2_with fail
      all_goals
        go_ret2
        exact ⟨by rw [E1.out, E2.out]; first | done | rfl, HB.out.out⟩
end Go.Proofs.YtihndkplknoabaaDoor
