/- Keys: the reference's Place and Tonic. -/
import Derived.Test.YthdkfeehabpikaaDoorKj
namespace Go.Proofs.YthdkfeehabpikaaDoor
open Go.RowKit
set_option linter.unusedVariables false
set_option linter.unusedSimpArgs false

/-- where a step stands in the order of sharps -/
def ixI (s : Int) : Int := if s = 0 then 1 else if s = 1 then 3 else if s = 2 then 5 else if s = 3 then 0 else if s = 4 then 2 else if s = 5 then 4 else 6
theorem ixI_bd (s : Int) : 0 ≤ ixI s ∧ ixI s ≤ 6 := by unfold ixI; repeat' split <;> omega
theorem sh_ix {s : Int} (s0 : 0 ≤ s) (s1 : s ≤ 6) : shI (ixI s) = s := by
  rcases (show s = 0 ∨ s = 1 ∨ s = 2 ∨ s = 3 ∨ s = 4 ∨ s = 5 ∨ s = 6 by omega) with rfl | rfl | rfl | rfl | rfl | rfl | rfl <;> rfl
theorem ix_sh {r : Int} (r0 : 0 ≤ r) (r1 : r ≤ 6) : ixI (shI r) = r := by
  rcases (show r = 0 ∨ r = 1 ∨ r = 2 ∨ r = 3 ∨ r = 4 ∨ r = 5 ∨ r = 6 by omega) with rfl | rfl | rfl | rfl | rfl | rfl | rfl <;> rfl
theorem shL_sh : ∀ k : Fin 7, shL[k.val]? = some (shI (k.val : Int)) := by decide
set_option maxRecDepth 100000 in
set_option maxHeartbeats 2000000 in
theorem place_ok (s a : Int) (w : World) (s0 : 0 ≤ s) (s1 : s ≤ 6) (a0 : -2 ≤ a) (a1 : a ≤ 2) :
    Calls Tryd.prog 36 #[.int .i64 s, .int .i64 a] w fun e w' => e = .returned (.int .i64 (ixI s - 1 + 7 * a)) ∧ Below w.heap.size w w' := by
  have HS := Lib.hid (sh_ix s0 s1)
  obtain ⟨S, hS⟩ : ∃ S : Nat, ixI s = (S : Int) := ⟨(ixI s).toNat, by have := ixI_bd s; omega⟩
  have HV := Lib.hid (show (S : Int) - 1 + 7 * a = ixI s - 1 + 7 * a by rw [hS])
  have hS6 : S ≤ 6 := by have := ixI_bd s; omega
  have HT := Lib.hid (show shI (S : Int) = s by rw [← hS]; exact HS.out)
  have HN := Lib.hid (show ∀ k : Nat, k ≤ 6 → k ≠ S → shI (k : Int) ≠ s from fun k hk hn e => by
    have h1 := ix_sh (r := (k : Int)) (by omega) (by omega)
    rw [e, hS] at h1
    omega)
  clear hS HS
  go_enter Tryd.func36, Tryd.ntmps36
  go_wp2_with fail
  go_loopg [5] 7 (fun gm i wr => ∃ k : Nat, k ≤ S ∧ gm = 7 - k ∧ i = .int .i64 (k : Int) ∧ Hid (Bel w wr))
  case atStart => exact ⟨0, by omega, by omega, rfl, Lib.hid (Bel.refl w)⟩
  case round =>
    obtain ⟨k, hk, rfl, rfl, HB⟩ := hrel
    have hk6 : k ≤ 6 := by omega
    go_wp2_with fail
    refine (sharpsR_ok _).mono ?_
    rintro e w1 ⟨b, rfl, hr, hb⟩
    have q1 := hr k _ (shL_sh ⟨k, by omega⟩)
    have HB1 := Lib.hid (HB.out.up hb)
    clear hr hb HB
    by_cases e : k = S
    · subst e
      simp only [HT.out] at q1
      go_wp2_with fail
      try (go_quiet (fail); go_wp2_with fail)
      go_ret
      exact ⟨by rw [← HV.out]; first | done | rfl, by first | exact HB1.out.out | exact below_drewN HB1.out.out _⟩
    · have hne := HN.out k hk6 e
      have e0 : (shI (k : Int) == s) = false := by simpa using hne
      simp only at q1
      generalize shI (k : Int) = x at q1 e0 hne
      clear hne
      go_wp2_with fail
      try (go_quiet (fail); go_wp2_with fail)
      go_roundg (7 - (k + 1))
      case measure => omega
      case rel => exact ⟨k + 1, by omega, rfl, by go_num, by first | exact HB1 | exact Lib.hid (below_drewN HB1.out.out _)⟩
set_option maxRecDepth 100000 in
set_option maxHeartbeats 2000000 in
theorem refTonic_n (f : Int) (w : World) (h : Sg f) :
    Calls Tryd.prog 23 #[.int .i64 f, .bool false] w fun e w' => e = .returned (.tuple #[.int .i64 (shI ((f + 1) % 7)), .int .i64 ((f + 1) / 7)]) ∧ Below w.heap.size w w' := by
  obtain ⟨f0, f1⟩ := h
  obtain ⟨R, hR⟩ : ∃ R, (f + 1) % 7 = R := ⟨_, rfl⟩
  obtain ⟨A, hA⟩ : ∃ A, (f + 1) / 7 = A := ⟨_, rfl⟩
  obtain ⟨S, hS⟩ : ∃ S, shI R = S := ⟨_, rfl⟩
  have HV := Lib.hid (show (Value.tuple #[.int .i64 S, .int .i64 A]) = .tuple #[.int .i64 (shI ((f + 1) % 7)), .int .i64 ((f + 1) / 7)] by rw [hR, hA, hS])
  have hf : f = 7 * A + R - 1 := by omega
  have R0 : 0 ≤ R := by omega
  have R1 : R ≤ 6 := by omega
  have A0 : -1 ≤ A := by omega
  have A1 : A ≤ 1 := by omega
  have hSb : 0 ≤ S ∧ S ≤ 6 := by rw [← hS]; exact shI_bd R
  have hSR : ixI S = R := by rw [← hS]; exact ix_sh R0 R1
  have HE := Lib.hid (show ∀ s a : Int, 0 ≤ s → s ≤ 6 → ixI s - 1 + 7 * a = f → a = A ∧ s = S from fun s a s0 s1 e => by
    have hb := ixI_bd s
    have e1 : a = A := by omega
    have e2 : ixI s = R := by omega
    exact ⟨e1, by rw [← sh_ix s0 s1, e2, hS]⟩)
  have HY := Lib.hid (show ixI S - 1 + 7 * A = f by rw [hSR]; omega)
  obtain ⟨S0, S1⟩ := hSb
  clear hR hA hS hSR hf R0 R1
  go_enter Tryd.func23, Tryd.ntmps23
  go_wp2_with fail
  go_loopg [6] 6 (fun gm i wr => ∃ a : Int, -2 ≤ a ∧ a ≤ A ∧ gm = (4 - a).toNat ∧ i = .int .i64 a ∧ Hid (Bel w wr))
  case atStart => exact ⟨-2, by omega, by omega, by omega, rfl, Lib.hid (Bel.refl w)⟩
  case round =>
    obtain ⟨a, a0, a1, rfl, rfl, HB⟩ := hrel
    go_wp2_with fail
    try rw [show decide (a ≤ 2) = true by simp; omega]
    go_loopg [7] 7 (fun gm i wr => ∃ s : Int, 0 ≤ s ∧ s ≤ 7 ∧ gm = (7 - s).toNat ∧ i = .int .i64 s ∧ (a = A → s ≤ S) ∧ Hid (Bel w wr))
    case atStart => exact ⟨0, by omega, by omega, by omega, rfl, fun _ => by omega, HB⟩
    case round =>
      obtain ⟨s, s0, s7, rfl, rfl, hs, HB⟩ := hrel
      have HH := Lib.hid hs
      clear hs
      by_cases s6 : s ≤ 6
      · go_wp2_with fail
        refine (place_ok s a _ s0 s6 a0 (by omega)).mono ?_
        rintro e w1 ⟨rfl, hb⟩
        have HB1 := Lib.hid (HB.out.up hb)
        clear hb HB
        have HI := Lib.hid (HE.out s a s0 s6)
        have HZ := Lib.hid (show a = A → s = S → ixI s - 1 + 7 * a = f from fun e e2 => by rw [e, e2]; exact HY.out)
        generalize ixI s - 1 + 7 * a = X at *
        by_cases hX : X = f
        · obtain ⟨rfl, rfl⟩ := HI.out hX
          have e0 : (X == f) = true := by simpa using hX
          clear hX
          go_wp2_with fail
          all_goals
            go_ret2
            exact ⟨congrArg Ending.returned HV.out, HB1.out.out⟩
        · have e0 : (X == f) = false := by simpa using hX
          have hX' := Lib.hid hX
          clear hX
          go_wp2_with fail
          go_roundg (7 - (s + 1)).toNat
          case measure => omega
          case rel => exact ⟨s + 1, by omega, by omega, rfl, by go_num, fun e => by
            have := HH.out e
            by_cases e2 : s = S
            · exact absurd (HZ.out e e2) hX'.out
            · omega, HB1⟩
      · have hne : a ≠ A := fun e => by have := HH.out e; omega
        have : s = 7 := by omega
        subst this
        go_wp2_with fail
        go_roundg (4 - (a + 1)).toNat
        case measure => omega
        case rel => exact ⟨a + 1, by omega, by omega, rfl, by go_num, HB⟩
set_option maxRecDepth 100000 in
set_option maxHeartbeats 2000000 in
theorem refTonic_y (f : Int) (w : World) (h : Sg f) :
    Calls Tryd.prog 23 #[.int .i64 f, .bool true] w fun e w' => e = .returned (.tuple #[.int .i64 (shI ((f + 3 + 1) % 7)), .int .i64 ((f + 3 + 1) / 7)]) ∧ Below w.heap.size w w' := by
  obtain ⟨f0, f1⟩ := h
  obtain ⟨R, hR⟩ : ∃ R, (f + 3 + 1) % 7 = R := ⟨_, rfl⟩
  obtain ⟨A, hA⟩ : ∃ A, (f + 3 + 1) / 7 = A := ⟨_, rfl⟩
  obtain ⟨S, hS⟩ : ∃ S, shI R = S := ⟨_, rfl⟩
  have HV := Lib.hid (show (Value.tuple #[.int .i64 S, .int .i64 A]) = .tuple #[.int .i64 (shI ((f + 3 + 1) % 7)), .int .i64 ((f + 3 + 1) / 7)] by rw [hR, hA, hS])
  have hf : f + 3 = 7 * A + R - 1 := by omega
  have R0 : 0 ≤ R := by omega
  have R1 : R ≤ 6 := by omega
  have A0 : -1 ≤ A := by omega
  have A1 : A ≤ 1 := by omega
  have hSb : 0 ≤ S ∧ S ≤ 6 := by rw [← hS]; exact shI_bd R
  have hSR : ixI S = R := by rw [← hS]; exact ix_sh R0 R1
  have HE := Lib.hid (show ∀ s a : Int, 0 ≤ s → s ≤ 6 → ixI s - 1 + 7 * a = f + 3 → a = A ∧ s = S from fun s a s0 s1 e => by
    have hb := ixI_bd s
    have e1 : a = A := by omega
    have e2 : ixI s = R := by omega
    exact ⟨e1, by rw [← sh_ix s0 s1, e2, hS]⟩)
  have HY := Lib.hid (show ixI S - 1 + 7 * A = f + 3 by rw [hSR]; omega)
  obtain ⟨S0, S1⟩ := hSb
  clear hR hA hS hSR hf R0 R1
  go_enter Tryd.func23, Tryd.ntmps23
  go_wp2_with fail
  go_loopg [6] 6 (fun gm i wr => ∃ a : Int, -2 ≤ a ∧ a ≤ A ∧ gm = (4 - a).toNat ∧ i = .int .i64 a ∧ Hid (Bel w wr))
  case atStart => exact ⟨-2, by omega, by omega, by omega, rfl, Lib.hid (Bel.refl w)⟩
  case round =>
    obtain ⟨a, a0, a1, rfl, rfl, HB⟩ := hrel
    go_wp2_with fail
    try rw [show decide (a ≤ 2) = true by simp; omega]
    go_loopg [7] 7 (fun gm i wr => ∃ s : Int, 0 ≤ s ∧ s ≤ 7 ∧ gm = (7 - s).toNat ∧ i = .int .i64 s ∧ (a = A → s ≤ S) ∧ Hid (Bel w wr))
    case atStart => exact ⟨0, by omega, by omega, by omega, rfl, fun _ => by omega, HB⟩
    case round =>
      obtain ⟨s, s0, s7, rfl, rfl, hs, HB⟩ := hrel
      have HH := Lib.hid hs
      clear hs
      by_cases s6 : s ≤ 6
      · go_wp2_with fail
        refine (place_ok s a _ s0 s6 a0 (by omega)).mono ?_
        rintro e w1 ⟨rfl, hb⟩
        have HB1 := Lib.hid (HB.out.up hb)
        clear hb HB
        have HI := Lib.hid (HE.out s a s0 s6)
        have HZ := Lib.hid (show a = A → s = S → ixI s - 1 + 7 * a = f + 3 from fun e e2 => by rw [e, e2]; exact HY.out)
        generalize ixI s - 1 + 7 * a = X at *
        by_cases hX : X = f + 3
        · obtain ⟨rfl, rfl⟩ := HI.out hX
          have e0 : (X == f + 3) = true := by simpa using hX
          clear hX
          go_wp2_with fail
          all_goals
            go_ret2
            exact ⟨congrArg Ending.returned HV.out, HB1.out.out⟩
        · have e0 : (X == f + 3) = false := by simpa using hX
          have hX' := Lib.hid hX
          clear hX
          go_wp2_with fail
          go_roundg (7 - (s + 1)).toNat
          case measure => omega
          case rel => exact ⟨s + 1, by omega, by omega, rfl, by go_num, fun e => by
            have := HH.out e
            by_cases e2 : s = S
            · exact absurd (HZ.out e e2) hX'.out
            · omega, HB1⟩
      · have hne : a ≠ A := fun e => by have := HH.out e; omega
        have : s = 7 := by omega
        subst this
        go_wp2_with fail
        go_roundg (4 - (a + 1)).toNat
        case measure => omega
        case rel => exact ⟨a + 1, by omega, by omega, rfl, by go_num, HB⟩
end Go.Proofs.YthdkfeehabpikaaDoor
