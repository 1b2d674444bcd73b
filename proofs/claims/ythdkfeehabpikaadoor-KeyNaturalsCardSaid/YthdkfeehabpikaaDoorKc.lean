/- Keys: the tonic, its name, the signature of 2. -/
import Derived.Test.YthdkfeehabpikaaDoorKb
namespace Go.Proofs.YthdkfeehabpikaaDoor
open Go.RowKit
set_option linter.unusedVariables false
set_option linter.unusedSimpArgs false

/-- the tables of the package key read as they are laid -/
structure KT (w : World) : Prop where
  s0 : w.cell? ⟨1, 0, none⟩ = some (.int .i64 3)
  s1 : w.cell? ⟨1, 1, none⟩ = some (.int .i64 0)
  s2 : w.cell? ⟨1, 2, none⟩ = some (.int .i64 4)
  s3 : w.cell? ⟨1, 3, none⟩ = some (.int .i64 1)
  s4 : w.cell? ⟨1, 4, none⟩ = some (.int .i64 5)
  s5 : w.cell? ⟨1, 5, none⟩ = some (.int .i64 2)
  s6 : w.cell? ⟨1, 6, none⟩ = some (.int .i64 6)
  g0 : w.cell? ⟨0, 0, none⟩ = some (.string ⟨#[98]⟩)
  g1 : w.cell? ⟨0, 1, none⟩ = some (.string ⟨#[]⟩)
  g2 : w.cell? ⟨0, 2, none⟩ = some (.string ⟨#[35]⟩)
theorem KT.below {w w' : World} (h : KT w) (hb : Below w.heap.size w w') : KT w' :=
  ⟨cell_up hb h.s0, cell_up hb h.s1, cell_up hb h.s2, cell_up hb h.s3, cell_up hb h.s4, cell_up hb h.s5, cell_up hb h.s6, cell_up hb h.g0, cell_up hb h.g1, cell_up hb h.g2⟩
set_option maxRecDepth 100000 in
set_option maxHeartbeats 2000000 in
theorem tonicPlace_y  (w : World)  :
    Calls Tryd.prog 34 #[.bool true] w fun e w' => e = .returned (.int .i64 3) ∧ Below w.heap.size w w' := by
  have B0 := Lib.hid (Bel.refl w)
  go_enter Tryd.func34, Tryd.ntmps34
  go_wp2_with fail
  go_ret
  exact ⟨rfl, B0.out.out⟩
set_option maxRecDepth 100000 in
set_option maxHeartbeats 2000000 in
theorem tonicPlace_n  (w : World)  :
    Calls Tryd.prog 34 #[.bool false] w fun e w' => e = .returned (.int .i64 0) ∧ Below w.heap.size w w' := by
  have B0 := Lib.hid (Bel.refl w)
  go_enter Tryd.func34, Tryd.ntmps34
  go_wp2_with fail
  go_ret
  exact ⟨rfl, B0.out.out⟩
set_option maxRecDepth 100000 in
set_option maxHeartbeats 2000000 in
theorem word_y  (w : World)  :
    Calls Tryd.prog 25 #[.bool true] w fun e w' => e = .returned (.string ⟨#[32, 109, 105, 110, 111, 114]⟩) ∧ Below w.heap.size w w' := by
  have B0 := Lib.hid (Bel.refl w)
  go_enter Tryd.func25, Tryd.ntmps25
  go_wp2_with fail
  go_ret
  exact ⟨rfl, B0.out.out⟩
def shI (r : Int) : Int := if r = 0 then 3 else if r = 1 then 0 else if r = 2 then 4 else if r = 3 then 1 else if r = 4 then 5 else if r = 5 then 2 else 6
theorem KT.sh {w : World} (h : KT w) {r : Int} (h0 : 0 ≤ r) (h1 : r ≤ 6) : w.cell? ⟨1, r.toNat, none⟩ = some (.int .i64 (shI r)) := by
  rcases (show r = 0 ∨ r = 1 ∨ r = 2 ∨ r = 3 ∨ r = 4 ∨ r = 5 ∨ r = 6 by omega) with rfl | rfl | rfl | rfl | rfl | rfl | rfl
  · exact h.s0
  · exact h.s1
  · exact h.s2
  · exact h.s3
  · exact h.s4
  · exact h.s5
  · exact h.s6
def tpI (b : Bool) : Int := if b then 3 else 0
set_option maxRecDepth 100000 in
set_option maxHeartbeats 2000000 in
theorem tonic_y (f : Int) (w : World) (h : Sg f) (hk : KT w) :
    Calls Tryd.prog 19 #[.int .i64 f, .bool true] w fun e w' => e = .returned (.tuple #[.int .i64 (shI ((f + 3 + 1) % 7)), .int .i64 ((f + 3 + 1) / 7)]) ∧ Below w.heap.size w w' := by
  have B0 := Lib.hid (Bel.refl w)
  have K0 := Lib.hid hk
  obtain ⟨f0, f1⟩ := h
  obtain ⟨X, hX⟩ : ∃ X, f + 3 + 1 = X := ⟨_, rfl⟩
  have HX := Lib.hid hX
  have X0 : -6 ≤ X := by omega
  have X1 : X ≤ 11 := by omega
  go_enter Tryd.func19, Tryd.ntmps19
  go_wp2_with fail
  refine (tonicPlace_y _).mono ?_
  rintro e w1 ⟨rfl, hb⟩
  have B1 := Lib.hid (B0.out.up hb)
  have K1 := Lib.hid (K0.out.below hb)
  clear hb B0 K0 
  have e0 := K1.out.sh (r := X % 7) (by omega) (by omega)
  have r1 : (X + 7) % 7 = X % 7 := by omega
  have r2 : -1 + (X + 7) / 7 = X / 7 := by omega
  have HV := Lib.hid (show Ending.returned (.tuple #[.int .i64 (shI ((X + 7) % 7)), .int .i64 (-1 + (X + 7) / 7)]) = .returned (.tuple #[.int .i64 (shI ((f + 3 + 1) % 7)), .int .i64 ((f + 3 + 1) / 7)]) by rw [HX.out, r1, r2])
  have HW := Lib.hid (show Ending.returned (.tuple #[.int .i64 (shI (X % 7)), .int .i64 (X / 7)]) = .returned (.tuple #[.int .i64 (shI ((f + 3 + 1) % 7)), .int .i64 ((f + 3 + 1) / 7)]) by rw [HX.out])
  go_wp2_with fail
  clear hX f0 f1
  go_loopg [5, 6] (100 - X).toNat (fun gm al ab wr => ∃ a v : Int, al = .int .i64 a ∧ ab = .int .i64 v ∧ gm = (100 - v).toNat ∧ ((a = 0 ∧ v = X) ∨ (a = -1 ∧ v = X + 7 ∧ X < 0)) ∧ wr = w1)
  case atStart => exact ⟨0, X, rfl, rfl, rfl, .inl ⟨rfl, rfl⟩, rfl⟩
  case round =>
    obtain ⟨a, v, rfl, rfl, rfl, h, rfl⟩ := hrel
    rcases h with ⟨rfl, rfl⟩ | ⟨rfl, rfl, hx⟩
    · by_cases hx : v < 0
      · go_wp2_with fail
        go_roundg (100 - (v + 7)).toNat
        case measure => omega
        case rel => exact ⟨-1, v + 7, by go_num, rfl, rfl, .inr ⟨rfl, rfl, hx⟩, rfl⟩
      · have q0 : 0 ≤ v / 7 := by omega
        have q1 : v / 7 ≤ 1 := by omega
        go_wp2_with fail
        go_ret2
        exact ⟨HW.out, B1.out.out⟩
    · have e1 := K1.out.sh (r := (X + 7) % 7) (by omega) (by omega)
      have q0 : 0 ≤ (X + 7) / 7 := by omega
      have q1 : (X + 7) / 7 ≤ 1 := by omega
      go_wp2_with fail
      go_ret2
      first | exact ⟨HW.out, B1.out.out⟩ | exact ⟨HV.out, B1.out.out⟩
set_option maxRecDepth 100000 in
set_option maxHeartbeats 2000000 in
theorem tonic_n (f : Int) (w : World) (h : Sg f) (hk : KT w) :
    Calls Tryd.prog 19 #[.int .i64 f, .bool false] w fun e w' => e = .returned (.tuple #[.int .i64 (shI ((f + 1) % 7)), .int .i64 ((f + 1) / 7)]) ∧ Below w.heap.size w w' := by
  have B0 := Lib.hid (Bel.refl w)
  have K0 := Lib.hid hk
  obtain ⟨f0, f1⟩ := h
  obtain ⟨X, hX⟩ : ∃ X, f + 1 = X := ⟨_, rfl⟩
  have HX := Lib.hid hX
  have X0 : -6 ≤ X := by omega
  have X1 : X ≤ 11 := by omega
  go_enter Tryd.func19, Tryd.ntmps19
  go_wp2_with fail
  refine (tonicPlace_n _).mono ?_
  rintro e w1 ⟨rfl, hb⟩
  have B1 := Lib.hid (B0.out.up hb)
  have K1 := Lib.hid (K0.out.below hb)
  clear hb B0 K0 
  have e0 := K1.out.sh (r := X % 7) (by omega) (by omega)
  have r1 : (X + 7) % 7 = X % 7 := by omega
  have r2 : -1 + (X + 7) / 7 = X / 7 := by omega
  have HV := Lib.hid (show Ending.returned (.tuple #[.int .i64 (shI ((X + 7) % 7)), .int .i64 (-1 + (X + 7) / 7)]) = .returned (.tuple #[.int .i64 (shI ((f + 1) % 7)), .int .i64 ((f + 1) / 7)]) by rw [HX.out, r1, r2])
  have HW := Lib.hid (show Ending.returned (.tuple #[.int .i64 (shI (X % 7)), .int .i64 (X / 7)]) = .returned (.tuple #[.int .i64 (shI ((f + 1) % 7)), .int .i64 ((f + 1) / 7)]) by rw [HX.out])
  go_wp2_with fail
  clear hX f0 f1
  go_loopg [5, 6] (100 - X).toNat (fun gm al ab wr => ∃ a v : Int, al = .int .i64 a ∧ ab = .int .i64 v ∧ gm = (100 - v).toNat ∧ ((a = 0 ∧ v = X) ∨ (a = -1 ∧ v = X + 7 ∧ X < 0)) ∧ wr = w1)
  case atStart => exact ⟨0, X, rfl, rfl, rfl, .inl ⟨rfl, rfl⟩, rfl⟩
  case round =>
    obtain ⟨a, v, rfl, rfl, rfl, h, rfl⟩ := hrel
    rcases h with ⟨rfl, rfl⟩ | ⟨rfl, rfl, hx⟩
    · by_cases hx : v < 0
      · go_wp2_with fail
        go_roundg (100 - (v + 7)).toNat
        case measure => omega
        case rel => exact ⟨-1, v + 7, by go_num, rfl, rfl, .inr ⟨rfl, rfl, hx⟩, rfl⟩
      · have q0 : 0 ≤ v / 7 := by omega
        have q1 : v / 7 ≤ 1 := by omega
        go_wp2_with fail
        go_ret2
        exact ⟨HW.out, B1.out.out⟩
    · have e1 := K1.out.sh (r := (X + 7) % 7) (by omega) (by omega)
      have q0 : 0 ≤ (X + 7) / 7 := by omega
      have q1 : (X + 7) / 7 ≤ 1 := by omega
      go_wp2_with fail
      go_ret2
      first | exact ⟨HW.out, B1.out.out⟩ | exact ⟨HV.out, B1.out.out⟩
set_option maxRecDepth 100000 in
set_option maxHeartbeats 2000000 in
theorem sig_2  (w : World) (hk : KT w) :
    Calls Tryd.prog 31 #[.int .i64 2] w fun e w' => ∃ b, e = .returned (.slice (some ⟨b, 0, none⟩) 2 7) ∧ w'.cell? ⟨b, 0, none⟩ = some (.int .i64 3) ∧ w'.cell? ⟨b, 1, none⟩ = some (.int .i64 0) ∧ Below w.heap.size w w' := by
  have B0 := Lib.hid (Bel.refl w)
  have K0 := Lib.hid hk
  obtain ⟨s0, s1, s2, s3, s4, s5, s6, g0, g1, g2⟩ := id K0.out
  go_enter Tryd.func31, Tryd.ntmps31
  go_wp2_with fail
  exact bodyPost_ret (v := .slice (some ⟨w.heap.size, 0, none⟩) 2 7) (by simp [results, Tryd.results31, go_sem]) rfl ⟨w.heap.size, rfl, by simp, by simp, by repeat (first | exact Below.refl _ _ | refine below_drewN ?_ _ | refine Below.drew ?_ | refine Below.alloc ?_ (Nat.le_refl _) _)⟩
/-- a row of numbers at an address -/
def Row1 (w : World) (g : Nat) (L : List Int) : Prop := ∀ (k : Nat) (x : Int), L[k]? = some x → w.cell? ⟨g, k, none⟩ = some (.int .i64 x)
theorem Row1.up {w w' : World} {g : Nat} {L : List Int} (h : Row1 w g L) (hb : Below w.heap.size w w') : Row1 w' g L := fun k x hk => cell_up hb (h k x hk)
def IxP (L : List Int) (v : Int) (w : World) (e : Ending) (w' : World) : Prop :=
  ((∃ k : Nat, L[k]? = some v ∧ e = .returned (.int .i64 (k : Int))) ∨ ((∀ (j : Nat) (x : Int), L[j]? = some x → x ≠ v) ∧ e = .returned (.int .i64 (-1)))) ∧ Below w.heap.size w w'
set_option maxRecDepth 100000 in
set_option maxHeartbeats 2000000 in
theorem index_ok (L : List Int) (g cap : Nat) (v : Int) (w : World) (hl : L.length ≤ 1000) (hr : Row1 w g L) :
    Calls Tryd.prog 39 #[.slice (some ⟨g, 0, none⟩) L.length cap, .int .i64 v] w (IxP L v w) := by
  have HR := Lib.hid hr
  clear hr
  go_enter Tryd.func39, Tryd.ntmps39
  go_wp2_with fail
  go_loopg [8] L.length (fun gm i wr => ∃ k : Nat, k ≤ L.length ∧ gm = L.length - k ∧ i = .int .i64 (k : Int) ∧ Hid (∀ (j : Nat) (x : Int), j < k → L[j]? = some x → x ≠ v) ∧ Hid (Bel w wr))
  case atStart => exact ⟨0, by omega, by omega, rfl, Lib.hid (fun j x hj => absurd hj (by omega)), Lib.hid (Bel.refl w)⟩
  case round =>
    obtain ⟨k, hk, rfl, rfl, HN, HB⟩ := hrel
    by_cases hlt : k < L.length
    · obtain ⟨x, hx⟩ : ∃ x, L[k]? = some x := ⟨_, List.getElem?_eq_getElem hlt⟩
      have q1 := (HR.out.up HB.out.out) k x hx
      have HQ := Lib.hid hx
      clear hx
      by_cases hm : v = x
      · have e1 : (v == x) = true := by simpa using hm
        have HM := Lib.hid hm
        clear hm
        go_wp2_with fail
        try (go_quiet (fail); go_wp2_with fail)
        go_ret
        exact ⟨.inl ⟨k, by rw [HM.out]; exact HQ.out, rfl⟩, by first | exact HB.out.out | exact below_drewN HB.out.out _⟩
      · have e1 : (v == x) = false := by simpa using hm
        have HM := Lib.hid hm
        clear hm
        go_wp2_with fail
        try (go_quiet (fail); go_wp2_with fail)
        go_roundg (L.length - (k + 1))
        case measure => omega
        case rel => exact ⟨k + 1, by omega, rfl, by go_num, Lib.hid (fun j y hj hy => by
          by_cases e : j = k
          · subst e; rw [HQ.out] at hy; cases hy; exact fun h => HM.out h.symm
          · exact HN.out j y (by omega) hy), by first | exact HB | exact Lib.hid (below_drewN HB.out.out _)⟩
    · obtain rfl : k = L.length := by omega
      go_wp2_with fail
      go_ret
      exact ⟨.inr ⟨fun j x hx => HN.out j x (by
        rcases Nat.lt_or_ge j L.length with h | h
        · exact h
        · rw [List.getElem?_eq_none h] at hx; cases hx) hx, rfl⟩, HB.out.out⟩
end Go.Proofs.YthdkfeehabpikaaDoor
