/- The law PitchEnharmonics. -/
import Derived.Test.YtolfgomlokpopaaDoorEb
import Derived.Test.YtolfgomlokpopaaDoorPk
namespace Go.Proofs.YtolfgomlokpopaaDoor
open Go.RowKit
set_option linter.unusedVariables false
set_option linter.unusedSimpArgs false

theorem refE_fin : ∀ n : Fin 128, refE (n.val : Int) = enhL (n.val : Int) := by decide +kernel
theorem refE_enh {n : Int} (n0 : 0 ≤ n) (n1 : n ≤ 127) : refE n = enhL n := by
  have := refE_fin ⟨n.toNat, by omega⟩
  have e : ((n.toNat : Nat) : Int) = n := by omega
  simpa [e] using this
theorem enhL_fin : ∀ n : Fin 128, enhL (n.val : Int) ≠ [] := by decide +kernel
theorem enhL_some {n : Int} (n0 : 0 ≤ n) (n1 : n ≤ 127) : enhL n ≠ [] := by
  have := enhL_fin ⟨n.toNat, by omega⟩
  have e : ((n.toNat : Nat) : Int) = n := by omega
  simpa [e] using this
theorem enhL_len (n : Int) : (enhL n).length ≤ 5 := by
  unfold enhL
  have := pitL_len n (upF 5)
  rw [upF_len (Nat.le_refl _)] at this
  exact this
set_option maxHeartbeats 400000 in
theorem enh_bad (n : Int) (w : World) (h : n < 0 ∨ 127 < n) :
    Calls Tryd.prog 20 #[.int .i64 n] w fun e w' => e = .returned (.tuple #[.slice none 0 0, .int .i64 2]) ∧ Below w.heap.size w w' := by
  have H := Lib.hid h
  clear h
  go_enter Tryd.func20, Tryd.ntmps20
  go_wp2_with fail
  refine (checkNumber_bad n _ H.out).mono ?_
  rintro e w1 ⟨rfl, rfl⟩
  go_wp2_with fail
  go_ret2
  exact ⟨rfl, Below.refl _ _⟩
/-- a row of pitches at an address -/
def Row3 (w : World) (g : Nat) (L : List (Int × Int × Int)) : Prop := ∀ (k : Nat) (q : Int × Int × Int), L[k]? = some q → w.cell? ⟨g, k * 3, none⟩ = some (.int .i64 q.1) ∧ w.cell? ⟨g, k * 3 + 1, none⟩ = some (.int .i64 q.2.1) ∧ w.cell? ⟨g, k * 3 + 2, none⟩ = some (.int .i64 q.2.2)
theorem Row3.up {w w' : World} {g : Nat} {L : List (Int × Int × Int)} (h : Row3 w g L) (hb : Below w.heap.size w w') : Row3 w' g L :=
  fun k q hq => by obtain ⟨a, b, c⟩ := h k q hq; exact ⟨cell_up hb a, cell_up hb b, cell_up hb c⟩
set_option maxRecDepth 100000 in
set_option maxHeartbeats 2000000 in
theorem enhLaw_no (n : Int) (w : World) (h : n < 0 ∨ 127 < n) (ht : PW w) :
    Calls Tryd.prog 5 #[.int .i64 n] w fun e w' => e = .returned (.bool true) ∧ Below w.heap.size w w' := by
  have T0 := Lib.hid ht
  have H := Lib.hid h
  clear ht
  go_enter Tryd.func5, Tryd.ntmps5
  go_wp2_with fail
  refine (enh_bad n _ H.out).mono ?_
  rintro e w1 ⟨rfl, hb⟩
  have B1 := Lib.hid ((Bel.refl w).up hb)
  have T1 := Lib.hid (T0.out.below hb)
  clear hb T0
  go_wp2_with fail
  refine (known_any _ T1.out).mono ?_
  rintro e w2 ⟨rfl, hb⟩
  have B2 := Lib.hid (B1.out.up hb)
  clear hb T1 B1
  rcases h with h | h
  all_goals
    go_wp2_with fail
    go_ret
    exact ⟨rfl, B2.out.out⟩
set_option maxRecDepth 100000 in
set_option maxHeartbeats 2000000 in
theorem enhLaw_yes (n : Int) (w : World) (n0 : 0 ≤ n) (n1 : n ≤ 127) (ht : PW w) :
    Calls Tryd.prog 5 #[.int .i64 n] w fun e w' => e = .returned (.bool true) ∧ Below w.heap.size w w' := by
  have T0 := Lib.hid ht
  clear ht
  have hEE := refE_enh n0 n1
  have hne := enhL_some n0 n1
  have hlen := enhL_len n
  go_enter Tryd.func5, Tryd.ntmps5
  go_wp2_with fail
  refine (enh_ok n _ n0 n1 T0.out.t).mono ?_
  rintro e w1 ⟨v, rfl, hown, -, hb⟩
  obtain ⟨g, cap, rfl, hg, hrow⟩ := rows_of_own hown hne
  have R1 := Lib.hid (show Row3 w1 g (enhL n) from hrow)
  have B1 := Lib.hid ((Bel.refl w).up hb)
  have T1 := Lib.hid (T0.out.below hb)
  clear hown hrow hb hg T0
  go_wp2_with fail
  refine (known_any _ T1.out).mono ?_
  rintro e w2 ⟨rfl, hb⟩
  have R2 := Lib.hid (R1.out.up hb)
  have B2 := Lib.hid (B1.out.up hb)
  clear hb T1 B1 R1
  go_wp2_with fail
  refine (refEnh_any n _).mono ?_
  rintro e w3 ⟨v, rfl, hown, hb⟩
  rw [hEE] at hown
  obtain ⟨g2, cap2, rfl, hg, hrow⟩ := rows_of_own hown hne
  have R3 := Lib.hid (R2.out.up hb)
  have S3 := Lib.hid (show Row3 w3 g2 (enhL n) from hrow)
  have B3 := Lib.hid (B2.out.up hb)
  clear hown hrow hb hg R2 B2 hEE
  generalize enhL n = L at *
  go_wp2_with fail
  go_loopg [6] L.length (fun gm i wr => ∃ k : Nat, k ≤ L.length ∧ gm = L.length - k ∧ i = .int .i64 (k : Int) ∧ Hid (Below w3.heap.size w3 wr))
  case atStart => exact ⟨0, by omega, by omega, rfl, Lib.hid (Below.refl _ _)⟩
  case round =>
    obtain ⟨k, hk, rfl, rfl, HS⟩ := hrel
    by_cases hlt : k < L.length
    · obtain ⟨q, hq⟩ : ∃ q, L[k]? = some q := ⟨_, List.getElem?_eq_getElem hlt⟩
      obtain ⟨q1, q2, q3⟩ := R3.out.up HS.out k q hq
      obtain ⟨p1, p2, p3⟩ := S3.out.up HS.out k q hq
      clear hq
      go_wp2_with fail
      go_quiet (fail)
      go_wp2_with fail
      go_roundg (L.length - (k + 1))
      case measure => omega
      case rel => exact ⟨k + 1, by omega, rfl, by go_num, Lib.hid (by first | exact HS.out | exact below_drewN HS.out _ | exact Below.drew HS.out)⟩
    · obtain rfl : k = L.length := by omega
      go_wp2_with fail
      go_ret
      exact ⟨rfl, B3.out.up HS.out⟩
theorem law_PitchEnharmonics (n : Int) (w : World) (ht : PW w) :
    Calls Tryd.prog 5 #[.int .i64 n] w fun e w' => e = .returned (.bool true) ∧ Below w.heap.size w w' := by
  rcases Int.lt_or_le n 0 with h | h
  · exact enhLaw_no n w (.inl h) ht
  · rcases Int.lt_or_le 127 n with h2 | h2
    · exact enhLaw_no n w (.inr h2) ht
    · exact enhLaw_yes n w h h2 ht
end Go.Proofs.YtolfgomlokpopaaDoor
