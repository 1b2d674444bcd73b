/- Tuplets: Sum. -/
import Derived.Test.YtidggmfgbcmklaaTq
namespace Go.Proofs.Ytidggmfgbcmklaa
open Go.RowKit
set_option linter.unusedVariables false
set_option linter.unusedSimpArgs false

def sumF (h : Nat → Int) : Nat → Int
  | 0 => 0
  | k + 1 => sumF h k + h k
theorem sumF_bd {h : Nat → Int} (c : Int) (hh : ∀ k, 0 ≤ h k ∧ h k ≤ c) : ∀ k : Nat, 0 ≤ sumF h k ∧ sumF h k ≤ c * (k : Int) := by
  intro k
  induction k with
  | zero => simp [sumF]
  | succ k ih =>
    have := hh k
    unfold sumF
    rw [show c * ((k + 1 : Nat) : Int) = c * (k : Int) + c by rw [Int.natCast_add, Int.mul_add]; simp]
    omega
set_option maxRecDepth 100000 in
set_option maxHeartbeats 8000000 in
theorem sum_n (f : Nat → Tp) (n cap : Nat) (ad : Option Addr) (g : Nat → Int) (m cap2 : Nat) (aw : Option Addr) (w : World) (h : TsAt w ad n f) (hw : IsAt w aw m g) (hm : m ≤ 1048576) (hE : lsE f n g m ≠ 0) :
    Calls Try.prog 26 #[.slice ad n cap, .slice aw m cap2] w fun e w' => e = .returned (.tuple #[.int .i64 0, .int .i64 (lsE f n g m)]) ∧ Below w.heap.size w w' := by
  have HL := Lib.hid (fun u h1 h2 => lengths_ok f n cap ad g m cap2 aw u h1 h2 hm)
  have HT := Lib.hid h
  have HW := Lib.hid hw
  have HN := Lib.hid hE
  have hbd := lsE_bd f n m g
  generalize lsE f n g m = E at *
  clear h hw hE
  go_enter Try.func26, Try.ntmps26
  go_wp2_with fail
  refine (HL.out _ HT.out HW.out).mono ?_
  rintro e w1 ⟨v, rfl, hb, hv⟩
  obtain rfl := hv.2 HN.out
  have B1 := Lib.hid (show Bel w w1 from hb)
  clear hb hv
  go_wp2_with fail
  go_loopg [19, 8] 0 (fun gm i t wr => i = .int .i64 0 ∧ t = .int .i64 0 ∧ Hid (Bel w wr))
  case atStart => exact ⟨rfl, rfl, B1⟩
  case round =>
    clear B1
    obtain ⟨rfl, rfl, HB⟩ := hrel
    go_wp2_with fail
    go_ret2
    exact ⟨rfl, HB.out.out⟩
set_option maxRecDepth 100000 in
set_option maxHeartbeats 8000000 in
theorem sum_y (f : Nat → Tp) (n cap : Nat) (ad : Option Addr) (g : Nat → Int) (m cap2 : Nat) (aw : Option Addr) (w : World) (h : TsAt w ad n f) (hw : IsAt w aw m g) (hm : m ≤ 1048576) (hE : lsE f n g m = 0) :
    Calls Try.prog 26 #[.slice ad n cap, .slice aw m cap2] w fun e w' => e = .returned (.tuple #[.int .i64 (sumF (lsV f n g) m), .int .i64 0]) ∧ Below w.heap.size w w' := by
  have HL := Lib.hid (fun u h1 h2 => lengths_ok f n cap ad g m cap2 aw u h1 h2 hm)
  have HT := Lib.hid h
  have HW := Lib.hid hw
  rw [hE] at HL
  have hc : chk f n m = 0 := by
    by_cases e : chk f n m = 0
    · exact e
    · rw [lsE_chk e] at hE; exact absurd hE e
  have hmm := (chk_zero hc).2.1
  have HV := Lib.hid (fun k => lsV_bd hc g k)
  have HS := Lib.hid (fun k => sumF_bd 253671505920 (fun k => HV.out k) k)
  clear h hw hE hc
  go_enter Try.func26, Try.ntmps26
  go_wp2_with fail
  refine (HL.out _ HT.out HW.out).mono ?_
  rintro e w1 ⟨v, rfl, hb, hv⟩
  obtain ⟨b, rfl, hbw, hF⟩ := hv.1 rfl
  have B1 := Lib.hid (show Bel w w1 from hb)
  have G1 := Lib.hid hF
  clear hb hv hF
  go_wp2_with fail
  go_loopg [19, 8] m (fun gm i t wr => ∃ k : Nat, k ≤ m ∧ gm = m - k ∧ i = .int .i64 (k : Int) ∧ t = .int .i64 (sumF (lsV f n g) k) ∧ Hid (Bel w wr) ∧ Hid (Fil wr b m (lsV f n g)))
  case atStart => exact ⟨0, by omega, by omega, rfl, rfl, B1, G1⟩
  case round =>
    clear B1 G1
    obtain ⟨k, hk, rfl, rfl, rfl, HB, HF⟩ := hrel
    by_cases hlt : k < m
    · obtain ⟨q0, _⟩ := HF.out k hlt
      have s1 := HS.out k
      have v1 := HV.out k
      have HQ := Lib.hid (show sumF (lsV f n g) (k + 1) = sumF (lsV f n g) k + lsV f n g k from rfl)
      generalize sumF (lsV f n g) k = S at *
      generalize lsV f n g k = V at *
      go_wp2_with fail
      go_roundg (m - (k + 1))
      case measure => omega
      case rel => exact ⟨k + 1, by omega, rfl, by go_num, by rw [HQ.out], HB, HF⟩
    · obtain rfl : k = m := by omega
      have s1 := HS.out k
      go_wp2_with fail
      go_ret2
      exact ⟨rfl, HB.out.out⟩
end Go.Proofs.Ytidggmfgbcmklaa
