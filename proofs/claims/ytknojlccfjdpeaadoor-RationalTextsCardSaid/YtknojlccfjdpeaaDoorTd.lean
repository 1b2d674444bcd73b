/- The walks of the reference's texts. -/
import Derived.Test.YtknojlccfjdpeaaDoorTm
import Derived.Test.YtknojlccfjdpeaaDoorRp
import Derived.Laws.IdiomStrings
namespace Go.Proofs.YtknojlccfjdpeaaDoor
open Go.RowKit
set_option linter.unusedVariables false
set_option linter.unusedSimpArgs false

/-- the digits of a number, as a string -/
def digB (n : Int) : ByteArray := ⟨(Lib.decDigits n.toNat).toArray⟩
def lastB (n : Int) : ByteArray := ⟨[UInt8.ofNat (48 + (n % 10).toNat)].toArray⟩
theorem digB_small {n : Int} (n0 : 0 ≤ n) (h : n < 10) : digB n = lastB n := by
  unfold digB lastB
  rw [Lib.decDigits, dif_pos (by omega)]
  congr 5; omega
theorem digB_big {n : Int} (h : 9 < n) : digB n = digB (n / 10) ++ lastB n := by
  unfold digB lastB
  refine ByteArray.ext ?_
  rw [Lib.decDigits, dif_neg (by omega)]
  have e1 : n.toNat / 10 = (n / 10).toNat := by omega
  have e2 : n.toNat % 10 = (n % 10).toNat := by omega
  simp only [e1, e2]
  simp
theorem digB_size {n : Int} (h : n < 10000000000) : (digB n).size ≤ 10 := by
  have := Rat1.dec_len (u := n.toNat) (by omega)
  simpa [digB, ByteArray.size] using this
theorem lastB_size (n : Int) : (lastB n).size = 1 := rfl
theorem ret_b {a b : ByteArray} (h : b = a) : Ending.returned (.string a) = .returned (.string b) := by rw [h]
theorem conv_last (n : Int) (n0 : 0 ≤ n) (w : World) :
    (convert 71 9 (.slice (some ⟨w.heap.size, 0, none⟩) 1 1)).run Tryd.prog (w.alloc (.cells #[.int .u8 (48 + n % 10)] 5)) = .ok (.string (lastB n)) (w.alloc (.cells #[.int .u8 (48 + n % 10)] 5)) := by
  have h := run_convert_bytes_back (P := Tryd.prog) (w.alloc (.cells #[.int .u8 (48 + n % 10)] 5)) 71 9 5 ⟨w.heap.size, 0, none⟩ 1 [UInt8.ofNat (48 + (n % 10).toNat)] Tryd.underlying71 Tryd.underlying5 Tryd.underlying9 ?_
  · exact h
  · intro j hj
    obtain rfl : j = 0 := by simpa using hj
    have e : (((UInt8.ofNat (48 + (n % 10).toNat)).toNat : Nat) : Int) = 48 + n % 10 := by
      rw [Rat1.toNat_of (by omega)]; omega
    simp only [List.getElem_cons_zero, e]
    simp [Addr.add]

set_option maxRecDepth 100000 in
set_option maxHeartbeats 400000 in
theorem digits_one (n : Int) (w : World) (n0 : 0 ≤ n) (h : n < 10) :
    Calls Tryd.prog 25 #[.int .i64 n] w fun e w' => e = .returned (.string (digB n)) ∧ Below w.heap.size w w' := by
  have hk := conv_last n n0 w
  rw [digB_small n0 h]
  go_enter Tryd.func25, Tryd.ntmps25
  go_wp2_with fail
  go_ret
  exact ⟨rfl, (Below.refl _ _).alloc (Nat.le_refl _) _⟩
set_option maxRecDepth 100000 in
set_option maxHeartbeats 400000 in
theorem digits_any (k : Nat) : ∀ (n : Int) (w : World), 0 ≤ n → n < 10 ^ (k + 1) → n < 10000000000 →
    Calls Tryd.prog 25 #[.int .i64 n] w fun e w' => e = .returned (.string (digB n)) ∧ Below w.heap.size w w' := by
  induction k with
  | zero => intro n w n0 h _; exact digits_one n w n0 (by omega)
  | succ k ih =>
    intro n w n0 h hb
    by_cases hs : n < 10
    · exact digits_one n w n0 hs
    · have hk := conv_last n n0 w
      have e := Lib.hid (digB_big (n := n) (by omega))
      have l1 := digB_size (n := n / 10) (by omega)
      have l2 := lastB_size n
      have hq : n / 10 < 10 ^ (k + 1) := by
        rw [Int.pow_succ] at h
        omega
      go_enter Tryd.func25, Tryd.ntmps25
      go_wp2_with fail
      refine (ih (n / 10) _ (by omega) hq (by omega)).mono ?_
      rintro e w1 ⟨rfl, hb1⟩
      go_wp2_with fail
      go_ret
      exact ⟨ret_b e.out, ((Below.refl _ _).alloc (Nat.le_refl _) _).trans (hb1.mono (by simp))⟩
theorem digits_call (n : Int) (w : World) (n0 : 0 ≤ n) (h : n < 10000000000) :
    Calls Tryd.prog 25 #[.int .i64 n] w fun e w' => e = .returned (.string (digB n)) ∧ Below w.heap.size w w' :=
  digits_any 9 n w n0 h h

/-- the text of a fraction, as a string -/
def textB (a D : Int) : ByteArray := ⟨(Rat1.textQ a D).toArray⟩
def signB (a : Int) : ByteArray := if a < 0 then ⟨#[45]⟩ else ⟨#[]⟩
theorem itoaB (a : Int) : (⟨(Lib.itoa a).toArray⟩ : ByteArray) = signB a ++ digB (a.natAbs : Int) := by
  refine ByteArray.ext ?_
  unfold signB digB Lib.itoa
  by_cases h : a < 0
  · simp [h]
  · simp [h]
    congr 1; omega
theorem textB_int (a : Int) : textB a 1 = signB a ++ digB (a.natAbs : Int) := by
  rw [← itoaB]; simp [textB, Rat1.textQ]
theorem textB_frac (a D : Int) (h : D ≠ 1) (h0 : 0 ≤ D) : textB a D = signB a ++ digB (a.natAbs : Int) ++ ⟨#[47]⟩ ++ digB D := by
  rw [← itoaB]
  refine ByteArray.ext ?_
  unfold textB Rat1.textQ digB
  rw [if_neg h]
  have e : Lib.itoa D = Lib.decDigits D.toNat := by unfold Lib.itoa; rw [if_neg (by omega)]
  rw [e]
  simp
theorem nil_append (b : ByteArray) : (⟨#[]⟩ : ByteArray) ++ b = b := by
  refine ByteArray.ext ?_; simp
theorem signB_size (a : Int) : (signB a).size ≤ 1 := by unfold signB; split <;> simp [ByteArray.size]

set_option maxRecDepth 100000 in
set_option maxHeartbeats 1000000 in
theorem textR_any (a D : Int) (w : World) (h1 : Rat1.Low a D) :
    Calls Tryd.prog 10 #[.agg #[.int .i64 a, .int .i64 D]] w fun e w' => e = .returned (.string (textB a D)) ∧ Below w.heap.size w w' := by
  have p1 := h1.pos; have l1 := h1.le; have m1 := h1.num
  unfold Rat1.mx at l1 m1
  have s1 := digB_size (n := (a.natAbs : Int)) (by omega)
  have s2 := digB_size (n := D) (by omega)
  have E0 := Lib.hid (nil_append (digB (a.natAbs : Int)))
  by_cases ha : a < 0
  all_goals
    have e2 : Hid (signB a = if a < 0 then ⟨#[45]⟩ else ⟨#[]⟩) := rfl
    by_cases hD : D = 1
    · subst hD
      have e := Lib.hid (textB_int a)
      go_enter Tryd.func10, Tryd.ntmps10
      go_wp2_with (go_at_call 26; refine (magnitude_any a _ (by omega) (by omega)).mono ?_; rintro e w1 ⟨rfl, rfl⟩)
      refine (digits_call _ _ (by omega) (by omega)).mono ?_
      rintro e w2 ⟨rfl, hb⟩
      obtain ⟨hc, hf⟩ := bcell hb
      go_wp2_with fail
      go_ret
      refine ⟨ret_b ?_, ((Below.refl _ _).alloc (Nat.le_refl _) _).trans (hb.mono (by simp))⟩
      rw [e.out, e2.out]
      first | rw [if_pos (by omega)] | rw [if_neg (by omega)]
      done
    · have e := Lib.hid (textB_frac a D hD (by omega))
      have hD' : (D != 1) = true := by simpa using hD
      go_enter Tryd.func10, Tryd.ntmps10
      go_wp2_with (go_at_call 26; refine (magnitude_any a _ (by omega) (by omega)).mono ?_; rintro e w1 ⟨rfl, rfl⟩)
      refine (digits_call _ _ (by omega) (by omega)).mono ?_
      rintro e w2 ⟨rfl, hb⟩
      obtain ⟨hc, hf⟩ := bcell hb
      go_wp2_with fail
      refine (digits_call _ _ (by omega) (by omega)).mono ?_
      rintro e w3 ⟨rfl, hb3⟩
      go_wp2_with fail
      go_ret
      refine ⟨ret_b ?_, (((Below.refl _ _).alloc (Nat.le_refl _) _).trans (hb.mono (by simp))).trans (hb3.mono (by have := hb.size; simp at this; omega))⟩
      rw [e.out, e2.out]
      first | rw [if_pos (by omega)] | rw [if_neg (by omega)]
      done
end Go.Proofs.YtknojlccfjdpeaaDoor
