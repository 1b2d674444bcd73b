/- Plain mathematics of the numbers in a text. -/
import Derived.Lib.Atoi
import Derived.Test.YtknojlccfjdpeaaDoorRm
namespace Go.Proofs.YtknojlccfjdpeaaDoor.Rat1
set_option linter.unusedSimpArgs false
def isD (c : UInt8) : Bool := 48 ≤ c && c ≤ 57
/-- how many digits a text begins with -/
def digs : List UInt8 → Nat
  | [] => 0
  | c :: l => if isD c then digs l + 1 else 0
theorem digs_le (l : List UInt8) : digs l ≤ l.length := by
  induction l with
  | nil => simp [digs]
  | cons c l ih => unfold digs; split <;> simp <;> omega
theorem digs_lt (l : List UInt8) : ∀ k : Nat, k < digs l → ∃ c, l[k]? = some c ∧ isD c = true := by
  induction l with
  | nil => intro k h; simp [digs] at h
  | cons x l ih =>
    intro k h
    by_cases hx : isD x = true
    · cases k with
      | zero => exact ⟨x, by simp, hx⟩
      | succ k =>
        obtain ⟨c, h1, h2⟩ := ih k (by simp [digs, hx] at h; omega)
        exact ⟨c, by simpa using h1, h2⟩
    · simp [digs, hx] at h
theorem digs_at (l : List UInt8) : ∀ c : UInt8, l[digs l]? = some c → isD c = false := by
  intro c h
  induction l with
  | nil => simp [digs] at h
  | cons x l ih =>
    by_cases hx : isD x = true
    · rw [show digs (x :: l) = digs l + 1 from by simp [digs, hx]] at h
      exact ih (by simpa using h)
    · rw [show digs (x :: l) = 0 from by simp [digs, hx]] at h
      simp at h
      subst h
      simpa using hx
/-- what skipNumber returns at b -/
def skipE (l : List UInt8) (b : Nat) : Nat := if 10 < digs (l.drop b) then 0 else if 0 < digs (l.drop b) then b + digs (l.drop b) else 0
def skipA (l : List UInt8) (b : Nat) : Nat := if 10 < digs (l.drop b) then b else if 0 < digs (l.drop b) then 0 else b
def skipX (l : List UInt8) (b : Nat) : Nat := if 10 < digs (l.drop b) then 5 else if 0 < digs (l.drop b) then 0 else if b = l.length then 4 else 6

/-- the value of a row of digits -/
def val (l : List UInt8) : Nat := l.foldl (fun n c => n * 10 + (c.toNat - 48)) 0
theorem decFrom_val : ∀ (l : List UInt8) (a : Nat), (∀ c ∈ l, isD c = true) → Lib.decFrom a l = some (l.foldl (fun n c => n * 10 + (c.toNat - 48)) a) := by
  intro l
  induction l with
  | nil => intro a _; simp [Lib.decFrom]
  | cons c l ih =>
    intro a h
    have hc : isD c = true := h c (by simp)
    simp only [isD, Bool.and_eq_true, decide_eq_true_eq, UInt8.le_iff_toNat_le] at hc
    have hd : Lib.digitVal c = some (c.toNat - 48) := by
      unfold Lib.digitVal
      simp [UInt8.le_iff_toNat_le]
      have h1 : (48 : UInt8).toNat = 48 := rfl
      have h2 : (57 : UInt8).toNat = 57 := rfl
      omega
    rw [Lib.decFrom, hd]
    simpa using ih _ (fun x hx => h x (by simp [hx]))
theorem decNat_val {l : List UInt8} (h0 : l ≠ []) (h : ∀ c ∈ l, isD c = true) : Lib.decNat l = some (val l) := by
  unfold Lib.decNat
  rw [if_neg (by simpa using h0)]
  exact decFrom_val l 0 h
theorem atoi_val {l : List UInt8} (h0 : l ≠ []) (h : ∀ c ∈ l, isD c = true) : Lib.atoi l = some (val l : Int) := by
  match l, h0 with
  | c :: r, h0 =>
    have hc : isD c = true := h c (by simp)
    have e1 : (c == 45) = false := by
      by_cases e : c = 45
      · subst e; simp [isD] at hc
      · simpa using e
    have e2 : (c == 43) = false := by
      by_cases e : c = 43
      · subst e; simp [isD] at hc
      · simpa using e
    simp [Lib.atoi, e1, e2, decNat_val h0 h]
theorem atoi_neg {l : List UInt8} (h0 : l ≠ []) (h : ∀ c ∈ l, isD c = true) : Lib.atoi (45 :: l) = some (-(val l : Int)) := by
  simp [Lib.atoi, decNat_val h0 h]
theorem digs_all {l : List UInt8} : ∀ c ∈ l.take (digs l), isD c = true := by
  induction l with
  | nil => simp [digs]
  | cons x l ih =>
    by_cases hx : isD x = true
    · simp only [digs, hx, if_true, List.take_succ_cons, List.mem_cons]
      rintro c (rfl | h)
      · exact hx
      · exact ih c h
    · simp [digs, hx]
end Go.Proofs.YtknojlccfjdpeaaDoor.Rat1
