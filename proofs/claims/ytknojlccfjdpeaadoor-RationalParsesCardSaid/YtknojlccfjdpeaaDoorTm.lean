/- Plain mathematics of the texts of fractions. -/
import Derived.Lib.ItoaMem
import Derived.Lib.Strings
import Derived.Test.YtknojlccfjdpeaaDoorPm
namespace Go.Proofs.YtknojlccfjdpeaaDoor.Rat1
set_option linter.unusedSimpArgs false

theorem isD_of {k : Nat} (h : k < 10) : isD (UInt8.ofNat (48 + k)) = true := by
  have : k = 0 ∨ k = 1 ∨ k = 2 ∨ k = 3 ∨ k = 4 ∨ k = 5 ∨ k = 6 ∨ k = 7 ∨ k = 8 ∨ k = 9 := by omega
  rcases this with rfl | rfl | rfl | rfl | rfl | rfl | rfl | rfl | rfl | rfl <;> decide
theorem toNat_of {k : Nat} (h : k < 10) : (UInt8.ofNat (48 + k)).toNat = 48 + k := by
  rw [UInt8.toNat_ofNat']; omega
theorem dec_digit (u : Nat) : ∀ c ∈ Lib.decDigits u, isD c = true := by
  induction u using Nat.strongRecOn with
  | _ u ih =>
    rw [Lib.decDigits]
    split
    · rename_i h; intro c hc; rw [List.mem_singleton] at hc; subst hc; exact isD_of h
    · rename_i h
      intro c hc
      rcases List.mem_append.1 hc with hc | hc
      · exact ih _ (by omega) c hc
      · rw [List.mem_singleton] at hc; subst hc; exact isD_of (by omega)
theorem dec_ne (u : Nat) : Lib.decDigits u ≠ [] := by
  rw [Lib.decDigits]; split <;> simp
theorem val_snoc (l : List UInt8) (c : UInt8) : val (l ++ [c]) = val l * 10 + (c.toNat - 48) := by
  unfold val; rw [List.foldl_append]; rfl
theorem val_dec (u : Nat) : val (Lib.decDigits u) = u := by
  induction u using Nat.strongRecOn with
  | _ u ih =>
    rw [Lib.decDigits]
    split
    · rename_i h
      rw [show [UInt8.ofNat (48 + u)] = [] ++ [UInt8.ofNat (48 + u)] from rfl, val_snoc, toNat_of h]
      simp [val]
    · rename_i h
      rw [val_snoc, ih _ (by omega), toNat_of (by omega)]
      omega
theorem dec_len {u : Nat} (h : u < 10000000000) : (Lib.decDigits u).length ≤ 10 := by
  have key : ∀ (k u : Nat), u < 10 ^ (k + 1) → (Lib.decDigits u).length ≤ k + 1 := by
    intro k
    induction k with
    | zero => intro u h; rw [Lib.decDigits, dif_pos (by omega)]; simp
    | succ k ih =>
      intro u h
      rw [Lib.decDigits]
      split
      · simp
      · have := ih (u / 10) (by rw [Nat.pow_succ] at h; omega)
        simp; omega
  exact key 9 u h
theorem digs_append {l r : List UInt8} (h : ∀ c ∈ l, isD c = true) (hr : ∀ c, r.head? = some c → isD c = false) : digs (l ++ r) = l.length := by
  induction l with
  | nil =>
    cases r with
    | nil => rfl
    | cons c r => simp [digs, hr c rfl]
  | cons c l ih =>
    have := ih (fun x hx => h x (by simp [hx]))
    simp [digs, h c (by simp), this]
theorem digs_self {l : List UInt8} (h : ∀ c ∈ l, isD c = true) : digs l = l.length := by
  have := digs_append (r := []) h (by simp)
  simpa using this

/-- the text of a fraction -/
def textQ (a D : Int) : List UInt8 := if D = 1 then Lib.itoa a else Lib.itoa a ++ 47 :: Lib.itoa D
/-- where the first number of a text begins -/
def sg (l : List UInt8) : Nat := if Lib.hasPrefix l [45] then 1 else 0
theorem sg_one {l : List UInt8} (h : Lib.hasPrefix l [45] = true) : ∃ t, l = 45 :: t := by
  unfold Lib.hasPrefix at h
  match l, h with
  | c :: t, h =>
    simp [List.isPrefixOf] at h
    exact ⟨t, by rw [h]⟩
theorem sg_le (l : List UInt8) : sg l ≤ l.length := by
  unfold sg
  split
  · rename_i h; obtain ⟨t, rfl⟩ := sg_one h; simp
  · omega
/-- the row of digits at an offset -/
def row (l : List UInt8) (b : Nat) : List UInt8 := (l.drop b).take (digs (l.drop b))
/-- the first number -/
def num1 (l : List UInt8) : Int := if sg l = 1 then -(val (row l 1) : Int) else (val (row l 0) : Int)
/-- what is returned where the numbers of a text are known -/
def endQ (l : List UInt8) (n d : Int) : Int × Int × Int × Int :=
  if ofE n d = 0 ∧ textQ (ofN n d) (ofD n d) = l then (ofN n d, ofD n d, 0, 0) else (0, 1, 0, 3)
/-- what is read: numerator, denominator, offset, error -/
def parseQ (l : List UInt8) : Int × Int × Int × Int :=
  if skipX l (sg l) ≠ 0 then (0, 1, skipA l (sg l), skipX l (sg l)) else
  if skipE l (sg l) = l.length then endQ l (num1 l) 1 else
  if l[skipE l (sg l)]? ≠ some 47 then (0, 1, skipE l (sg l), 6) else
  if skipX l (skipE l (sg l) + 1) ≠ 0 then (0, 1, skipA l (skipE l (sg l) + 1), skipX l (skipE l (sg l) + 1)) else
  if skipE l (skipE l (sg l) + 1) < l.length then (0, 1, skipE l (skipE l (sg l) + 1), 6) else
  endQ l (num1 l) (val (row l (skipE l (sg l) + 1)))

theorem endQ_cases (l : List UInt8) (n d : Int) : (ofE n d = 0 ∧ endQ l n d = (ofN n d, ofD n d, 0, 0)) ∨ endQ l n d = (0, 1, 0, 3) := by
  unfold endQ
  split
  · rename_i h; exact .inl ⟨h.1, rfl⟩
  · exact .inr rfl
theorem parseQ_cases (l : List UInt8) : (∃ n d, ofE n d = 0 ∧ parseQ l = (ofN n d, ofD n d, 0, 0)) ∨ ∃ A X, X ≠ 0 ∧ parseQ l = (0, 1, A, X) := by
  have he : ∀ n d, endQ l n d = parseQ l → (∃ n d, ofE n d = 0 ∧ parseQ l = (ofN n d, ofD n d, 0, 0)) ∨ ∃ A X, X ≠ 0 ∧ parseQ l = (0, 1, A, X) := by
    intro n d h
    rcases endQ_cases l n d with ⟨h1, h2⟩ | h2
    · exact .inl ⟨n, d, h1, h ▸ h2⟩
    · exact .inr ⟨0, 3, by omega, h ▸ h2⟩
  by_cases h1 : skipX l (sg l) ≠ 0
  · exact .inr ⟨skipA l (sg l), skipX l (sg l), by omega, by unfold parseQ; rw [if_pos h1]⟩
  · by_cases h2 : skipE l (sg l) = l.length
    · exact he (num1 l) 1 (by unfold parseQ; rw [if_neg h1, if_pos h2])
    · by_cases h3 : l[skipE l (sg l)]? ≠ some 47
      · exact .inr ⟨_, 6, by omega, by unfold parseQ; rw [if_neg h1, if_neg h2, if_pos h3]⟩
      · by_cases h4 : skipX l (skipE l (sg l) + 1) ≠ 0
        · exact .inr ⟨skipA l (skipE l (sg l) + 1), skipX l (skipE l (sg l) + 1), by omega, by unfold parseQ; rw [if_neg h1, if_neg h2, if_neg h3, if_pos h4]⟩
        · by_cases h5 : skipE l (skipE l (sg l) + 1) < l.length
          · exact .inr ⟨_, 6, by omega, by unfold parseQ; rw [if_neg h1, if_neg h2, if_neg h3, if_neg h4, if_pos h5]⟩
          · exact he (num1 l) (val (row l (skipE l (sg l) + 1))) (by unfold parseQ; rw [if_neg h1, if_neg h2, if_neg h3, if_neg h4, if_neg h5])

/-- a number that is skipped -/
theorem skip_ok {l : List UInt8} {b : Nat} (h : skipX l b = 0) : 0 < digs (l.drop b) ∧ digs (l.drop b) ≤ 10 ∧ skipE l b = b + digs (l.drop b) ∧ skipA l b = 0 := by
  unfold skipX at h
  unfold skipE skipA
  by_cases h1 : 10 < digs (l.drop b)
  · rw [if_pos h1] at h; omega
  · rw [if_neg h1] at h
    by_cases h2 : 0 < digs (l.drop b)
    · rw [if_neg h1, if_pos h2, if_neg h1, if_pos h2]; omega
    · rw [if_neg h2] at h; split at h <;> omega
theorem row_len (l : List UInt8) (b : Nat) : (row l b).length = digs (l.drop b) := by
  unfold row
  have := digs_le (l.drop b)
  rw [List.length_take]; omega
theorem row_digit (l : List UInt8) (b : Nat) : ∀ c ∈ row l b, isD c = true := digs_all
theorem atoi_row {l : List UInt8} {b : Nat} (h : skipX l b = 0) : Lib.atoi (row l b) = some (val (row l b) : Int) := by
  have := (skip_ok h).1
  refine atoi_val ?_ (row_digit l b)
  intro e
  have := row_len l b
  rw [e] at this
  simp at this; omega
theorem atoi_first {l : List UInt8} (h : skipX l (sg l) = 0) : Lib.atoi (l.take (skipE l (sg l))) = some (num1 l) := by
  have h1 := skip_ok h
  rw [h1.2.2.1]
  by_cases hp : Lib.hasPrefix l [45] = true
  · have hs : sg l = 1 := by unfold sg; rw [if_pos hp]
    unfold num1
    rw [if_pos hs]
    rw [hs] at h1 ⊢
    obtain ⟨t, rfl⟩ := sg_one hp
    have e : (45 :: t).take (1 + digs ((45 :: t).drop 1)) = 45 :: row (45 :: t) 1 := by
      rw [Nat.add_comm]; rfl
    rw [e]
    refine atoi_neg ?_ (row_digit _ _)
    intro e
    have := row_len (45 :: t) 1
    rw [e] at this
    simp at this
    have := h1.1
    simp at this
    omega
  · have hs : sg l = 0 := by unfold sg; rw [if_neg hp]
    unfold num1
    rw [if_neg (by omega)]
    rw [hs] at h h1 ⊢
    have e : l.take (0 + digs (l.drop 0)) = row l 0 := by simp [row]
    rw [e]
    exact atoi_row h

theorem isD_45 : isD 45 = false := by decide
theorem isD_47 : isD 47 = false := by decide
theorem skip_dec {p r : List UInt8} {u : Nat} (hu : u < 10000000000) (hr : ∀ c, r.head? = some c → isD c = false) :
    skipX (p ++ (Lib.decDigits u ++ r)) p.length = 0 ∧ skipE (p ++ (Lib.decDigits u ++ r)) p.length = p.length + (Lib.decDigits u).length ∧ row (p ++ (Lib.decDigits u ++ r)) p.length = Lib.decDigits u := by
  have hd : digs ((p ++ (Lib.decDigits u ++ r)).drop p.length) = (Lib.decDigits u).length := by
    rw [List.drop_left]; exact digs_append (dec_digit u) hr
  have h0 : 0 < (Lib.decDigits u).length := List.length_pos_iff.2 (dec_ne u)
  have h1 := dec_len hu
  refine ⟨?_, ?_, ?_⟩
  · unfold skipX; rw [hd, if_neg (by omega), if_pos h0]
  · unfold skipE; rw [hd, if_neg (by omega), if_pos h0]
  · unfold row; rw [hd, List.drop_left, List.take_left]
theorem sg_dec {u : Nat} {r : List UInt8} : Lib.hasPrefix (Lib.decDigits u ++ r) [45] = false := by
  cases h : Lib.hasPrefix (Lib.decDigits u ++ r) [45] with
  | false => rfl
  | true =>
    exfalso
    obtain ⟨t, ht⟩ := sg_one h
    match hd : Lib.decDigits u, dec_ne u with
    | c :: l, _ =>
      rw [hd] at ht
      simp at ht
      have := dec_digit u c (by rw [hd]; simp)
      rw [ht.1, isD_45] at this
      cases this
/-- the sign and the digits of a number, with what comes behind -/
theorem first_num {a : Int} {r : List UInt8} (ha : a.natAbs < 10000000000) (hr : ∀ c, r.head? = some c → isD c = false) :
    skipX (Lib.itoa a ++ r) (sg (Lib.itoa a ++ r)) = 0 ∧ skipE (Lib.itoa a ++ r) (sg (Lib.itoa a ++ r)) = (Lib.itoa a).length ∧ num1 (Lib.itoa a ++ r) = a := by
  by_cases h : a < 0
  · obtain ⟨u, rfl⟩ : ∃ u : Nat, a = -(u : Int) := ⟨a.natAbs, by omega⟩
    rw [Lib.itoa_neg u (by omega)]
    have hs : sg (45 :: Lib.decDigits u ++ r) = 1 := by simp [sg, Lib.hasPrefix, List.isPrefixOf]
    have := skip_dec (p := [45]) (u := u) (r := r) (by omega) hr
    simp only [List.length_cons, List.length_nil, Nat.zero_add, List.cons_append, List.nil_append] at this
    obtain ⟨k1, k2, k3⟩ := this
    rw [hs]
    refine ⟨k1, by simp only [List.cons_append]; rw [k2]; simp; omega, ?_⟩
    unfold num1
    rw [if_pos hs]
    simp only [List.cons_append]
    rw [k3, val_dec]
  · obtain ⟨u, rfl⟩ : ∃ u : Nat, a = (u : Int) := ⟨a.toNat, by omega⟩
    rw [Lib.itoa_nonneg u]
    have hs : sg (Lib.decDigits u ++ r) = 0 := by unfold sg; rw [sg_dec]; rfl
    have := skip_dec (p := []) (u := u) (r := r) (by omega) hr
    simp only [List.length_nil, Nat.zero_add, List.nil_append] at this
    obtain ⟨k1, k2, k3⟩ := this
    rw [hs]
    refine ⟨k1, k2, ?_⟩
    unfold num1
    rw [if_neg (by omega), k3, val_dec]

theorem ofQ_low_self {a D : Int} (h : Low a D) : ofN a D = a ∧ ofD a D = D ∧ ofE a D = 0 := by
  have p := h.pos
  have e := ofQ_eq h (show D ≠ 0 by omega) rfl
  unfold ofN ofD ofE
  rw [e]
  exact ⟨rfl, rfl, rfl⟩
/-- Reading leads back. -/
theorem parseQ_text {a D : Int} (h : Low a D) : parseQ (textQ a D) = (a, D, 0, 0) := by
  have p := h.pos; have l := h.le; have m := h.num
  unfold mx at l m
  obtain ⟨o1, o2, o3⟩ := ofQ_low_self h
  have he : endQ (textQ a D) a D = (a, D, 0, 0) := by
    unfold endQ
    rw [o1, o2, o3, if_pos ⟨rfl, rfl⟩]
  by_cases hD : D = 1
  · subst hD
    have e : textQ a 1 = Lib.itoa a ++ [] := by simp [textQ]
    obtain ⟨k1, k2, k3⟩ := first_num (a := a) (r := []) (by omega) (by simp)
    rw [← e] at k1 k2 k3
    unfold parseQ
    rw [if_neg (by omega), if_pos (by rw [k2]; simp [textQ]), k3]
    exact he
  · have e : textQ a D = Lib.itoa a ++ 47 :: Lib.itoa D := by unfold textQ; rw [if_neg hD]
    obtain ⟨k1, k2, k3⟩ := first_num (a := a) (r := 47 :: Lib.itoa D) (by omega) (by simp [isD_47])
    obtain ⟨u, rfl⟩ : ∃ u : Nat, D = (u : Int) := ⟨D.toNat, by omega⟩
    have k4 := skip_dec (p := Lib.itoa a ++ [47]) (u := u) (r := []) (by omega) (by simp)
    have e2 : Lib.itoa a ++ [47] ++ (Lib.decDigits u ++ []) = textQ a u := by rw [e, Lib.itoa_nonneg]; simp
    rw [e2] at k4
    rw [← e] at k1 k2 k3
    simp only [List.length_append, List.length_cons, List.length_nil, Nat.zero_add] at k4
    obtain ⟨k5, k6, k7⟩ := k4
    have len : (textQ a u).length = (Lib.itoa a).length + 1 + (Lib.decDigits u).length := by
      rw [← e2]; simp; omega
    have at47 : (textQ a u)[(Lib.itoa a).length]? = some 47 := by
      rw [e, List.getElem?_append_right (Nat.le_refl _)]; simp
    unfold parseQ
    rw [if_neg (by omega), k2, if_neg (by omega), at47, if_neg (by simp), if_neg (by omega), if_neg (by omega), k3, k7, val_dec]
    exact he
end Go.Proofs.YtknojlccfjdpeaaDoor.Rat1
