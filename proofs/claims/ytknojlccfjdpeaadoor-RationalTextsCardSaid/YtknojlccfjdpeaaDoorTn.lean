/- The walk of the reference's reading of a number. -/
import Derived.Test.YtknojlccfjdpeaaDoorTd
namespace Go.Proofs.YtknojlccfjdpeaaDoor
open Go.RowKit
set_option linter.unusedVariables false
set_option linter.unusedSimpArgs false

theorem Rat1.val_lt {l : List UInt8} (h : ∀ c ∈ l, Rat1.isD c = true) : ∀ m, l.length ≤ m → Rat1.val l < 10 ^ m := by
  have key : ∀ (l : List UInt8) (a m k : Nat), (∀ c ∈ l, Rat1.isD c = true) → a < 10 ^ k → l.foldl (fun n c => n * 10 + (c.toNat - 48)) a < 10 ^ (k + l.length) := by
    intro l
    induction l with
    | nil => intro a m k _ h; simpa using h
    | cons c l ih =>
      intro a m k h ha
      rw [List.foldl_cons, List.length_cons, show k + (l.length + 1) = (k + 1) + l.length by omega]
      refine ih _ m _ (fun x hx => h x (by simp [hx])) ?_
      have hc : Rat1.isD c = true := h c (by simp)
      simp only [Rat1.isD, Bool.and_eq_true, decide_eq_true_eq, UInt8.le_iff_toNat_le] at hc
      have h2 : (57 : UInt8).toNat = 57 := rfl
      rw [Nat.pow_succ]
      omega
  intro m hm
  have := key l 0 m 0 h (by omega)
  rw [Nat.zero_add] at this
  exact Nat.lt_of_lt_of_le this (Nat.pow_le_pow_right (by omega) hm)

/-- the value of the first k digits at b, of ten at most -/
def valK (l : List UInt8) (b k : Nat) : Nat := Rat1.val ((l.drop b).take (min k 10))
theorem valK_next {l : List UInt8} {b k : Nat} {c : UInt8} (hk : k < 10) (hc : (l.drop b)[k]? = some c) : valK l b (k + 1) = valK l b k * 10 + (c.toNat - 48) := by
  unfold valK
  rw [show min (k + 1) 10 = k + 1 by omega, show min k 10 = k by omega]
  have hlt : k < (l.drop b).length := by
    rcases Nat.lt_or_ge k (l.drop b).length with h | h
    · exact h
    · rw [List.getElem?_eq_none h] at hc; cases hc
  rw [List.take_succ_eq_append_getElem hlt]
  have : (l.drop b)[k] = c := by rw [List.getElem?_eq_getElem hlt] at hc; exact Option.some.inj hc
  rw [this, Rat1.val_snoc]
theorem valK_same {l : List UInt8} {b k : Nat} (hk : ¬ k < 10) : valK l b (k + 1) = valK l b k := by
  unfold valK
  rw [show min (k + 1) 10 = 10 by omega, show min k 10 = 10 by omega]
theorem valK_lt {l : List UInt8} {b k : Nat} (hk : k ≤ Rat1.digs (l.drop b)) : valK l b k < 10000000000 := by
  unfold valK
  refine Rat1.val_lt (m := 10) ?_ (by rw [List.length_take]; omega)
  intro c hc
  refine Rat1.digs_all (l := l.drop b) c ?_
  have : min k 10 ≤ Rat1.digs (l.drop b) := by omega
  exact (List.take_subset_take_left _ this) hc
theorem valK_lt' {l : List UInt8} {b k : Nat} (hk : k ≤ Rat1.digs (l.drop b)) (h : k < 10) : valK l b k < 1000000000 := by
  unfold valK
  refine Rat1.val_lt (m := 9) ?_ (by rw [List.length_take]; omega)
  intro c hc
  refine Rat1.digs_all (l := l.drop b) c ?_
  have : min k 10 ≤ Rat1.digs (l.drop b) := by omega
  exact (List.take_subset_take_left _ this) hc
theorem valK_row {l : List UInt8} {b : Nat} (h : Rat1.digs (l.drop b) ≤ 10) : valK l b (Rat1.digs (l.drop b)) = Rat1.val (Rat1.row l b) := by
  unfold valK Rat1.row
  rw [show min (Rat1.digs (l.drop b)) 10 = Rat1.digs (l.drop b) by omega]

def numN (l : List UInt8) (b : Nat) : Nat := if Rat1.skipX l b = 0 then Rat1.val (Rat1.row l b) else 0
def numE (l : List UInt8) (b : Nat) : Nat := if Rat1.skipX l b = 0 then Rat1.skipE l b else b
theorem ret4 {a b c d x y z t : Int} (h1 : a = x) (h2 : b = y) (h3 : c = z) (h4 : d = t) : Ending.returned (.tuple #[.int .i64 a, .int .i64 b, .int .i64 c, .int .i64 d]) = .returned (.tuple #[.int .i64 x, .int .i64 y, .int .i64 z, .int .i64 t]) := by
  rw [h1, h2, h3, h4]

theorem num_len {l : List UInt8} {b : Nat} (h : b = l.length) : numN l b = 0 ∧ numE l b = b ∧ Rat1.skipX l b = 4 ∧ Rat1.skipA l b = b := by
  have hd : Rat1.digs (l.drop b) = 0 := by
    have := Rat1.digs_le (l.drop b)
    rw [List.length_drop] at this; omega
  have hx : Rat1.skipX l b = 4 := by unfold Rat1.skipX; rw [hd, if_neg (by omega), if_neg (by omega), if_pos h]
  refine ⟨by unfold numN; rw [hx]; rfl, by unfold numE; rw [hx]; rfl, hx, by unfold Rat1.skipA; rw [hd, if_neg (by omega), if_neg (by omega)]⟩
theorem num_none {l : List UInt8} {b : Nat} (h : b ≠ l.length) (hd : Rat1.digs (l.drop b) = 0) : numN l b = 0 ∧ numE l b = b ∧ Rat1.skipX l b = 6 ∧ Rat1.skipA l b = b := by
  have hx : Rat1.skipX l b = 6 := by unfold Rat1.skipX; rw [hd, if_neg (by omega), if_neg (by omega), if_neg h]
  refine ⟨by unfold numN; rw [hx]; rfl, by unfold numE; rw [hx]; rfl, hx, by unfold Rat1.skipA; rw [hd, if_neg (by omega), if_neg (by omega)]⟩
theorem num_long {l : List UInt8} {b : Nat} (hd : 10 < Rat1.digs (l.drop b)) : numN l b = 0 ∧ numE l b = b ∧ Rat1.skipX l b = 5 ∧ Rat1.skipA l b = b := by
  have hx : Rat1.skipX l b = 5 := by unfold Rat1.skipX; rw [if_pos hd]
  refine ⟨by unfold numN; rw [hx]; rfl, by unfold numE; rw [hx]; rfl, hx, by unfold Rat1.skipA; rw [if_pos hd]⟩
theorem num_ok {l : List UInt8} {b : Nat} (h0 : 0 < Rat1.digs (l.drop b)) (hd : Rat1.digs (l.drop b) ≤ 10) : numN l b = valK l b (Rat1.digs (l.drop b)) ∧ numE l b = b + Rat1.digs (l.drop b) ∧ Rat1.skipX l b = 0 ∧ Rat1.skipA l b = 0 := by
  have hx : Rat1.skipX l b = 0 := by unfold Rat1.skipX; rw [if_neg (by omega), if_pos h0]
  refine ⟨by unfold numN; rw [hx, valK_row hd]; rfl, by unfold numE Rat1.skipE; rw [hx, if_neg (by omega : ¬ 10 < _), if_pos h0]; rfl, hx, by unfold Rat1.skipA; rw [if_neg (by omega), if_pos h0]⟩

set_option maxRecDepth 100000 in
set_option maxHeartbeats 1000000 in
theorem number_any (s : ByteArray) (b : Nat) (w : World) (hb : b ≤ s.size) (hs : s.size ≤ 1000000) :
    Calls Tryd.prog 27 #[.string s, .int .i64 b] w fun e w' => e = .returned (.tuple #[.int .i64 (numN s.data.toList b), .int .i64 (numE s.data.toList b), .int .i64 (Rat1.skipX s.data.toList b), .int .i64 (Rat1.skipA s.data.toList b)]) ∧ w = w' := by
  have hlen : s.data.toList.length = s.size := by simp
  by_cases hbs : b = s.size
  · have F := Lib.hid (num_len (l := s.data.toList) (b := b) (by omega))
    have hbs' : ((b : Int) == (s.size : Int)) = true := by simp; omega
    clear hlen hbs
    go_enter Tryd.func27, Tryd.ntmps27
    go_wp2
    refine bodyPost_ret (v := .tuple #[.int .i64 0, .int .i64 b, .int .i64 4, .int .i64 b]) (by simp [results, Tryd.results27, go_sem]) rfl ⟨?_, rfl⟩
    obtain ⟨f1, f2, f3, f4⟩ := F.out
    exact ret4 (by rw [f1]; rfl) (by rw [f2]) (by rw [f3]; rfl) (by rw [f4])
  · have hd := Rat1.digs_le (s.data.toList.drop b)
    simp only [List.length_drop] at hd
    rw [hlen] at hd
    have hlt := Lib.hid (Rat1.digs_lt (s.data.toList.drop b))
    have hat := Lib.hid (Rat1.digs_at (s.data.toList.drop b))
    have F1 : Hid (Rat1.digs (s.data.toList.drop b) = 0 → numN s.data.toList b = 0 ∧ numE s.data.toList b = b ∧ Rat1.skipX s.data.toList b = 6 ∧ Rat1.skipA s.data.toList b = b) := fun h => num_none (by omega) h
    have F2 : Hid (10 < Rat1.digs (s.data.toList.drop b) → _) := fun h => num_long h
    have F3 : Hid (0 < Rat1.digs (s.data.toList.drop b) → Rat1.digs (s.data.toList.drop b) ≤ 10 → _) := fun h h' => num_ok h h'
    have HV : Hid (∀ k, k ≤ Rat1.digs (s.data.toList.drop b) → valK s.data.toList b k < 10000000000) := fun k hk => valK_lt hk
    have HV' : Hid (∀ k, k ≤ Rat1.digs (s.data.toList.drop b) → k < 10 → valK s.data.toList b k < 1000000000) := fun k hk => valK_lt' hk
    have hbs' : ((b : Int) == (s.size : Int)) = false := by simp; omega
    clear hlen hbs
    generalize Rat1.digs (s.data.toList.drop b) = D at *
    go_enter Tryd.func27, Tryd.ntmps27
    go_wp2_with fail
    go_loop [8, 9] (fun e n => ∃ k : Nat, k ≤ D ∧ e = .int .i64 (b + k : Nat) ∧ n = .int .i64 (valK s.data.toList b k)) (fun e _ => s.size - (intOf e).toNat)
    case atStart => exact ⟨0, by omega, rfl, by simp [valK, Rat1.val]⟩
    case round =>
      obtain ⟨k, hk, rfl, rfl⟩ := hrel
      have hv := HV.out k hk
      by_cases hkd : k < D
      · have h1 : b + k < s.size := by omega
        obtain ⟨c, c1, c2⟩ := hlt.out k hkd
        have hc : s[b + k] = c := by rw [drop_get s b k h1] at c1; exact Option.some.inj c1
        have cc := c2
        simp only [Rat1.isD, Bool.and_eq_true, decide_eq_true_eq, UInt8.le_iff_toNat_le] at cc
        have t1 : (48 : UInt8).toNat = 48 := rfl
        have t2 : (57 : UInt8).toNat = 57 := rfl
        have g1 : (48 : Int) ≤ (s[b + k].toNat : Int) := by rw [hc]; omega
        have g2 : (s[b + k].toNat : Int) ≤ 57 := by rw [hc]; omega
        by_cases hk10 : k < 10
        · have hv' := HV'.out k hk hk10
          have HN := Lib.hid (valK_next (l := s.data.toList) (b := b) hk10 c1)
          have HC := Lib.hid hc
          clear c1 c2 cc t1 t2 hc
          go_wp2_with fail
          go_round
          case rel => exact ⟨k + 1, by omega, by go_num, by rw [HN.out, ← HC.out]; congr 1; omega⟩
          case measure => simp [intOf]; omega
        · have HN := Lib.hid (valK_same (l := s.data.toList) (b := b) hk10)
          clear c1 c2 cc t1 t2 hc
          go_wp2_with fail
          go_round
          case rel => exact ⟨k + 1, by omega, by go_num, by rw [HN.out]⟩
          case measure => simp [intOf]; omega
      · obtain rfl : k = D := by omega
        clear hkd hk hlt
        by_cases h1 : b + k < s.size
        · have hdig : Rat1.isD s[b + k] = false := hat.out _ (drop_get s b k h1)
          have hr : (s[b + k].toNat : Int) < 48 ∨ (57 : Int) < (s[b + k].toNat : Int) := by
            have t1 : (48 : UInt8).toNat = 48 := rfl
            have t2 : (57 : UInt8).toNat = 57 := rfl
            simp only [Rat1.isD, Bool.and_eq_false_iff, decide_eq_false_iff_not, UInt8.le_iff_toNat_le] at hdig
            omega
          clear hdig hat
          rcases hr with hr | hr
          all_goals
            by_cases h2 : 10 < k
            · obtain ⟨f1, f2, f3, f4⟩ := F2.out h2
              have f := Lib.hid (And.intro f1 (And.intro f2 (And.intro f3 f4)))
              clear f1 f2 f3 f4
              go_wp2_with fail
              refine bodyPost_ret (v := .tuple #[.int .i64 0, .int .i64 b, .int .i64 5, .int .i64 b]) (by simp [results, Tryd.results27, go_sem]) rfl ⟨?_, rfl⟩
              obtain ⟨f1, f2, f3, f4⟩ := f.out
              exact ret4 (by rw [f1]; rfl) (by rw [f2]) (by rw [f3]; rfl) (by rw [f4])
            · by_cases h3 : 0 < k
              · obtain ⟨f1, f2, f3, f4⟩ := F3.out h3 (by omega)
                have f := Lib.hid (And.intro f1 (And.intro f2 (And.intro f3 f4)))
                clear f1 f2 f3 f4
                go_wp2_with fail
                refine bodyPost_ret (v := .tuple #[.int .i64 (valK s.data.toList b k), .int .i64 ((b : Int) + (k : Int)), .int .i64 0, .int .i64 0]) (by simp [results, Tryd.results27, go_sem]) rfl ⟨?_, rfl⟩
                obtain ⟨f1, f2, f3, f4⟩ := f.out
                exact ret4 (by rw [f1]) (by rw [f2]; simp) (by rw [f3]; rfl) (by rw [f4]; rfl)
              · obtain rfl : k = 0 := by omega
                simp only [Nat.add_zero] at hr h1
                have f := Lib.hid (F1.out rfl)
                go_wp2_with fail
                refine bodyPost_ret (v := .tuple #[.int .i64 0, .int .i64 b, .int .i64 6, .int .i64 b]) (by simp [results, Tryd.results27, go_sem]) rfl ⟨?_, rfl⟩
                obtain ⟨f1, f2, f3, f4⟩ := f.out
                exact ret4 (by rw [f1]; rfl) (by rw [f2]) (by rw [f3]; rfl) (by rw [f4])
        · have hk0 : 0 < k := by
            have : b ≠ s.size := by intro e; rw [e] at hbs'; simp at hbs'
            omega
          by_cases h2 : 10 < k
          · have f := Lib.hid (F2.out h2)
            go_wp2_with fail
            refine bodyPost_ret (v := .tuple #[.int .i64 0, .int .i64 b, .int .i64 5, .int .i64 b]) (by simp [results, Tryd.results27, go_sem]) rfl ⟨?_, rfl⟩
            obtain ⟨f1, f2, f3, f4⟩ := f.out
            exact ret4 (by rw [f1]; rfl) (by rw [f2]) (by rw [f3]; rfl) (by rw [f4])
          · have f := Lib.hid (F3.out hk0 (by omega))
            go_wp2_with fail
            refine bodyPost_ret (v := .tuple #[.int .i64 (valK s.data.toList b k), .int .i64 ((b : Int) + (k : Int)), .int .i64 0, .int .i64 0]) (by simp [results, Tryd.results27, go_sem]) rfl ⟨?_, rfl⟩
            obtain ⟨f1, f2, f3, f4⟩ := f.out
            exact ret4 (by rw [f1]) (by rw [f2]; simp) (by rw [f3]; rfl) (by rw [f4]; rfl)
end Go.Proofs.YtknojlccfjdpeaaDoor
