/- Keys: the scale of the reference. -/
import Derived.Test.YthdkfeehabpikaaDoorMr
import Derived.Test.YthdkfeehabpikaaDoorKr
import Derived.Test.YthdkfeehabpikaaDoorKk
namespace Go.Proofs.YthdkfeehabpikaaDoor
open Go.RowKit
set_option linter.unusedVariables false
set_option linter.unusedSimpArgs false

def cells3 (l : List (Int × Int × Int)) : List Value := l.flatMap fun p => [.int .i64 p.1, .int .i64 p.2.1, .int .i64 p.2.2]
theorem cells3_snoc (l : List (Int × Int × Int)) (p : Int × Int × Int) : cells3 (l ++ [p]) = cells3 l ++ [.int .i64 p.1, .int .i64 p.2.1, .int .i64 p.2.2] := by simp [cells3]
theorem cell3_new (w : World) (x y z : Value) (t : TypeId) (n : Nat) (hn : n = w.heap.size) : ∀ (j : Nat) (u : Value), [x, y, z][j]? = some u → (w.alloc (.cells #[x, y, z] t)).cell? ((⟨n, 0, none⟩ : Addr).add j) = some u := by
  subst hn
  intro j u hj
  match j, hj with
  | 0, hj => simp at hj; subst hj; simp [Addr.add]
  | 1, hj => simp at hj; subst hj; simp [Addr.add]
  | 2, hj => simp at hj; subst hj; simp [Addr.add]
theorem own_mono {W : World} {base base' : Nat} {e : TypeId} {size : Nat} {v : Value} {k : Nat} {xs : List Value} (h : W.ownsRow base e size v k xs) (hb : base' ≤ base) : W.ownsRow base' e size v k xs := by
  refine ⟨h.1, ?_⟩
  rcases h.2 with h2 | ⟨g, cap, cur, hv, hg, r⟩
  · exact .inl h2
  · exact .inr ⟨g, cap, cur, hv, by omega, r⟩
theorem cells3_at (l : List (Int × Int × Int)) (k : Nat) (p : Int × Int × Int) (h : l[k]? = some p) : (cells3 l)[k * 3]? = some (.int .i64 p.1) ∧ (cells3 l)[k * 3 + 1]? = some (.int .i64 p.2.1) ∧ (cells3 l)[k * 3 + 2]? = some (.int .i64 p.2.2) := by
  induction l generalizing k with
  | nil => simp at h
  | cons q l ih =>
    have e : cells3 (q :: l) = .int .i64 q.1 :: .int .i64 q.2.1 :: .int .i64 q.2.2 :: cells3 l := by simp [cells3]
    rw [e]
    cases k with
    | zero => simp at h; subst h; simp
    | succ k =>
      have := ih k (by simpa using h)
      rw [show (k + 1) * 3 = k * 3 + 3 by omega]
      exact ⟨by simpa using this.1, by simpa using this.2.1, by simpa using this.2.2⟩
/-- the first k pitches of a scale -/
def scL (f T o : Int) (k : Nat) : List (Int × Int × Int) := (List.range k).map fun i : Nat => ((T + (i : Int)) % 7, alI f ((T + (i : Int)) % 7), o + (T + (i : Int)) / 7)
theorem scL_len (f T o : Int) (k : Nat) : (scL f T o k).length = k := by simp [scL]
theorem scL_snoc (f T o : Int) (k : Nat) : scL f T o (k + 1) = scL f T o k ++ [((T + (k : Int)) % 7, alI f ((T + (k : Int)) % 7), o + (T + (k : Int)) / 7)] := by simp [scL, List.range_succ]
theorem scL_at (f T o : Int) {k n : Nat} (h : k < n) : (scL f T o n)[k]? = some ((T + (k : Int)) % 7, alI f ((T + (k : Int)) % 7), o + (T + (k : Int)) / 7) := by simp [scL, h]
theorem infoR : (Tryd.prog.info? 32).map (fun i => (i.zero, i.size, i.bytes)) = some (some (.agg #[.int .i64 0, .int .i64 0, .int .i64 0]), 3, 24) := by kernel_rfl
/-- what the loop of the reference's Scale keeps -/
structure SK (w wr : World) (v : Value) (l : List (Int × Int × Int)) : Prop where
  bel : Bel w wr
  own : wr.ownsRow w.heap.size 32 3 v l.length (cells3 l)
theorem SK.up {w wr w' : World} {v : Value} {l : List (Int × Int × Int)} (h : SK w wr v l) (hb : Below wr.heap.size wr w') : SK w w' v l := ⟨h.bel.up hb, ownUp h.own hb⟩
set_option maxRecDepth 100000 in
set_option maxHeartbeats 4000000 in
theorem rsc_n (f T o : Int) (w : World) (h : Sg f) (hT : shI ((f + 1) % 7) = T) (ho : -1 ≤ o ∧ (o ≤ 8 ∨ o = 9 ∧ T ≤ 0)) :
    Calls Tryd.prog 10 #[.int .i64 f, .bool false, .int .i64 o] w fun e w' => ∃ v, e = .returned (.tuple #[v, .int .i64 0]) ∧ w'.ownsRow w.heap.size 32 3 v (scL f T o 7).length (cells3 (scL f T o 7)) ∧ Below w.heap.size w w' := by
  obtain ⟨i0, hi, hz0, hz1, hz2⟩ := info_parts infoR
  have HP := Lib.hid h
  have KT1 := fun v => refTonic_n f v HP.out
  obtain ⟨T0, T6⟩ := shI_bd ((f + 1) % 7)
  obtain ⟨D, hD⟩ : ∃ D, (f + 1) / 7 = D := ⟨_, rfl⟩
  simp only [hT, hD] at T0 T6 KT1
  clear hD h hT
  replace KT1 := Lib.hid KT1
  have HO := Lib.hid ho
  have B0 := Lib.hid (Bel.refl w)
  go_enter Tryd.func10, Tryd.ntmps10
  go_wp2_with fail
  refine (KT1.out _).mono ?_
  rintro e w1 ⟨rfl, hb⟩
  have HA := Lib.hid (show SK w w1 (.slice none 0 0) (scL f T o 0) from ⟨B0.out.up hb, World.ownsRow_nil _ _ _ _⟩)
  clear hb B0
  go_wp2_with fail
  go_loopg [2, 8, 10, 11] 7 (fun gm oc st out i wr => ∃ k : Nat, k ≤ 7 ∧ gm = 7 - k ∧ i = .int .i64 (k : Int) ∧ st = .int .i64 ((T + (k : Int)) % 7) ∧ oc = .int .i64 (o + (T + (k : Int)) / 7) ∧ Hid (SK w wr out (scL f T o k)))
  case atStart => exact ⟨0, by omega, by omega, rfl, by go_num, by go_num, HA⟩
  case round =>
    obtain ⟨k, hk, rfl, rfl, rfl, rfl, HS⟩ := hrel
    clear HA
    by_cases hlt : k < 7
    · have o1 : -1 ≤ o + (T + (k : Int)) / 7 := by omega
      have o2 : o + (T + (k : Int)) / 7 ≤ 9 := by omega
      go_wp2_with fail
      have hl := Lib.hid (show (scL f T o k).length ≤ 7 by rw [scL_len]; omega)
      have hw : w.heap.size ≤ wr.heap.size := HS.out.bel.size
      refine (refAlter_ok f ((T + (k : Int)) % 7) _ HP.out).mono ?_
      rintro e w2 ⟨rfl, hb⟩
      have HS2 := Lib.hid (HS.out.up hb)
      have hw2 : w.heap.size ≤ w2.heap.size := HS2.out.bel.size
      have HM := Lib.hid (scL_snoc f T o k)
      generalize alI f ((T + (k : Int)) % 7) = A at HM ⊢
      clear hb HS
      obtain ⟨Sx, hSx⟩ : ∃ x, (T + (k : Int)) % 7 = x := ⟨_, rfl⟩
      obtain ⟨Ox, hOx⟩ : ∃ x, o + (T + (k : Int)) / 7 = x := ⟨_, rfl⟩
      have hs0 : 0 ≤ Sx ∧ Sx ≤ 6 := by omega
      obtain ⟨hs0, hs6⟩ := hs0
      rw [hSx, hOx] at HM
      rw [hSx, hOx]
      rw [hOx] at o1 o2
      have HX := Lib.hid (show (T + ((k + 1 : Nat) : Int)) % 7 = (if Sx = 6 then 0 else Sx + 1) ∧ o + (T + ((k + 1 : Nat) : Int)) / 7 = (if Sx = 6 then Ox + 1 else Ox) by
        constructor
        · split <;> omega
        · split <;> omega)
      clear hSx hOx
      by_cases h6 : Sx = 6
      · subst h6
        go_wp2_with (first | (at_builtin; refine wpList_append_own _ rfl _ _ 28 rfl w.heap.size 32 i0 (.agg #[.int .i64 0, .int .i64 0, .int .i64 0]) 3 24 Tryd.underlying28 hi hz0 hz1 hz2 rfl (by decide) _ _ _ rfl (HS2.out.own.alloc _) ⟨w2.heap.size, 0, none⟩ 1 1 [.int .i64 (6), .int .i64 A, .int .i64 Ox] rfl rfl (cell3_new _ _ _ _ _ _ rfl) (by simp [Value.oneCell']) (by have := hl.out; unfold maxLen; omega) (by have := hl.out; omega) (by simp; omega) ?_; intro v' w9 hown' hgrow _))
        go_roundg (7 - (k + 1))
        case measure => omega
        case rel =>
          refine ⟨k + 1, by omega, rfl, by go_num, by rw [HX.out.1]; simp, by rw [HX.out.2]; simp, Lib.hid ⟨Below.grown (HS2.out.bel.alloc _) hgrow (by simp; omega) (fun r hr => (HS2.out.own.lt r hr).1), ?_⟩⟩
          rw [HM.out, List.length_append, cells3_snoc]
          exact hown'
      · have e6 : (Sx + 1 == 7) = false := by simp; omega
        go_wp2_with (first | (at_builtin; refine wpList_append_own _ rfl _ _ 28 rfl w.heap.size 32 i0 (.agg #[.int .i64 0, .int .i64 0, .int .i64 0]) 3 24 Tryd.underlying28 hi hz0 hz1 hz2 rfl (by decide) _ _ _ rfl (HS2.out.own.alloc _) ⟨w2.heap.size, 0, none⟩ 1 1 [.int .i64 (Sx), .int .i64 A, .int .i64 Ox] rfl rfl (cell3_new _ _ _ _ _ _ rfl) (by simp [Value.oneCell']) (by have := hl.out; unfold maxLen; omega) (by have := hl.out; omega) (by simp; omega) ?_; intro v' w9 hown' hgrow _))
        go_roundg (7 - (k + 1))
        case measure => omega
        case rel =>
          refine ⟨k + 1, by omega, rfl, by go_num, by rw [HX.out.1, if_neg h6], by rw [HX.out.2, if_neg h6], Lib.hid ⟨Below.grown (HS2.out.bel.alloc _) hgrow (by simp; omega) (fun r hr => (HS2.out.own.lt r hr).1), ?_⟩⟩
          rw [HM.out, List.length_append, cells3_snoc]
          exact hown'
    · obtain rfl : k = 7 := by omega
      go_wp2_with fail
      go_ret2
      exact ⟨_, rfl, HS.out.own, HS.out.bel.out⟩
set_option maxRecDepth 100000 in
set_option maxHeartbeats 4000000 in
theorem rsc_y (f T o : Int) (w : World) (h : Sg f) (hT : shI ((f + 3 + 1) % 7) = T) (ho : -1 ≤ o ∧ (o ≤ 8 ∨ o = 9 ∧ T ≤ 0)) :
    Calls Tryd.prog 10 #[.int .i64 f, .bool true, .int .i64 o] w fun e w' => ∃ v, e = .returned (.tuple #[v, .int .i64 0]) ∧ w'.ownsRow w.heap.size 32 3 v (scL f T o 7).length (cells3 (scL f T o 7)) ∧ Below w.heap.size w w' := by
  obtain ⟨i0, hi, hz0, hz1, hz2⟩ := info_parts infoR
  have HP := Lib.hid h
  have KT1 := fun v => refTonic_y f v HP.out
  obtain ⟨T0, T6⟩ := shI_bd ((f + 3 + 1) % 7)
  obtain ⟨D, hD⟩ : ∃ D, (f + 3 + 1) / 7 = D := ⟨_, rfl⟩
  simp only [hT, hD] at T0 T6 KT1
  clear hD h hT
  replace KT1 := Lib.hid KT1
  have HO := Lib.hid ho
  have B0 := Lib.hid (Bel.refl w)
  go_enter Tryd.func10, Tryd.ntmps10
  go_wp2_with fail
  refine (KT1.out _).mono ?_
  rintro e w1 ⟨rfl, hb⟩
  have HA := Lib.hid (show SK w w1 (.slice none 0 0) (scL f T o 0) from ⟨B0.out.up hb, World.ownsRow_nil _ _ _ _⟩)
  clear hb B0
  go_wp2_with fail
  go_loopg [2, 8, 10, 11] 7 (fun gm oc st out i wr => ∃ k : Nat, k ≤ 7 ∧ gm = 7 - k ∧ i = .int .i64 (k : Int) ∧ st = .int .i64 ((T + (k : Int)) % 7) ∧ oc = .int .i64 (o + (T + (k : Int)) / 7) ∧ Hid (SK w wr out (scL f T o k)))
  case atStart => exact ⟨0, by omega, by omega, rfl, by go_num, by go_num, HA⟩
  case round =>
    obtain ⟨k, hk, rfl, rfl, rfl, rfl, HS⟩ := hrel
    clear HA
    by_cases hlt : k < 7
    · have o1 : -1 ≤ o + (T + (k : Int)) / 7 := by omega
      have o2 : o + (T + (k : Int)) / 7 ≤ 9 := by omega
      go_wp2_with fail
      have hl := Lib.hid (show (scL f T o k).length ≤ 7 by rw [scL_len]; omega)
      have hw : w.heap.size ≤ wr.heap.size := HS.out.bel.size
      refine (refAlter_ok f ((T + (k : Int)) % 7) _ HP.out).mono ?_
      rintro e w2 ⟨rfl, hb⟩
      have HS2 := Lib.hid (HS.out.up hb)
      have hw2 : w.heap.size ≤ w2.heap.size := HS2.out.bel.size
      have HM := Lib.hid (scL_snoc f T o k)
      generalize alI f ((T + (k : Int)) % 7) = A at HM ⊢
      clear hb HS
      obtain ⟨Sx, hSx⟩ : ∃ x, (T + (k : Int)) % 7 = x := ⟨_, rfl⟩
      obtain ⟨Ox, hOx⟩ : ∃ x, o + (T + (k : Int)) / 7 = x := ⟨_, rfl⟩
      have hs0 : 0 ≤ Sx ∧ Sx ≤ 6 := by omega
      obtain ⟨hs0, hs6⟩ := hs0
      rw [hSx, hOx] at HM
      rw [hSx, hOx]
      rw [hOx] at o1 o2
      have HX := Lib.hid (show (T + ((k + 1 : Nat) : Int)) % 7 = (if Sx = 6 then 0 else Sx + 1) ∧ o + (T + ((k + 1 : Nat) : Int)) / 7 = (if Sx = 6 then Ox + 1 else Ox) by
        constructor
        · split <;> omega
        · split <;> omega)
      clear hSx hOx
      by_cases h6 : Sx = 6
      · subst h6
        go_wp2_with (first | (at_builtin; refine wpList_append_own _ rfl _ _ 28 rfl w.heap.size 32 i0 (.agg #[.int .i64 0, .int .i64 0, .int .i64 0]) 3 24 Tryd.underlying28 hi hz0 hz1 hz2 rfl (by decide) _ _ _ rfl (HS2.out.own.alloc _) ⟨w2.heap.size, 0, none⟩ 1 1 [.int .i64 (6), .int .i64 A, .int .i64 Ox] rfl rfl (cell3_new _ _ _ _ _ _ rfl) (by simp [Value.oneCell']) (by have := hl.out; unfold maxLen; omega) (by have := hl.out; omega) (by simp; omega) ?_; intro v' w9 hown' hgrow _))
        go_roundg (7 - (k + 1))
        case measure => omega
        case rel =>
          refine ⟨k + 1, by omega, rfl, by go_num, by rw [HX.out.1]; simp, by rw [HX.out.2]; simp, Lib.hid ⟨Below.grown (HS2.out.bel.alloc _) hgrow (by simp; omega) (fun r hr => (HS2.out.own.lt r hr).1), ?_⟩⟩
          rw [HM.out, List.length_append, cells3_snoc]
          exact hown'
      · have e6 : (Sx + 1 == 7) = false := by simp; omega
        go_wp2_with (first | (at_builtin; refine wpList_append_own _ rfl _ _ 28 rfl w.heap.size 32 i0 (.agg #[.int .i64 0, .int .i64 0, .int .i64 0]) 3 24 Tryd.underlying28 hi hz0 hz1 hz2 rfl (by decide) _ _ _ rfl (HS2.out.own.alloc _) ⟨w2.heap.size, 0, none⟩ 1 1 [.int .i64 (Sx), .int .i64 A, .int .i64 Ox] rfl rfl (cell3_new _ _ _ _ _ _ rfl) (by simp [Value.oneCell']) (by have := hl.out; unfold maxLen; omega) (by have := hl.out; omega) (by simp; omega) ?_; intro v' w9 hown' hgrow _))
        go_roundg (7 - (k + 1))
        case measure => omega
        case rel =>
          refine ⟨k + 1, by omega, rfl, by go_num, by rw [HX.out.1, if_neg h6], by rw [HX.out.2, if_neg h6], Lib.hid ⟨Below.grown (HS2.out.bel.alloc _) hgrow (by simp; omega) (fun r hr => (HS2.out.own.lt r hr).1), ?_⟩⟩
          rw [HM.out, List.length_append, cells3_snoc]
          exact hown'
    · obtain rfl : k = 7 := by omega
      go_wp2_with fail
      go_ret2
      exact ⟨_, rfl, HS.out.own, HS.out.bel.out⟩
set_option maxRecDepth 100000 in
set_option maxHeartbeats 4000000 in
theorem rscno_n (f T o : Int) (K : Nat) (w : World) (h : Sg f) (hT : shI ((f + 1) % 7) = T) (hK : K < 7) (hin : ∀ k : Nat, k < K → -1 ≤ o + (T + (k : Int)) / 7 ∧ o + (T + (k : Int)) / 7 ≤ 9) (hout : o + (T + (K : Int)) / 7 < -1 ∨ 9 < o + (T + (K : Int)) / 7) (b0 : -9223372036854775808 ≤ o) (b1 : o ≤ 9223372036854775807) :
    Calls Tryd.prog 10 #[.int .i64 f, .bool false, .int .i64 o] w fun e w' => e = .returned (.tuple #[.slice none 0 0, .int .i64 18]) ∧ Below w.heap.size w w' := by
  obtain ⟨i0, hi, hz0, hz1, hz2⟩ := info_parts infoR
  have HP := Lib.hid h
  have KT1 := fun v => refTonic_n f v HP.out
  obtain ⟨T0, T6⟩ := shI_bd ((f + 1) % 7)
  obtain ⟨D, hD⟩ : ∃ D, (f + 1) / 7 = D := ⟨_, rfl⟩
  simp only [hT, hD] at T0 T6 KT1
  clear hD h hT
  replace KT1 := Lib.hid KT1
  have HI := Lib.hid hin
  have HO := Lib.hid hout
  clear hin hout
  have B0 := Lib.hid (Bel.refl w)
  go_enter Tryd.func10, Tryd.ntmps10
  go_wp2_with fail
  refine (KT1.out _).mono ?_
  rintro e w1 ⟨rfl, hb⟩
  have HA := Lib.hid (show SK w w1 (.slice none 0 0) (scL f T o 0) from ⟨B0.out.up hb, World.ownsRow_nil _ _ _ _⟩)
  clear hb B0
  go_wp2_with fail
  go_loopg [2, 8, 10, 11] K (fun gm oc st out i wr => ∃ k : Nat, k ≤ K ∧ gm = K - k ∧ i = .int .i64 (k : Int) ∧ st = .int .i64 ((T + (k : Int)) % 7) ∧ oc = .int .i64 (o + (T + (k : Int)) / 7) ∧ Hid (SK w wr out (scL f T o k)))
  case atStart => exact ⟨0, by omega, by omega, rfl, by go_num, by go_num, HA⟩
  case round =>
    obtain ⟨k, hk, rfl, rfl, rfl, rfl, HS⟩ := hrel
    clear HA
    by_cases hlt : k < K
    · have o1 : -1 ≤ o + (T + (k : Int)) / 7 := (HI.out k hlt).1
      have o2 : o + (T + (k : Int)) / 7 ≤ 9 := (HI.out k hlt).2
      go_wp2_with fail
      have hl := Lib.hid (show (scL f T o k).length ≤ 7 by rw [scL_len]; omega)
      have hw : w.heap.size ≤ wr.heap.size := HS.out.bel.size
      refine (refAlter_ok f ((T + (k : Int)) % 7) _ HP.out).mono ?_
      rintro e w2 ⟨rfl, hb⟩
      have HS2 := Lib.hid (HS.out.up hb)
      have hw2 : w.heap.size ≤ w2.heap.size := HS2.out.bel.size
      have HM := Lib.hid (scL_snoc f T o k)
      generalize alI f ((T + (k : Int)) % 7) = A at HM ⊢
      clear hb HS
      obtain ⟨Sx, hSx⟩ : ∃ x, (T + (k : Int)) % 7 = x := ⟨_, rfl⟩
      obtain ⟨Ox, hOx⟩ : ∃ x, o + (T + (k : Int)) / 7 = x := ⟨_, rfl⟩
      have hs0 : 0 ≤ Sx ∧ Sx ≤ 6 := by omega
      obtain ⟨hs0, hs6⟩ := hs0
      rw [hSx, hOx] at HM
      rw [hSx, hOx]
      rw [hOx] at o1 o2
      have HX := Lib.hid (show (T + ((k + 1 : Nat) : Int)) % 7 = (if Sx = 6 then 0 else Sx + 1) ∧ o + (T + ((k + 1 : Nat) : Int)) / 7 = (if Sx = 6 then Ox + 1 else Ox) by
        constructor
        · split <;> omega
        · split <;> omega)
      clear hSx hOx
      by_cases h6 : Sx = 6
      · subst h6
        go_wp2_with (first | (at_builtin; refine wpList_append_own _ rfl _ _ 28 rfl w.heap.size 32 i0 (.agg #[.int .i64 0, .int .i64 0, .int .i64 0]) 3 24 Tryd.underlying28 hi hz0 hz1 hz2 rfl (by decide) _ _ _ rfl (HS2.out.own.alloc _) ⟨w2.heap.size, 0, none⟩ 1 1 [.int .i64 (6), .int .i64 A, .int .i64 Ox] rfl rfl (cell3_new _ _ _ _ _ _ rfl) (by simp [Value.oneCell']) (by have := hl.out; unfold maxLen; omega) (by have := hl.out; omega) (by simp; omega) ?_; intro v' w9 hown' hgrow _))
        go_roundg (K - (k + 1))
        case measure => omega
        case rel =>
          refine ⟨k + 1, by omega, rfl, by go_num, by rw [HX.out.1]; simp, by rw [HX.out.2]; simp, Lib.hid ⟨Below.grown (HS2.out.bel.alloc _) hgrow (by simp; omega) (fun r hr => (HS2.out.own.lt r hr).1), ?_⟩⟩
          rw [HM.out, List.length_append, cells3_snoc]
          exact hown'
      · have e6 : (Sx + 1 == 7) = false := by simp; omega
        go_wp2_with (first | (at_builtin; refine wpList_append_own _ rfl _ _ 28 rfl w.heap.size 32 i0 (.agg #[.int .i64 0, .int .i64 0, .int .i64 0]) 3 24 Tryd.underlying28 hi hz0 hz1 hz2 rfl (by decide) _ _ _ rfl (HS2.out.own.alloc _) ⟨w2.heap.size, 0, none⟩ 1 1 [.int .i64 (Sx), .int .i64 A, .int .i64 Ox] rfl rfl (cell3_new _ _ _ _ _ _ rfl) (by simp [Value.oneCell']) (by have := hl.out; unfold maxLen; omega) (by have := hl.out; omega) (by simp; omega) ?_; intro v' w9 hown' hgrow _))
        go_roundg (K - (k + 1))
        case measure => omega
        case rel =>
          refine ⟨k + 1, by omega, rfl, by go_num, by rw [HX.out.1, if_neg h6], by rw [HX.out.2, if_neg h6], Lib.hid ⟨Below.grown (HS2.out.bel.alloc _) hgrow (by simp; omega) (fun r hr => (HS2.out.own.lt r hr).1), ?_⟩⟩
          rw [HM.out, List.length_append, cells3_snoc]
          exact hown'
    · obtain rfl : k = K := by omega
      have hk7 : (k : Int) < 7 := by omega
      rcases HO.out with hx | hx
      all_goals
        generalize o + (T + (k : Int)) / 7 = Ox at *
        go_wp2_with fail
        go_ret2
        exact ⟨rfl, HS.out.bel.out⟩
set_option maxRecDepth 100000 in
set_option maxHeartbeats 4000000 in
theorem rscno_y (f T o : Int) (K : Nat) (w : World) (h : Sg f) (hT : shI ((f + 3 + 1) % 7) = T) (hK : K < 7) (hin : ∀ k : Nat, k < K → -1 ≤ o + (T + (k : Int)) / 7 ∧ o + (T + (k : Int)) / 7 ≤ 9) (hout : o + (T + (K : Int)) / 7 < -1 ∨ 9 < o + (T + (K : Int)) / 7) (b0 : -9223372036854775808 ≤ o) (b1 : o ≤ 9223372036854775807) :
    Calls Tryd.prog 10 #[.int .i64 f, .bool true, .int .i64 o] w fun e w' => e = .returned (.tuple #[.slice none 0 0, .int .i64 18]) ∧ Below w.heap.size w w' := by
  obtain ⟨i0, hi, hz0, hz1, hz2⟩ := info_parts infoR
  have HP := Lib.hid h
  have KT1 := fun v => refTonic_y f v HP.out
  obtain ⟨T0, T6⟩ := shI_bd ((f + 3 + 1) % 7)
  obtain ⟨D, hD⟩ : ∃ D, (f + 3 + 1) / 7 = D := ⟨_, rfl⟩
  simp only [hT, hD] at T0 T6 KT1
  clear hD h hT
  replace KT1 := Lib.hid KT1
  have HI := Lib.hid hin
  have HO := Lib.hid hout
  clear hin hout
  have B0 := Lib.hid (Bel.refl w)
  go_enter Tryd.func10, Tryd.ntmps10
  go_wp2_with fail
  refine (KT1.out _).mono ?_
  rintro e w1 ⟨rfl, hb⟩
  have HA := Lib.hid (show SK w w1 (.slice none 0 0) (scL f T o 0) from ⟨B0.out.up hb, World.ownsRow_nil _ _ _ _⟩)
  clear hb B0
  go_wp2_with fail
  go_loopg [2, 8, 10, 11] K (fun gm oc st out i wr => ∃ k : Nat, k ≤ K ∧ gm = K - k ∧ i = .int .i64 (k : Int) ∧ st = .int .i64 ((T + (k : Int)) % 7) ∧ oc = .int .i64 (o + (T + (k : Int)) / 7) ∧ Hid (SK w wr out (scL f T o k)))
  case atStart => exact ⟨0, by omega, by omega, rfl, by go_num, by go_num, HA⟩
  case round =>
    obtain ⟨k, hk, rfl, rfl, rfl, rfl, HS⟩ := hrel
    clear HA
    by_cases hlt : k < K
    · have o1 : -1 ≤ o + (T + (k : Int)) / 7 := (HI.out k hlt).1
      have o2 : o + (T + (k : Int)) / 7 ≤ 9 := (HI.out k hlt).2
      go_wp2_with fail
      have hl := Lib.hid (show (scL f T o k).length ≤ 7 by rw [scL_len]; omega)
      have hw : w.heap.size ≤ wr.heap.size := HS.out.bel.size
      refine (refAlter_ok f ((T + (k : Int)) % 7) _ HP.out).mono ?_
      rintro e w2 ⟨rfl, hb⟩
      have HS2 := Lib.hid (HS.out.up hb)
      have hw2 : w.heap.size ≤ w2.heap.size := HS2.out.bel.size
      have HM := Lib.hid (scL_snoc f T o k)
      generalize alI f ((T + (k : Int)) % 7) = A at HM ⊢
      clear hb HS
      obtain ⟨Sx, hSx⟩ : ∃ x, (T + (k : Int)) % 7 = x := ⟨_, rfl⟩
      obtain ⟨Ox, hOx⟩ : ∃ x, o + (T + (k : Int)) / 7 = x := ⟨_, rfl⟩
      have hs0 : 0 ≤ Sx ∧ Sx ≤ 6 := by omega
      obtain ⟨hs0, hs6⟩ := hs0
      rw [hSx, hOx] at HM
      rw [hSx, hOx]
      rw [hOx] at o1 o2
      have HX := Lib.hid (show (T + ((k + 1 : Nat) : Int)) % 7 = (if Sx = 6 then 0 else Sx + 1) ∧ o + (T + ((k + 1 : Nat) : Int)) / 7 = (if Sx = 6 then Ox + 1 else Ox) by
        constructor
        · split <;> omega
        · split <;> omega)
      clear hSx hOx
      by_cases h6 : Sx = 6
      · subst h6
        go_wp2_with (first | (at_builtin; refine wpList_append_own _ rfl _ _ 28 rfl w.heap.size 32 i0 (.agg #[.int .i64 0, .int .i64 0, .int .i64 0]) 3 24 Tryd.underlying28 hi hz0 hz1 hz2 rfl (by decide) _ _ _ rfl (HS2.out.own.alloc _) ⟨w2.heap.size, 0, none⟩ 1 1 [.int .i64 (6), .int .i64 A, .int .i64 Ox] rfl rfl (cell3_new _ _ _ _ _ _ rfl) (by simp [Value.oneCell']) (by have := hl.out; unfold maxLen; omega) (by have := hl.out; omega) (by simp; omega) ?_; intro v' w9 hown' hgrow _))
        go_roundg (K - (k + 1))
        case measure => omega
        case rel =>
          refine ⟨k + 1, by omega, rfl, by go_num, by rw [HX.out.1]; simp, by rw [HX.out.2]; simp, Lib.hid ⟨Below.grown (HS2.out.bel.alloc _) hgrow (by simp; omega) (fun r hr => (HS2.out.own.lt r hr).1), ?_⟩⟩
          rw [HM.out, List.length_append, cells3_snoc]
          exact hown'
      · have e6 : (Sx + 1 == 7) = false := by simp; omega
        go_wp2_with (first | (at_builtin; refine wpList_append_own _ rfl _ _ 28 rfl w.heap.size 32 i0 (.agg #[.int .i64 0, .int .i64 0, .int .i64 0]) 3 24 Tryd.underlying28 hi hz0 hz1 hz2 rfl (by decide) _ _ _ rfl (HS2.out.own.alloc _) ⟨w2.heap.size, 0, none⟩ 1 1 [.int .i64 (Sx), .int .i64 A, .int .i64 Ox] rfl rfl (cell3_new _ _ _ _ _ _ rfl) (by simp [Value.oneCell']) (by have := hl.out; unfold maxLen; omega) (by have := hl.out; omega) (by simp; omega) ?_; intro v' w9 hown' hgrow _))
        go_roundg (K - (k + 1))
        case measure => omega
        case rel =>
          refine ⟨k + 1, by omega, rfl, by go_num, by rw [HX.out.1, if_neg h6], by rw [HX.out.2, if_neg h6], Lib.hid ⟨Below.grown (HS2.out.bel.alloc _) hgrow (by simp; omega) (fun r hr => (HS2.out.own.lt r hr).1), ?_⟩⟩
          rw [HM.out, List.length_append, cells3_snoc]
          exact hown'
    · obtain rfl : k = K := by omega
      have hk7 : (k : Int) < 7 := by omega
      rcases HO.out with hx | hx
      all_goals
        generalize o + (T + (k : Int)) / 7 = Ox at *
        go_wp2_with fail
        go_ret2
        exact ⟨rfl, HS.out.bel.out⟩
end Go.Proofs.YthdkfeehabpikaaDoor
