/- What Parse returns for any text. -/
import Derived.Test.YtknojlccfjdpeaaDoorTp
import Derived.Test.YtknojlccfjdpeaaDoorTn
import Derived.Test.YtknojlccfjdpeaaDoorRl
namespace Go.Proofs.YtknojlccfjdpeaaDoor
open Go.RowKit Go.Sort
set_option linter.unusedVariables false
set_option linter.unusedSimpArgs false

def prsV (q : Int × Int × Int × Int) : Value := .tuple #[.agg #[.int .i64 q.1, .int .i64 (q.2.1 - 1)], .int .i64 q.2.2.1, .int .i64 q.2.2.2]
theorem parse_end (s : ByteArray) (n d : Int) (w : World) (n0 : -9223372036854775808 ≤ n) (n1 : n ≤ 9223372036854775807) (d0 : -9223372036854775808 ≤ d) (d1 : d ≤ 9223372036854775807) (ht : Tab w)
    (h : ∀ w : World, Calls Tryd.prog 17 #[.string s] w fun e w' => e = .returned (.tuple #[.int .i64 n, .int .i64 d, .int .i64 0, .int .i64 0]) ∧ Below w.heap.size w w') :
    Calls Tryd.prog 7 #[.string s] w fun e w' => e = .returned (prsV (Rat1.endQ s.data.toList n d)) ∧ Below w.heap.size w w' := by
  unfold Rat1.endQ
  by_cases hE : Rat1.ofE n d = 0
  · by_cases hT : Rat1.textQ (Rat1.ofN n d) (Rat1.ofD n d) = s.data.toList
    · rw [if_pos ⟨hE, hT⟩]
      exact parse_same s n d w n0 n1 d0 d1 ht hE hT h
    · rw [if_neg (fun x => hT x.2)]
      exact parse_other s n d w n0 n1 d0 d1 ht hE hT h
  · rw [if_neg (fun x => hE x.1)]
    exact parse_bad s n d w n0 n1 d0 d1 hE h

theorem row_lt {l : List UInt8} {b : Nat} (h : Rat1.skipX l b = 0) : Rat1.val (Rat1.row l b) < 10000000000 := by
  have k := Rat1.skip_ok h
  exact Rat1.val_lt (Rat1.row_digit l b) 10 (by rw [Rat1.row_len]; omega)
theorem num1_bd {l : List UInt8} (h : Rat1.skipX l (Rat1.sg l) = 0) : -10000000000 < Rat1.num1 l ∧ Rat1.num1 l < 10000000000 := by
  have k := row_lt h
  unfold Rat1.num1
  by_cases hs : Rat1.sg l = 1
  · rw [if_pos hs]; rw [hs] at k; omega
  · have h0 : Rat1.sg l = 0 := by unfold Rat1.sg at hs ⊢; split at hs <;> simp_all
    rw [if_neg hs]; rw [h0] at k; omega
theorem sg_cases (l : List UInt8) : Lib.hasPrefix l [45] = true ∧ (Rat1.sg l : Int) = 1 ∨ Lib.hasPrefix l [45] = false ∧ (Rat1.sg l : Int) = 0 := by
  unfold Rat1.sg
  cases Lib.hasPrefix l [45] <;> simp
theorem extract_list (s : ByteArray) (a b : Nat) : (s.extract a b).data.toList = (s.data.toList.drop a).take (b - a) := by
  simp [ByteArray.data_extract, Array.toList_extract, List.extract_eq_take_drop]
theorem size_list (b : ByteArray) : b.size = b.data.toList.length := by
  rw [Array.length_toList]; rfl
theorem first_atoi {s : ByteArray} (h : Rat1.skipX s.data.toList (Rat1.sg s.data.toList) = 0) :
    Hid ((s.extract 0 (Rat1.skipE s.data.toList (Rat1.sg s.data.toList))).size ≤ 18 ∧ Lib.atoi (s.extract 0 (Rat1.skipE s.data.toList (Rat1.sg s.data.toList))).data.toList = some (Rat1.num1 s.data.toList)) := by
  have k := Rat1.skip_ok h
  have sl := sg_cases s.data.toList
  have e : (s.extract 0 (Rat1.skipE s.data.toList (Rat1.sg s.data.toList))).data.toList = s.data.toList.take (Rat1.skipE s.data.toList (Rat1.sg s.data.toList)) := by rw [extract_list]; simp
  refine ⟨?_, by rw [e]; exact Rat1.atoi_first h⟩
  rw [size_list, e, List.length_take]
  omega
theorem second_atoi {s : ByteArray} {b : Nat} (h : Rat1.skipX s.data.toList b = 0) (he : Rat1.skipE s.data.toList b = s.size) :
    Hid ((s.extract b s.size).size ≤ 18 ∧ Lib.atoi (s.extract b s.size).data.toList = some (Rat1.val (Rat1.row s.data.toList b) : Int)) := by
  have k := Rat1.skip_ok h
  have hl : s.data.toList.length = s.size := by simp
  have e : (s.extract b s.size).data.toList = Rat1.row s.data.toList b := by
    rw [extract_list]
    unfold Rat1.row
    congr 1
    omega
  refine ⟨?_, by rw [e]; exact Rat1.atoi_row h⟩
  rw [size_list, e, Rat1.row_len]
  omega
theorem skip_tuple {l : List UInt8} {b : Nat} (h : Rat1.skipX l b = 0) (c : Int) (hc : c.toNat = b) : Hid ((Ending.returned (.tuple #[.int .i64 (Rat1.skipE l c.toNat), .int .i64 (Rat1.skipA l c.toNat), .int .i64 (Rat1.skipX l c.toNat)])) = .returned (.tuple #[.int .i64 (Rat1.skipE l b), .int .i64 0, .int .i64 0])) := by
  unfold Hid
  rw [hc, h, (Rat1.skip_ok h).2.2.2]
  rfl
theorem parse_any (s : ByteArray) (w : World) (hs : s.size ≤ 1000) (ht : Tab w) :
    Calls Tryd.prog 7 #[.string s] w fun e w' => e = .returned (prsV (Rat1.parseQ s.data.toList)) ∧ Below w.heap.size w w' := by
  have hl : s.data.toList.length = s.size := by simp
  have hsg := Rat1.sg_le s.data.toList
  have hb := sg_cases s.data.toList
  unfold Rat1.parseQ
  by_cases h1 : Rat1.skipX s.data.toList (Rat1.sg s.data.toList) = 0
  · have k1 := Rat1.skip_ok h1
    have d1 := Rat1.digs_le (s.data.toList.drop (Rat1.sg s.data.toList))
    rw [List.length_drop] at d1
    have nb := num1_bd h1
    have T1 := skip_tuple h1 (Rat1.sg s.data.toList : Int) rfl
    rw [if_neg (by omega)]
    by_cases h2 : Rat1.skipE s.data.toList (Rat1.sg s.data.toList) = s.data.toList.length
    · rw [if_pos h2]
      exact parse_end s _ 1 w (by omega) (by omega) (by omega) (by omega) ht (fun w => split_whole s _ _ w hs rfl (by rcases hb with ⟨x, y⟩ | ⟨x, y⟩ <;> simp [x, y]) (by omega) _ _ (first_atoi h1) T1 (by omega))
    · rw [if_neg h2]
      have e1 : Rat1.skipE s.data.toList (Rat1.sg s.data.toList) < s.size := by omega
      have g1 : s.data.toList[Rat1.skipE s.data.toList (Rat1.sg s.data.toList)]? = some s[Rat1.skipE s.data.toList (Rat1.sg s.data.toList)] := by
        rw [List.getElem?_eq_getElem (by omega)]; rfl
      by_cases h3 : s[Rat1.skipE s.data.toList (Rat1.sg s.data.toList)].toNat = 47
      · have h3' : s[Rat1.skipE s.data.toList (Rat1.sg s.data.toList)] = 47 := UInt8.toNat_inj.1 h3
        rw [if_neg (by rw [g1, h3']; simp)]
        by_cases h4 : Rat1.skipX s.data.toList (Rat1.skipE s.data.toList (Rat1.sg s.data.toList) + 1) = 0
        · have T2 := skip_tuple h4 ((Rat1.skipE s.data.toList (Rat1.sg s.data.toList) : Int) + 1) (by omega)
          have k2 := Rat1.skip_ok h4
          have d2 := Rat1.digs_le (s.data.toList.drop (Rat1.skipE s.data.toList (Rat1.sg s.data.toList) + 1))
          rw [List.length_drop] at d2
          have rb := row_lt h4
          rw [if_neg (by omega)]
          by_cases h5 : Rat1.skipE s.data.toList (Rat1.skipE s.data.toList (Rat1.sg s.data.toList) + 1) < s.data.toList.length
          · rw [if_pos h5]
            exact parse_err s _ 6 w (by decide) (fun w => split_byte2 s _ _ w hs rfl (by rcases hb with ⟨x, y⟩ | ⟨x, y⟩ <;> simp [x, y]) (by omega) _ _ _ (first_atoi h1) T1 e1 h3 T2 (by omega))
          · rw [if_neg h5]
            exact parse_end s _ _ w (by omega) (by omega) (by omega) (by omega) ht (fun w => split_both s _ _ w hs rfl (by rcases hb with ⟨x, y⟩ | ⟨x, y⟩ <;> simp [x, y]) (by omega) _ _ _ (first_atoi h1) _ (second_atoi h4 (by omega)) T1 e1 h3 T2 (by omega))
        · rw [if_pos (by omega)]
          exact parse_err s _ _ w (by simp; omega) (fun w => split_err2 s _ _ w hs rfl (by rcases hb with ⟨x, y⟩ | ⟨x, y⟩ <;> simp [x, y]) (by omega) _ _ _ _ _ (first_atoi h1) T1 e1 h3 (by unfold Hid; rfl) (by simp; omega))
      · rw [if_pos (by rw [g1]; intro e; apply h3; rw [Option.some.inj e]; rfl)]
        exact parse_err s _ 6 w (by decide) (fun w => split_byte1 s _ _ w hs rfl (by rcases hb with ⟨x, y⟩ | ⟨x, y⟩ <;> simp [x, y]) (by omega) _ _ (first_atoi h1) T1 e1 (by simp; omega))
  · rw [if_pos (by omega)]
    exact parse_err s _ _ w (by simp; omega) (fun w => split_err1 s _ (Rat1.sg s.data.toList : Int) w hs rfl (by rcases hb with ⟨x, y⟩ | ⟨x, y⟩ <;> simp [x, y]) (by omega) _ _ _ (by unfold Hid; rfl) (by simp; omega))
end Go.Proofs.YtknojlccfjdpeaaDoor
