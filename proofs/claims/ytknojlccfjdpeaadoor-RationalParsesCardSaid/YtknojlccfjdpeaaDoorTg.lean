/- What the reference's Parse returns for any text. -/
import Derived.Test.YtknojlccfjdpeaaDoorTe
import Derived.Test.YtknojlccfjdpeaaDoorTf
namespace Go.Proofs.YtknojlccfjdpeaaDoor
open Go.RowKit Go.Sort
set_option linter.unusedVariables false
set_option linter.unusedSimpArgs false

def refV (q : Int × Int × Int × Int) : Value := .tuple #[.agg #[.int .i64 q.1, .int .i64 q.2.1], .int .i64 q.2.2.1, .int .i64 q.2.2.2]
def sgnI (l : List UInt8) : Int := if Lib.hasPrefix l [45] then -1 else 1
theorem sign_cases (s : ByteArray) : ((Rat1.sg s.data.toList : Int) = 1 ∧ sgnI s.data.toList = -1 ∧ ∃ h : 0 < s.size, s[0].toNat = 45) ∨ ((Rat1.sg s.data.toList : Int) = 0 ∧ sgnI s.data.toList = 1 ∧ ∀ h : 0 < s.size, s[0].toNat ≠ 45) := by
  have hl : s.data.toList.length = s.size := by simp
  unfold Rat1.sg sgnI
  cases hp : Lib.hasPrefix s.data.toList [45] with
  | true =>
    left
    obtain ⟨t, ht⟩ := Rat1.sg_one hp
    have h0 : 0 < s.size := by rw [← hl, ht]; simp
    refine ⟨rfl, rfl, h0, ?_⟩
    have : s.data.toList[0]? = some s[0] := by rw [List.getElem?_eq_getElem (by omega)]; rfl
    rw [ht] at this
    simp at this
    rw [← this]; rfl
  | false =>
    right
    refine ⟨rfl, rfl, fun h0 e => ?_⟩
    have h1 : s.data.toList[0]? = some s[0] := by rw [List.getElem?_eq_getElem (by omega)]; rfl
    have h2 : s[0] = 45 := UInt8.toNat_inj.1 e
    match hl2 : s.data.toList with
    | [] => rw [hl2] at h1; simp at h1
    | c :: t =>
      rw [hl2] at h1 hp
      simp at h1
      rw [h1, h2] at hp
      simp [Lib.hasPrefix, List.isPrefixOf] at hp
theorem sgn_num {l : List UInt8} : sgnI l * (Rat1.val (Rat1.row l (Rat1.sg l)) : Int) = Rat1.num1 l := by
  unfold sgnI Rat1.num1 Rat1.sg
  cases Lib.hasPrefix l [45] <;> simp
theorem num_err_call (s : ByteArray) (b : Nat) (hb : b ≤ s.size) (hs : s.size ≤ 1000) (w : World) :
    Calls Tryd.prog 27 #[.string s, .int .i64 (b : Int)] w fun e w' => e = .returned (.tuple #[.int .i64 (numN s.data.toList b : Int), .int .i64 (numE s.data.toList b : Int), .int .i64 (Rat1.skipX s.data.toList b : Int), .int .i64 (Rat1.skipA s.data.toList b : Int)]) ∧ w = w' :=
  number_any s b w hb (by omega)
theorem num_ok_call (s : ByteArray) (b : Nat) (c : Int) (hc : c = b) (hb : b ≤ s.size) (hs : s.size ≤ 1000) (hX : Rat1.skipX s.data.toList b = 0) (w : World) :
    Calls Tryd.prog 27 #[.string s, .int .i64 c] w fun e w' => e = .returned (.tuple #[.int .i64 (Rat1.val (Rat1.row s.data.toList b) : Int), .int .i64 (Rat1.skipE s.data.toList b : Int), .int .i64 0, .int .i64 0]) ∧ w = w' := by
  subst hc
  have h := number_any s b w hb (by omega)
  unfold numN numE at h
  rw [if_pos hX, if_pos hX, hX, (Rat1.skip_ok hX).2.2.2] at h
  exact h
theorem refEnd (s : ByteArray) (n d : Int) (w : World) {K : Prop}
    (h1 : (Rat1.ofE n d != 0) = true → Calls Tryd.prog 11 #[.string s] w fun e w' => e = .returned (refV (0, 1, 0, 3)) ∧ Below w.heap.size w w')
    (h2 : (Rat1.ofE n d != 0) = false → ((textB (Rat1.ofN n d) (Rat1.ofD n d)).toList == s.toList) = false → Calls Tryd.prog 11 #[.string s] w fun e w' => e = .returned (refV (0, 1, 0, 3)) ∧ Below w.heap.size w w')
    (h3 : (Rat1.ofE n d != 0) = false → ((textB (Rat1.ofN n d) (Rat1.ofD n d)).toList == s.toList) = true → Calls Tryd.prog 11 #[.string s] w fun e w' => e = .returned (refV (Rat1.ofN n d, Rat1.ofD n d, 0, 0)) ∧ Below w.heap.size w w') :
    Calls Tryd.prog 11 #[.string s] w fun e w' => e = .returned (refV (Rat1.endQ s.data.toList n d)) ∧ Below w.heap.size w w' := by
  unfold Rat1.endQ
  by_cases hE : Rat1.ofE n d = 0
  · have hE' : (Rat1.ofE n d != 0) = false := by simpa using hE
    by_cases hT : Rat1.textQ (Rat1.ofN n d) (Rat1.ofD n d) = s.data.toList
    · rw [if_pos ⟨hE, hT⟩]
      exact h3 hE' (text_beq_eq hT)
    · rw [if_neg (fun x => hT x.2)]
      exact h2 hE' (text_beq_ne hT)
  · rw [if_neg (fun x => hE x.1)]
    exact h1 (by simpa using hE)

theorem refParse_any (s : ByteArray) (w : World) (hs : s.size ≤ 1000) :
    Calls Tryd.prog 11 #[.string s] w fun e w' => e = .returned (refV (Rat1.parseQ s.data.toList)) ∧ Below w.heap.size w w' := by
  have hl : s.data.toList.length = s.size := by simp
  have hsg := Rat1.sg_le s.data.toList
  have hb := sign_cases s
  unfold Rat1.parseQ
  by_cases h1 : Rat1.skipX s.data.toList (Rat1.sg s.data.toList) = 0
  · have k1 := Rat1.skip_ok h1
    have d1 := Rat1.digs_le (s.data.toList.drop (Rat1.sg s.data.toList))
    rw [List.length_drop] at d1
    have nb := num1_bd h1
    have r1 := row_lt h1
    have C1 := num_ok_call s _ (Rat1.sg s.data.toList : Int) rfl (by omega) hs h1
    rw [if_neg (by omega)]
    by_cases h2 : Rat1.skipE s.data.toList (Rat1.sg s.data.toList) = s.data.toList.length
    · rw [if_pos h2]
      refine refEnd (K := True) s _ 1 w (fun hE => ?_) (fun hE hT => ?_) (fun hE hT => ?_)
      · exact refp_whole_bad s _ _ _ (Rat1.skipE s.data.toList (Rat1.sg s.data.toList)) _ w hs hb (by omega) (by omega) sgn_num (by omega) (by omega) (by simp; omega) C1 hE
      · exact refp_whole_other s _ _ _ (Rat1.skipE s.data.toList (Rat1.sg s.data.toList)) _ w hs hb (by omega) (by omega) sgn_num (by omega) (by omega) (by simp; omega) C1 hE hT
      · exact refp_whole_same s _ _ _ (Rat1.skipE s.data.toList (Rat1.sg s.data.toList)) _ w hs hb (by omega) (by omega) sgn_num (by omega) (by omega) (by simp; omega) C1 hE hT
    · rw [if_neg h2]
      have e1 : Rat1.skipE s.data.toList (Rat1.sg s.data.toList) < s.size := by omega
      have g1 : s.data.toList[Rat1.skipE s.data.toList (Rat1.sg s.data.toList)]? = some s[Rat1.skipE s.data.toList (Rat1.sg s.data.toList)] := by
        rw [List.getElem?_eq_getElem (by omega)]; rfl
      by_cases h3 : s[Rat1.skipE s.data.toList (Rat1.sg s.data.toList)].toNat = 47
      · have h3' : s[Rat1.skipE s.data.toList (Rat1.sg s.data.toList)] = 47 := UInt8.toNat_inj.1 h3
        have c3 : ((s[Rat1.skipE s.data.toList (Rat1.sg s.data.toList)].toNat : Int) == 47) = true := by rw [h3]; rfl
        rw [if_neg (by rw [g1, h3']; simp)]
        by_cases h4 : Rat1.skipX s.data.toList (Rat1.skipE s.data.toList (Rat1.sg s.data.toList) + 1) = 0
        · have k2 := Rat1.skip_ok h4
          have d2 := Rat1.digs_le (s.data.toList.drop (Rat1.skipE s.data.toList (Rat1.sg s.data.toList) + 1))
          rw [List.length_drop] at d2
          have rb := row_lt h4
          have C2 := num_ok_call s _ ((Rat1.skipE s.data.toList (Rat1.sg s.data.toList) : Int) + 1) (by omega) (by omega) hs h4
          rw [if_neg (by omega)]
          by_cases h5 : Rat1.skipE s.data.toList (Rat1.skipE s.data.toList (Rat1.sg s.data.toList) + 1) < s.data.toList.length
          · rw [if_pos h5]
            exact refp_byte2 s _ _ _ _ _ _ w hs hb (by omega) (by omega) e1 c3 C1 (by omega) C2
          · rw [if_neg h5]
            refine refEnd (K := True) s _ _ w (fun hE => ?_) (fun hE hT => ?_) (fun hE hT => ?_)
            · exact refp_both_bad s _ _ _ _ _ (Rat1.skipE s.data.toList (Rat1.skipE s.data.toList (Rat1.sg s.data.toList) + 1)) _ w hs hb (by omega) (by omega) sgn_num (by omega) (by omega) (by omega) (by omega) e1 c3 C1 (by simp; omega) C2 hE
            · exact refp_both_other s _ _ _ _ _ (Rat1.skipE s.data.toList (Rat1.skipE s.data.toList (Rat1.sg s.data.toList) + 1)) _ w hs hb (by omega) (by omega) sgn_num (by omega) (by omega) (by omega) (by omega) e1 c3 C1 (by simp; omega) C2 hE hT
            · exact refp_both_same s _ _ _ _ _ (Rat1.skipE s.data.toList (Rat1.skipE s.data.toList (Rat1.sg s.data.toList) + 1)) _ w hs hb (by omega) (by omega) sgn_num (by omega) (by omega) (by omega) (by omega) e1 c3 C1 (by simp; omega) C2 hE hT
        · rw [if_pos (by omega)]
          have C2 : ∀ w : World, Calls Tryd.prog 27 #[.string s, .int .i64 ((Rat1.skipE s.data.toList (Rat1.sg s.data.toList) : Int) + 1)] w _ := fun w => num_err_call s (Rat1.skipE s.data.toList (Rat1.sg s.data.toList) + 1) (by omega) hs w
          exact refp_err2 s _ _ _ _ _ _ _ _ w hs hb (by omega) (by omega) e1 c3 C1 (by simp; omega) C2
      · rw [if_pos (by rw [g1]; intro e; apply h3; rw [Option.some.inj e]; rfl)]
        exact refp_byte1 s _ _ _ _ w hs hb (by omega) (by omega) e1 (byte_no h3) C1
  · rw [if_pos (by omega)]
    exact refp_err1 s (Rat1.sg s.data.toList : Int) _ _ _ _ _ w hs hb (by simp; omega) (fun w => num_err_call s _ (by omega) hs w)
end Go.Proofs.YtknojlccfjdpeaaDoor
