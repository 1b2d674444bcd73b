/- The names of pitches: they are read in one way only. -/
import Derived.Test.YtolfgomlokpopaaDoorPk
namespace Go.Proofs.YtolfgomlokpopaaDoor
open Go.RowKit
set_option linter.unusedVariables false
set_option linter.unusedSimpArgs false

theorem signAt_inj {j k : Nat} (hj : j < 5) (hk : k < 5) (h : signAt j = signAt k) : j = k := by
  have H : ∀ x y : Fin 5, (signAt x.val).data.toList = (signAt y.val).data.toList → x = y := by decide
  have := H ⟨j, hj⟩ ⟨k, hk⟩ (by rw [h])
  exact Fin.mk.inj_iff.1 this
theorem octL_inj {o p : Int} (o0 : -1 ≤ o) (o1 : o ≤ 9) (p0 : -1 ≤ p) (p1 : p ≤ 9) (h : octL o = octL p) : o = p := by
  have H : ∀ x y : Fin 11, octL ((x.val : Int) - 1) = octL ((y.val : Int) - 1) → x = y := by decide
  have e1 : ((((o + 1).toNat : Nat) : Int)) - 1 = o := by omega
  have e2 : ((((p + 1).toNat : Nat) : Int)) - 1 = p := by omega
  have := H ⟨(o + 1).toNat, by omega⟩ ⟨(p + 1).toNat, by omega⟩ (by show octL ((((o + 1).toNat : Nat) : Int) - 1) = octL ((((p + 1).toNat : Nat) : Int) - 1); rw [e1, e2]; exact h)
  have := Fin.mk.inj_iff.1 this
  omega
theorem name_unique {s : ByteArray} (h : 0 < s.size) {a o b u : Int} (a0 : -2 ≤ a) (a1 : a ≤ 2) (o0 : -1 ≤ o) (o1 : o ≤ 9) (b0 : -2 ≤ b) (b1 : b ≤ 2) (u0 : -1 ≤ u) (u1 : u ≤ 9)
    (h1 : s.data.toList.drop 1 = signL a ++ Lib.itoa o) (h2 : s.data.toList.drop 1 = signL b ++ Lib.itoa u) : a = b ∧ o = u := by
  obtain ⟨x1, x2⟩ := of_name s h a0 a1 o0 o1 h1
  obtain ⟨y1, y2⟩ := of_name s h b0 b1 u0 u1 h2
  have e1 := signAt_inj (j := (a + 2).toNat) (k := (b + 2).toNat) (by omega) (by omega) (x1.trans y1.symm)
  have e2 : octL o = octL u := by
    have := congrArg (fun b => b.data.toList) (x2.trans y2.symm)
    rw [← itoa_oct o0 o1, ← itoa_oct u0 u1]
    simpa [itoaB] using this
  exact ⟨by omega, octL_inj o0 o1 u0 u1 e2⟩
theorem prs_unique {s : ByteArray} {w1 w1' w2 w2' : World} {e1 e2 : Ending} (h1 : PrsPost s w1 e1 w1') (h2 : PrsPost s w2 e2 w2') : e1 = e2 := by
  rcases h1.1 with ⟨x1, rfl⟩ | ⟨x1, x2, rfl⟩ | ⟨x1, x2, a, o, a0, a1, o0, o1, x3, x4⟩ | ⟨x1, x2, x3, rfl⟩ <;>
    rcases h2.1 with ⟨y1, rfl⟩ | ⟨y1, y2, rfl⟩ | ⟨y1, y2, b, u, b0, b1, u0, u1, y3, y4⟩ | ⟨y1, y2, y3, rfl⟩
  all_goals first | rfl | (exfalso; omega) | skip
  · obtain ⟨rfl, rfl⟩ := name_unique x1 a0 a1 o0 o1 b0 b1 u0 u1 x3 y3
    rcases x4 with ⟨p1, rfl⟩ | ⟨p1, rfl⟩ <;> rcases y4 with ⟨q1, rfl⟩ | ⟨q1, rfl⟩
    · rfl
    · exact absurd p1 q1
    · exact absurd q1 p1
    · rfl
  · exact absurd x3 (y3 a o a0 a1 o0 o1)
  · exact absurd y3 (x3 b u b0 b1 u0 u1)
theorem prs_ret {s : ByteArray} {w w' : World} {e : Ending} (h : PrsPost s w e w') : ∃ k a o p q : Int, (0 ≤ q ∧ q ≤ 18) ∧ e = retP k a o p q := by
  rcases h.1 with ⟨x1, rfl⟩ | ⟨x1, x2, rfl⟩ | ⟨x1, x2, a, o, a0, a1, o0, o1, x3, ⟨_, rfl⟩ | ⟨_, rfl⟩⟩ | ⟨x1, x2, x3, rfl⟩
  all_goals exact ⟨_, _, _, _, _, by omega, rfl⟩
theorem lett_list {i : Nat} (hi : i ≤ 6) : (lettersB.extract i (i + 1)).data.toList = [([67, 68, 69, 70, 71, 65, 66] : List UInt8).getD i 0] := by
  rw [extract_list]
  have : i = 0 ∨ i = 1 ∨ i = 2 ∨ i = 3 ∨ i = 4 ∨ i = 5 ∨ i = 6 := by omega
  rcases this with rfl | rfl | rfl | rfl | rfl | rfl | rfl <;> rfl
theorem nameB_list {i k : Nat} {o : Int} (hi : i ≤ 6) : (nameB i k o).data.toList = ([67, 68, 69, 70, 71, 65, 66] : List UInt8).getD i 0 :: ((signAt k).data.toList ++ Lib.itoa o) := by
  have h := lett_list hi
  unfold nameB
  rw [ByteArray.data_append, ByteArray.data_append, Array.toList_append, Array.toList_append, h]
  simp [itoaB]
theorem nameB_size {i k : Nat} {o : Int} (hi : i ≤ 6) : 0 < (nameB i k o).size := by
  rw [size_list, nameB_list hi]; simp
theorem nameB_st {i k : Nat} {o : Int} (hi : i ≤ 6) : stB (nameB i k o) = i := by
  unfold stB
  rw [nameB_list hi]
  simp only [List.headD_cons]
  have : i = 0 ∨ i = 1 ∨ i = 2 ∨ i = 3 ∨ i = 4 ∨ i = 5 ∨ i = 6 := by omega
  rcases this with rfl | rfl | rfl | rfl | rfl | rfl | rfl <;> decide
theorem nameB_drop {i : Nat} {a o : Int} (hi : i ≤ 6) (a0 : -2 ≤ a) : (nameB i (a + 2).toNat o).data.toList.drop 1 = signL a ++ Lib.itoa o := by
  rw [nameB_list hi]
  rfl
/-- what Parse makes of a name -/
theorem parse_name (i : Nat) (a o : Int) (w : World) (hp : Pit (i : Int) a o) (ht : PW w) :
    Calls Tryd.prog 27 #[.string (nameB i (a + 2).toNat o)] w fun e w' => e = retP (i : Int) a o 0 0 ∧ Below w.heap.size w w' := by
  have hi : i ≤ 6 := by have := hp.s1; omega
  have hz := nameB_size (k := (a + 2).toNat) (o := o) hi
  refine (parse_any (nameB i (a + 2).toNat o) w ?_ ht).mono ?_
  · unfold nameB; have z1 := lett_size i; have z2 := sign_size (a + 2).toNat; have z3 := itoaB_size hp.o0 hp.o1
    rw [ByteArray.size_append, ByteArray.size_append]; omega
  rintro e w' ⟨h, hb⟩
  refine ⟨?_, hb⟩
  have hd := nameB_drop (o := o) hi hp.a0
  have hst := nameB_st (k := (a + 2).toNat) (o := o) hi
  rcases h with ⟨h, _⟩ | ⟨_, h, _⟩ | ⟨_, _, b, u, b0, b1, u0, u1, h, h2⟩ | ⟨_, _, h, _⟩
  · omega
  · rw [hst] at h; omega
  · obtain ⟨rfl, rfl⟩ := name_unique hz b0 b1 u0 u1 hp.a0 hp.a1 hp.o0 hp.o1 h hd
    rw [hst] at h2
    rcases h2 with ⟨_, h2⟩ | ⟨h2, _⟩
    · exact h2
    · exact absurd hp h2
  · exact absurd hd (h a o hp.a0 hp.a1 hp.o0 hp.o1)
end Go.Proofs.YtolfgomlokpopaaDoor
