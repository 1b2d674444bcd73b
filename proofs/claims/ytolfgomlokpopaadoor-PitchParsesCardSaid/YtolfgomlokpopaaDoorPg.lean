/- Pitches: the walk of Parse. -/
import Derived.Test.YtolfgomlokpopaaDoorPf
namespace Go.Proofs.YtolfgomlokpopaaDoor
open Go.RowKit
set_option linter.unusedVariables false
set_option linter.unusedSimpArgs false

def signL (a : Int) : List UInt8 := (signAt (a + 2).toNat).data.toList
def octL (o : Int) : List UInt8 := if o = -1 then [45, 49] else [UInt8.ofNat (48 + o.toNat)]
theorem itoa_oct {o : Int} (h0 : -1 ≤ o) (h1 : o ≤ 9) : Lib.itoa o = octL o := by
  rcases (show o = -1 ∨ o = 0 ∨ o = 1 ∨ o = 2 ∨ o = 3 ∨ o = 4 ∨ o = 5 ∨ o = 6 ∨ o = 7 ∨ o = 8 ∨ o = 9 by omega) with rfl | rfl | rfl | rfl | rfl | rfl | rfl | rfl | rfl | rfl | rfl <;> simp [Lib.itoa, Lib.decDigits, octL]
def trimT (r : List UInt8) : List UInt8 := Lib.trimLeftS r [98, 35]
theorem trim_take (r : List UInt8) : r.take (r.length - (trimT r).length) ++ trimT r = r ∧ (trimT r).length ≤ r.length := by
  unfold trimT Lib.trimLeftS
  have h := List.takeWhile_append_dropWhile (p := fun x => [98, 35].contains x) (l := r)
  have hl := congrArg List.length h
  rw [List.length_append] at hl
  have e : r.take (r.length - (r.dropWhile fun x => [98, 35].contains x).length) = r.takeWhile fun x => [98, 35].contains x := by
    conv => lhs; rw [← h]
    rw [List.take_append_of_le_length (by rw [h]; omega), List.take_of_length_le (by rw [h]; omega)]
  refine ⟨by rw [e]; exact h, by omega⟩
theorem sign_cases {a : Int} (h0 : -2 ≤ a) (h1 : a ≤ 2) : a = -2 ∨ a = -1 ∨ a = 0 ∨ a = 1 ∨ a = 2 := by omega
theorem size_list (b : ByteArray) : b.size = b.data.toList.length := by
  rw [Array.length_toList]; rfl
theorem trim_append {l : List UInt8} {c : UInt8} {r : List UInt8} (hl : ∀ x ∈ l, ([98, 35] : List UInt8).contains x = true) (hc : ([98, 35] : List UInt8).contains c = false) : trimT (l ++ c :: r) = c :: r := by
  unfold trimT Lib.trimLeftS
  induction l with
  | nil => rw [List.nil_append, List.dropWhile_cons_of_neg (by simpa using hc)]
  | cons x l ih =>
    rw [List.cons_append, List.dropWhile_cons_of_pos (hl x (by simp))]
    exact ih (fun y hy => hl y (by simp [hy]))
theorem oct_head {o : Int} (h0 : -1 ≤ o) (h1 : o ≤ 9) : ∃ c r, octL o = c :: r ∧ ([98, 35] : List UInt8).contains c = false := by
  rcases (show o = -1 ∨ o = 0 ∨ o = 1 ∨ o = 2 ∨ o = 3 ∨ o = 4 ∨ o = 5 ∨ o = 6 ∨ o = 7 ∨ o = 8 ∨ o = 9 by omega) with rfl | rfl | rfl | rfl | rfl | rfl | rfl | rfl | rfl | rfl | rfl <;> exact ⟨_, _, rfl, by decide⟩
theorem sign_set {a : Int} (a0 : -2 ≤ a) (a1 : a ≤ 2) : ∀ x ∈ signL a, ([98, 35] : List UInt8).contains x = true := by
  rcases sign_cases a0 a1 with rfl | rfl | rfl | rfl | rfl
  · show ∀ x ∈ [98, 98], _; simp
  · show ∀ x ∈ [98], _; simp
  · show ∀ x ∈ [], _; simp
  · show ∀ x ∈ [35], _; simp
  · show ∀ x ∈ [35, 35], _; simp
theorem trim_name {a o : Int} (a0 : -2 ≤ a) (a1 : a ≤ 2) (o0 : -1 ≤ o) (o1 : o ≤ 9) : trimT (signL a ++ Lib.itoa o) = Lib.itoa o := by
  obtain ⟨c, r, h, hc⟩ := oct_head o0 o1
  have e : Lib.itoa o = c :: r := (itoa_oct o0 o1).trans h
  have hs := sign_set a0 a1
  generalize signL a = l at hs ⊢
  rw [e]
  exact trim_append hs hc
/-- the step of a name -/
def stB (s : ByteArray) : Int := Lib.indexByte [67, 68, 69, 70, 71, 65, 66] (s.data.toList.headD 0)
theorem index_bd (c : UInt8) : ∀ l : List UInt8, -1 ≤ Lib.indexByte l c ∧ Lib.indexByte l c < (l.length : Int) + if l = [] then 0 else 0
  | [] => by rw [Lib.indexByte]; simp
  | b :: l => by
    have ih := index_bd c l
    rw [Lib.indexByte]
    simp only [ite_self, Int.add_zero] at ih ⊢
    by_cases h1 : (b == c) = true
    · rw [if_pos h1]; simp
    · rw [if_neg h1]
      by_cases h2 : (Lib.indexByte l c == -1) = true
      · rw [if_pos h2]; simp; omega
      · rw [if_neg h2]
        have : Lib.indexByte l c ≠ -1 := by simpa using h2
        simp only [List.length_cons]
        omega
theorem indexB_bd (c : UInt8) : -1 ≤ Lib.indexByte [67, 68, 69, 70, 71, 65, 66] c ∧ Lib.indexByte [67, 68, 69, 70, 71, 65, 66] c ≤ 6 := by
  have h := index_bd c [67, 68, 69, 70, 71, 65, 66]
  generalize Lib.indexByte [67, 68, 69, 70, 71, 65, 66] c = x at h ⊢
  simp at h
  omega
def retP (k a o at_ e : Int) : Ending := .returned (.tuple #[.agg #[.int .i64 k, .int .i64 a, .int .i64 o], .int .i64 at_, .int .i64 e])
/-- what Parse returns -/
def PrsPost (s : ByteArray) (w : World) (e : Ending) (w' : World) : Prop :=
  ((s.size = 0 ∧ e = retP 0 0 0 0 4) ∨ (0 < s.size ∧ stB s < 0 ∧ e = retP 0 0 0 0 6) ∨
   (0 < s.size ∧ 0 ≤ stB s ∧ ∃ a o : Int, -2 ≤ a ∧ a ≤ 2 ∧ -1 ≤ o ∧ o ≤ 9 ∧ s.data.toList.drop 1 = signL a ++ Lib.itoa o ∧ ((Pit (stB s) a o ∧ e = retP (stB s) a o 0 0) ∨ (¬ Pit (stB s) a o ∧ e = retP 0 0 0 0 18))) ∨
   (0 < s.size ∧ 0 ≤ stB s ∧ (∀ a o : Int, -2 ≤ a → a ≤ 2 → -1 ≤ o → o ≤ 9 → s.data.toList.drop 1 ≠ signL a ++ Lib.itoa o) ∧ e = retP 0 0 0 1 3)) ∧ Below w.heap.size w w'
theorem empty_yes {s : ByteArray} (h : s.size = 0) : s.toList.isEmpty = true := by
  rw [Go.ByteArray.toList_eq]
  have : s.data.toList.length = 0 := by rw [Array.length_toList]; exact h
  simp only [List.isEmpty_iff_length_eq_zero]; exact this
theorem empty_no {s : ByteArray} (h : 0 < s.size) : s.toList.isEmpty = false := by
  rw [Go.ByteArray.toList_eq]
  have : s.data.toList.length = s.size := Array.length_toList
  cases hl : s.data.toList with
  | nil => rw [hl] at this; simp at this; omega
  | cons => rfl
/-- the digits of a name, and its sign -/
def digS (s : ByteArray) : ByteArray := ⟨(trimT (s.data.toList.drop 1)).toArray⟩
def sgnS (s : ByteArray) : ByteArray := s.extract 1 (s.size - (digS s).size)
theorem extract_list (s : ByteArray) (a b : Nat) : (s.extract a b).data.toList = (s.data.toList.drop a).take (b - a) := by
  simp [ByteArray.data_extract, Array.toList_extract, List.extract_eq_take_drop]
theorem digS_size (s : ByteArray) (h : 0 < s.size) : (digS s).size + 1 ≤ s.size := by
  have := (trim_take (s.data.toList.drop 1)).2
  rw [List.length_drop, ← size_list] at this
  have e : (digS s).size = (trimT (s.data.toList.drop 1)).length := by rw [size_list]; simp [digS]
  omega
theorem sgnS_list (s : ByteArray) (h : 0 < s.size) : (sgnS s).data.toList = (s.data.toList.drop 1).take ((s.data.toList.drop 1).length - (trimT (s.data.toList.drop 1)).length) := by
  unfold sgnS
  rw [extract_list]
  have e : (digS s).size = (trimT (s.data.toList.drop 1)).length := by rw [size_list]; simp [digS]
  have := digS_size s h
  congr 1
  rw [e, List.length_drop, ← size_list]
  omega
theorem name_of (s : ByteArray) (h : 0 < s.size) {k : Nat} {o : Int} (hs : signAt k = sgnS s) (ho : itoaB o = digS s) : s.data.toList.drop 1 = (signAt k).data.toList ++ Lib.itoa o := by
  have h1 := (trim_take (s.data.toList.drop 1)).1
  have h2 : Lib.itoa o = trimT (s.data.toList.drop 1) := by
    have := congrArg (fun b => b.data.toList) ho
    simpa [itoaB, digS] using this
  rw [h2, hs, sgnS_list s h]
  exact h1.symm
theorem of_name (s : ByteArray) (h : 0 < s.size) {a o : Int} (a0 : -2 ≤ a) (a1 : a ≤ 2) (o0 : -1 ≤ o) (o1 : o ≤ 9) (hn : s.data.toList.drop 1 = signL a ++ Lib.itoa o) : signAt (a + 2).toNat = sgnS s ∧ itoaB o = digS s := by
  have ht := trim_name a0 a1 o0 o1
  constructor
  · refine ByteArray.ext (Array.toList_inj.1 ?_)
    rw [sgnS_list s h, hn, ht]
    unfold signL
    simp
  · unfold itoaB digS
    rw [hn, ht]
theorem signL_nat (k : Nat) : signL ((k : Int) - 2) = (signAt k).data.toList := by unfold signL; congr 3; omega
theorem head_get (s : ByteArray) (h : 0 < s.size) : s.data.toList.headD 0 = s[0] := by
  have : s.data.toList[0]? = some s[0] := by rw [List.getElem?_eq_getElem (by rw [Array.length_toList]; exact h)]; rfl
  cases hl : s.data.toList with
  | nil => rw [hl] at this; simp at this
  | cons c t => rw [hl] at this; simpa using this
theorem index_call (s : ByteArray) (h : 0 < s.size) (w : World) :
    Calls Tryd.prog 39 #[.string ⟨#[67, 68, 69, 70, 71, 65, 66]⟩, .int .u8 (s[0].toNat : Int)] w fun e w' => e = .returned (.int .i64 (stB s)) ∧ w = w' :=
  (Tryd.strings_IndexByte ⟨#[67, 68, 69, 70, 71, 65, 66]⟩ (s[0].toNat : Int) w).mono fun e w' ⟨he, hw⟩ => by
    refine ⟨?_, hw.symm⟩
    rw [he]
    unfold stB
    rw [head_get s h]
    simp
theorem trim_call (s : ByteArray) (w : World) :
    Calls Tryd.prog 40 #[.string (s.extract 1 s.size), .string ⟨#[98, 35]⟩] w fun e w' => e = .returned (.string (digS s)) ∧ Below w.heap.size w w' :=
  (Tryd.strings_TrimLeft_laid (s.extract 1 s.size) ⟨#[98, 35]⟩ w (by decide) (by intro j b hb; match j, hb with | 0, hb => (simp at hb; subst hb; decide) | 1, hb => (simp at hb; subst hb; decide))).mono fun e w' ⟨he, hw⟩ => by
    refine ⟨?_, hw⟩
    rw [he]
    unfold digS trimT
    rw [extract_list, List.take_of_length_le (by rw [List.length_drop, Array.length_toList]; exact Nat.le_refl _)]
theorem sgn_call (s : ByteArray) (w : World) (ht : PW w) : Calls Tryd.prog 41 #[.string (s.extract 1 (s.size - (digS s).size))] w (SgnPost (sgnS s) w) := parseSign_any (sgnS s) w ht

set_option maxRecDepth 100000 in
set_option maxHeartbeats 2000000 in
theorem parse_any (s : ByteArray) (w : World) (hs : s.size ≤ 1000000) (ht : PW w) :
    Calls Tryd.prog 27 #[.string s] w (PrsPost s w) := by
  have HT := Lib.hid (ht.alloc (.cells #[.int .i64 0, .int .i64 0, .int .i64 0] 23))
  have HW := Lib.hid ht
  have B0 := Lib.hid ((Bel.refl w).alloc (.cells #[.int .i64 0, .int .i64 0, .int .i64 0] 23))
  have R0 := Tri.new w (.int .i64 0) (.int .i64 0) (.int .i64 0) 23 w.heap.size rfl
  clear ht
  by_cases h0 : s.size = 0
  · have hne := empty_yes h0
    have H0 := Lib.hid h0
    clear h0
    go_enter Tryd.func27, Tryd.ntmps27
    go_wp2_with fail
    have Tf := R0.store (u := .int .i64 0) (v := .int .i64 0) (t := .int .i64 0)
    exact bodyPost_ret (v := .tuple #[.agg #[.int .i64 0, .int .i64 0, .int .i64 0], .int .i64 0, .int .i64 4]) (by simp [results, Tryd.results27, go_sem, Tf.c0, Tf.c1, Tf.c2]) rfl ⟨.inl ⟨H0.out, rfl⟩, (show Bel w _ by repeat (first | exact B0.out | refine Bel.set ?_ (Nat.le_refl _) _ _))⟩
  · have hpos : 0 < s.size := by omega
    have hne := empty_no hpos
    have hst := indexB_bd (s.data.toList.headD 0)
    have hds := digS_size s hpos
    have NM : Hid (∀ (k : Nat) (o : Int), signAt k = sgnS s → itoaB o = digS s → s.data.toList.drop 1 = (signAt k).data.toList ++ Lib.itoa o) := fun k o h1 h2 => name_of s hpos h1 h2
    have ON : Hid (∀ a o : Int, -2 ≤ a → a ≤ 2 → -1 ≤ o → o ≤ 9 → s.data.toList.drop 1 = signL a ++ Lib.itoa o → signAt (a + 2).toNat = sgnS s ∧ itoaB o = digS s) := fun a o a0 a1 o0 o1 h => of_name s hpos a0 a1 o0 o1 h
    change -1 ≤ stB s ∧ stB s ≤ 6 at hst
    obtain ⟨st0, st1⟩ := hst
    go_enter Tryd.func27, Tryd.ntmps27
    go_wp2_with fail
    refine (index_call s hpos _).mono ?_
    rintro e w1 ⟨rfl, rfl⟩
    by_cases hneg : stB s < 0
    · go_wp2_with fail
      have Tf := R0.store (u := .int .i64 0) (v := .int .i64 0) (t := .int .i64 0)
      exact bodyPost_ret (v := .tuple #[.agg #[.int .i64 0, .int .i64 0, .int .i64 0], .int .i64 0, .int .i64 6]) (by simp [results, Tryd.results27, go_sem, Tf.c0, Tf.c1, Tf.c2]) rfl ⟨.inr (.inl ⟨hpos, hneg, rfl⟩), (show Bel w _ by repeat (first | exact B0.out | refine Bel.set ?_ (Nat.le_refl _) _ _))⟩
    · have hst0 : 0 ≤ stB s := by omega
      have heq : s.extract 1 (s.size - (digS s).size) = sgnS s := rfl
      have HEQ := Lib.hid heq
      clear heq
      go_wp2_with fail
      refine (trim_call s _).mono ?_
      rintro e w1 ⟨rfl, hb⟩
      have B1 := Lib.hid (B0.out.up hb)
      have T1 := Lib.hid (HT.out.below hb)
      have R1 := R0.up hb
      clear hb B0 R0
      go_wp2_with fail
      refine (sgn_call s _ T1.out).mono ?_
      rintro e w2 (⟨k, hk, hsg, rfl, rfl⟩ | ⟨hno, rfl, rfl⟩)
      · have HSG := Lib.hid hsg
        clear hsg
        go_wp2_with fail
        refine (parseOctave_any (digS s) _ T1.out.tab).mono ?_
        rintro e w3 (⟨o, o0, o1, ho, rfl, hb⟩ | ⟨ho, rfl, hb⟩)
        · have HO := Lib.hid ho
          have B2 := Lib.hid (B1.out.up hb)
          have T2 := Lib.hid (T1.out.below hb)
          have R2 := R1.up hb
          clear ho hb B1 T1 R1
          obtain ⟨r0, r1, r2, r3, r4, r5, r6⟩ := id R2
          have HD := Lib.hid (show s.data.toList.drop 1 = signL ((k : Int) - 2) ++ Lib.itoa o by rw [signL_nat]; exact NM.out k o HSG.out HO.out)
          have R3 := R2.store (u := .int .i64 (stB s)) (v := .int .i64 ((k : Int) - 2)) (t := .int .i64 o)
          have B3 := Lib.hid (((B2.out.set (Nat.le_refl w.heap.size) 0 (.int .i64 (stB s))).set (Nat.le_refl w.heap.size) 1 (.int .i64 ((k : Int) - 2))).set (Nat.le_refl w.heap.size) 2 (.int .i64 o))
          have T3 := Lib.hid (HW.out.below B3.out.out)
          by_cases hp : Pit (stB s) ((k : Int) - 2) o
          · have HP := Lib.hid hp
            clear hp
            go_wp2_with fail
            refine (check_ok _ _ _ _ HP.out T3.out.t).mono ?_
            rintro e w4 ⟨rfl, hb⟩
            have B4 := Lib.hid (B3.out.up hb)
            have R4 := R3.up hb
            clear hb B3 R3 B2 R2 r0 r1 r2 r3 r4 r5 r6
            obtain ⟨r0, r1, r2, r3, r4, r5, r6⟩ := id R4
            go_wp2_with fail
            have Tf := R4.store (u := .int .i64 (stB s)) (v := .int .i64 ((k : Int) - 2)) (t := .int .i64 o)
            exact bodyPost_ret (v := .tuple #[.agg #[.int .i64 (stB s), .int .i64 ((k : Int) - 2), .int .i64 o], .int .i64 0, .int .i64 0]) (by simp [results, Tryd.results27, go_sem, Tf.c0, Tf.c1, Tf.c2]) rfl ⟨.inr (.inr (.inl ⟨hpos, hst0, _, o, by omega, by omega, o0, o1, HD.out, .inl ⟨HP.out, rfl⟩⟩)), (show Bel w _ by repeat (first | exact B4.out | refine Bel.set ?_ (Nat.le_refl _) _ _))⟩
          · have HP := Lib.hid hp
            clear hp
            go_wp2_with fail
            refine (check_bad _ _ _ _ HP.out T3.out.t).mono ?_
            rintro e w4 ⟨rfl, hb⟩
            have B4 := Lib.hid (B3.out.up hb)
            have R4 := R3.up hb
            clear hb B3 R3 B2 R2 r0 r1 r2 r3 r4 r5 r6
            obtain ⟨r0, r1, r2, r3, r4, r5, r6⟩ := id R4
            go_wp2_with fail
            have Tf := R4.store (u := .int .i64 0) (v := .int .i64 0) (t := .int .i64 0)
            exact bodyPost_ret (v := .tuple #[.agg #[.int .i64 0, .int .i64 0, .int .i64 0], .int .i64 0, .int .i64 18]) (by simp [results, Tryd.results27, go_sem, Tf.c0, Tf.c1, Tf.c2]) rfl ⟨.inr (.inr (.inl ⟨hpos, hst0, _, o, by omega, by omega, o0, o1, HD.out, .inr ⟨HP.out, rfl⟩⟩)), (show Bel w _ by repeat (first | exact B4.out | refine Bel.set ?_ (Nat.le_refl _) _ _))⟩
        · have HO : Hid (∀ a o : Int, -2 ≤ a → a ≤ 2 → -1 ≤ o → o ≤ 9 → s.data.toList.drop 1 ≠ signL a ++ Lib.itoa o) := fun a o a0 a1 o0 o1 h => ho o o0 o1 (ON.out a o a0 a1 o0 o1 h).2
          have B2 := Lib.hid (B1.out.up hb)
          have R2 := R1.up hb
          clear ho hb B1 T1 R1
          obtain ⟨r0, r1, r2, r3, r4, r5, r6⟩ := id R2
          go_wp2_with fail
          have Tf := R2.store (u := .int .i64 0) (v := .int .i64 0) (t := .int .i64 0)
          exact bodyPost_ret (v := .tuple #[.agg #[.int .i64 0, .int .i64 0, .int .i64 0], .int .i64 1, .int .i64 3]) (by simp [results, Tryd.results27, go_sem, Tf.c0, Tf.c1, Tf.c2]) rfl ⟨.inr (.inr (.inr ⟨hpos, hst0, HO.out, rfl⟩)), (show Bel w _ by repeat (first | exact B2.out | refine Bel.set ?_ (Nat.le_refl _) _ _))⟩
      · have HO : Hid (∀ a o : Int, -2 ≤ a → a ≤ 2 → -1 ≤ o → o ≤ 9 → s.data.toList.drop 1 ≠ signL a ++ Lib.itoa o) := fun a o a0 a1 o0 o1 h => hno _ (by omega) (ON.out a o a0 a1 o0 o1 h).1
        clear hno
        go_wp2_with fail
        refine (parseOctave_any (digS s) _ T1.out.tab).mono ?_
        rintro e w3 (⟨o, o0, o1, ho, rfl, hb⟩ | ⟨ho, rfl, hb⟩)
        all_goals
          have B2 := Lib.hid (B1.out.up hb)
          have R2 := R1.up hb
          clear ho hb B1 T1 R1
          obtain ⟨r0, r1, r2, r3, r4, r5, r6⟩ := id R2
          go_wp2_with fail
          have Tf := R2.store (u := .int .i64 0) (v := .int .i64 0) (t := .int .i64 0)
          exact bodyPost_ret (v := .tuple #[.agg #[.int .i64 0, .int .i64 0, .int .i64 0], .int .i64 1, .int .i64 3]) (by simp [results, Tryd.results27, go_sem, Tf.c0, Tf.c1, Tf.c2]) rfl ⟨.inr (.inr (.inr ⟨hpos, hst0, HO.out, rfl⟩)), (show Bel w _ by repeat (first | exact B2.out | refine Bel.set ?_ (Nat.le_refl _) _ _))⟩
end Go.Proofs.YtolfgomlokpopaaDoor
