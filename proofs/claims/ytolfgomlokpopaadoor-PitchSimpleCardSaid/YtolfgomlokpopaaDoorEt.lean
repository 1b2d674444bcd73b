/- The law PitchSimple, whole. -/
import Derived.Test.YtolfgomlokpopaaDoorEs
namespace Go.Proofs.YtolfgomlokpopaaDoor
open Go.RowKit
set_option linter.unusedVariables false
set_option linter.unusedSimpArgs false

set_option maxHeartbeats 400000 in
theorem simple_bad (n : Int) (c : Bool) (w : World) (h : n < 0 ∨ 127 < n) :
    Calls Tryd.prog 24 #[.int .i64 n, .bool c] w fun e w' => e = .returned (.tuple #[.agg #[.int .i64 0, .int .i64 0, .int .i64 0], .int .i64 2]) ∧ Below w.heap.size w w' := by
  have H := Lib.hid h
  have B0 := Lib.hid ((Bel.refl w).alloc (.cells #[.int .i64 0, .int .i64 0, .int .i64 0] 23))
  have R0 := Tri.new w (.int .i64 0) (.int .i64 0) (.int .i64 0) 23 w.heap.size rfl
  clear h
  go_enter Tryd.func24, Tryd.ntmps24
  go_wp2_with fail
  refine (checkNumber_bad n _ H.out).mono ?_
  rintro e w1 ⟨rfl, rfl⟩
  go_wp2_with fail
  have Tf := R0
  exact bodyPost_ret (v := .tuple #[.agg #[.int .i64 0, .int .i64 0, .int .i64 0], .int .i64 2]) (by simp [results, Tryd.results24, go_sem, Tf.c0, Tf.c1, Tf.c2]) rfl ⟨rfl, B0.out.out⟩
/-- what the reference's loop makes of a list -/
def goS (want : Int) : List (Int × Int × Int) → Int × Int × Int → Int × Int × Int
  | [], out => out
  | q :: l, out => if q.2.1 = 0 then q else goS want l (if q.2.1 = want then q else out)
theorem goS_fin : ∀ (n : Fin 128) (c : Bool), goS (if c then -1 else 1) (refE (n.val : Int)) (0, 0, 0) = simpP (n.val : Int) c := by decide +kernel
theorem goS_simp {n : Int} (n0 : 0 ≤ n) (n1 : n ≤ 127) (c : Bool) : goS (if c then -1 else 1) (enhL n) (0, 0, 0) = simpP n c := by
  have := goS_fin ⟨n.toNat, by omega⟩ c
  have e : ((n.toNat : Nat) : Int) = n := by omega
  rw [← refE_enh n0 n1]
  simpa [e] using this
theorem goS_at {want : Int} {L : List (Int × Int × Int)} {k : Nat} {q out : Int × Int × Int} (h : L[k]? = some q) : goS want (L.drop k) out = if q.2.1 = 0 then q else goS want (L.drop (k + 1)) (if q.2.1 = want then q else out) := by
  have hk : k < L.length := by
    rcases Nat.lt_or_ge k L.length with h' | h'
    · exact h'
    · rw [List.getElem?_eq_none h'] at h; cases h
  have e : L[k] = q := by rw [List.getElem?_eq_getElem hk] at h; exact Option.some.inj h
  rw [List.drop_eq_getElem_cons hk, e]
  rfl
/-- what the loop keeps -/
structure SS (w2 wr : World) (b : Nat) (out : Int × Int × Int) : Prop where
  bel : Bel w2 wr
  x : Tri wr b (.int .i64 out.1) (.int .i64 out.2.1) (.int .i64 out.2.2)
set_option maxRecDepth 100000 in
set_option maxHeartbeats 2000000 in
theorem refSimple_any (n : Int) (c : Bool) (w : World) (n0 : 0 ≤ n) (n1 : n ≤ 127) :
    Calls Tryd.prog 25 #[.int .i64 n, .bool c] w fun e w' => e = .returned (.agg #[.int .i64 (simpP n c).1, .int .i64 (simpP n c).2.1, .int .i64 (simpP n c).2.2]) ∧ Below w.heap.size w w' := by
  have hEE := refE_enh n0 n1
  have hne := enhL_some n0 n1
  have hlen := enhL_len n
  have hS := goS_simp n0 n1 c
  have B0 := Lib.hid ((Bel.refl w).alloc (.cells #[.int .i64 0, .int .i64 0, .int .i64 0] 23))
  have R0 := Tri.new w (.int .i64 0) (.int .i64 0) (.int .i64 0) 23 w.heap.size rfl
  obtain ⟨P, hP⟩ : ∃ P, simpP n c = P := ⟨_, rfl⟩
  rw [hP] at hS ⊢
  clear hP
  cases c
  · simp only [Bool.false_eq_true, if_false, if_true, reduceIte] at hS
    have HS := Lib.hid hS
    clear hS
    go_enter Tryd.func25, Tryd.ntmps25
    go_wp2_with fail
    refine (refEnh_any n _).mono ?_
    rintro e w2 ⟨v, rfl, hown, hb⟩
    rw [hEE] at hown
    obtain ⟨g, cap, rfl, hg, hrow⟩ := rows_of_own hown hne
    have W2 := Lib.hid (show Row3 w2 g (enhL n) from hrow)
    have B2 := Lib.hid (B0.out.up hb)
    have R2 := Lib.hid (R0.up hb)
    clear hown hrow hb hg B0 R0 hEE
    have HA := Lib.hid (show SS w2 (w2.alloc (.cells #[.int .i64 0, .int .i64 0, .int .i64 0] 23)) w2.heap.size (0, 0, 0) from ⟨(Bel.refl w2).alloc _, Tri.new w2 _ _ _ _ _ rfl⟩)
    have hsz : w.heap.size < w2.heap.size := R2.out.lt
    generalize enhL n = L at *
    go_wp2_with fail
    go_loopg [8] L.length (fun gm i wr => ∃ k : Nat, k ≤ L.length ∧ gm = L.length - k ∧ i = .int .i64 (k : Int) ∧ ∃ out : Int × Int × Int, Hid (goS 1 (L.drop k) out = P) ∧ Hid (SS w2 wr w2.heap.size out))
    case atStart => exact ⟨0, by omega, by omega, rfl, (0, 0, 0), HS, HA⟩
    case round =>
      obtain ⟨k, hk, rfl, rfl, out, HO, HX⟩ := hrel
      clear HA HS
      have R3 := R2.out.up HX.out.bel.out
      have B3 := Lib.hid (B2.out.up HX.out.bel.out)
      by_cases hlt : k < L.length
      · obtain ⟨q, hq⟩ : ∃ q, L[k]? = some q := ⟨_, List.getElem?_eq_getElem hlt⟩
        obtain ⟨q1, q2, q3⟩ := W2.out.up HX.out.bel.out k q hq
        have HG := Lib.hid (goS_at (want := 1) (out := out) hq)
        clear hq
        by_cases h0 : q.2.1 = 0
        · have HE : Hid (q = P) := by have := HO.out; rw [HG.out, if_pos h0] at this; exact this
          obtain ⟨r0, r1, r2, r3, r4, r5, r6⟩ := id R3
          go_wp2_with fail
          have Tf := R3.store (u := .int .i64 q.1) (v := .int .i64 0) (t := .int .i64 q.2.2)
          exact bodyPost_ret (v := .agg #[.int .i64 q.1, .int .i64 0, .int .i64 q.2.2]) (by simp [results, Tryd.results25, go_sem, Tf.c0, Tf.c1, Tf.c2]) rfl ⟨by rw [← HE.out, h0], ((B3.out.set (Nat.le_refl _) _ _).set (Nat.le_refl _) _ _).set (Nat.le_refl _) _ _⟩
        · by_cases h1 : q.2.1 = 1
          · have HE : Hid (goS 1 (L.drop (k + 1)) q = P) := by have := HO.out; rw [HG.out, if_neg h0, if_pos h1] at this; exact this
            obtain ⟨x0, x1, x2, x3, x4, x5, x6⟩ := id HX.out.x
            go_wp2_with fail
            have Xf := HX.out.x.store (u := .int .i64 q.1) (v := .int .i64 1) (t := .int .i64 q.2.2)
            go_roundg (L.length - (k + 1))
            case measure => omega
            case rel => exact ⟨k + 1, by omega, rfl, by go_num, q, HE, Lib.hid ⟨((HX.out.bel.set (Nat.le_refl _) _ _).set (Nat.le_refl _) _ _).set (Nat.le_refl _) _ _, by rw [h1]; exact Xf⟩⟩
          · have HE : Hid (goS 1 (L.drop (k + 1)) out = P) := by have := HO.out; rw [HG.out, if_neg h0, if_neg h1] at this; exact this
            go_wp2_with fail
            go_roundg (L.length - (k + 1))
            case measure => omega
            case rel => exact ⟨k + 1, by omega, rfl, by go_num, out, HE, HX⟩
      · obtain rfl : k = L.length := by omega
        have HE : Hid (out = P) := by have := HO.out; rw [List.drop_length] at this; exact this
        obtain ⟨r0, r1, r2, r3, r4, r5, r6⟩ := id R3
        obtain ⟨x0, x1, x2, x3, x4, x5, x6⟩ := id HX.out.x
        go_wp2_with fail
        have Tf := R3.store (u := .int .i64 out.1) (v := .int .i64 out.2.1) (t := .int .i64 out.2.2)
        exact bodyPost_ret (v := .agg #[.int .i64 out.1, .int .i64 out.2.1, .int .i64 out.2.2]) (by simp [results, Tryd.results25, go_sem, Tf.c0, Tf.c1, Tf.c2]) rfl ⟨by rw [HE.out], ((B3.out.set (Nat.le_refl _) _ _).set (Nat.le_refl _) _ _).set (Nat.le_refl _) _ _⟩
  · simp only [Bool.false_eq_true, if_false, if_true, reduceIte] at hS
    have HS := Lib.hid hS
    clear hS
    go_enter Tryd.func25, Tryd.ntmps25
    go_wp2_with fail
    refine (refEnh_any n _).mono ?_
    rintro e w2 ⟨v, rfl, hown, hb⟩
    rw [hEE] at hown
    obtain ⟨g, cap, rfl, hg, hrow⟩ := rows_of_own hown hne
    have W2 := Lib.hid (show Row3 w2 g (enhL n) from hrow)
    have B2 := Lib.hid (B0.out.up hb)
    have R2 := Lib.hid (R0.up hb)
    clear hown hrow hb hg B0 R0 hEE
    have HA := Lib.hid (show SS w2 (w2.alloc (.cells #[.int .i64 0, .int .i64 0, .int .i64 0] 23)) w2.heap.size (0, 0, 0) from ⟨(Bel.refl w2).alloc _, Tri.new w2 _ _ _ _ _ rfl⟩)
    have hsz : w.heap.size < w2.heap.size := R2.out.lt
    generalize enhL n = L at *
    go_wp2_with fail
    go_loopg [8] L.length (fun gm i wr => ∃ k : Nat, k ≤ L.length ∧ gm = L.length - k ∧ i = .int .i64 (k : Int) ∧ ∃ out : Int × Int × Int, Hid (goS (-1) (L.drop k) out = P) ∧ Hid (SS w2 wr w2.heap.size out))
    case atStart => exact ⟨0, by omega, by omega, rfl, (0, 0, 0), HS, HA⟩
    case round =>
      obtain ⟨k, hk, rfl, rfl, out, HO, HX⟩ := hrel
      clear HA HS
      have R3 := R2.out.up HX.out.bel.out
      have B3 := Lib.hid (B2.out.up HX.out.bel.out)
      by_cases hlt : k < L.length
      · obtain ⟨q, hq⟩ : ∃ q, L[k]? = some q := ⟨_, List.getElem?_eq_getElem hlt⟩
        obtain ⟨q1, q2, q3⟩ := W2.out.up HX.out.bel.out k q hq
        have HG := Lib.hid (goS_at (want := (-1)) (out := out) hq)
        clear hq
        by_cases h0 : q.2.1 = 0
        · have HE : Hid (q = P) := by have := HO.out; rw [HG.out, if_pos h0] at this; exact this
          obtain ⟨r0, r1, r2, r3, r4, r5, r6⟩ := id R3
          go_wp2_with fail
          have Tf := R3.store (u := .int .i64 q.1) (v := .int .i64 0) (t := .int .i64 q.2.2)
          exact bodyPost_ret (v := .agg #[.int .i64 q.1, .int .i64 0, .int .i64 q.2.2]) (by simp [results, Tryd.results25, go_sem, Tf.c0, Tf.c1, Tf.c2]) rfl ⟨by rw [← HE.out, h0], ((B3.out.set (Nat.le_refl _) _ _).set (Nat.le_refl _) _ _).set (Nat.le_refl _) _ _⟩
        · by_cases h1 : q.2.1 = (-1)
          · have HE : Hid (goS (-1) (L.drop (k + 1)) q = P) := by have := HO.out; rw [HG.out, if_neg h0, if_pos h1] at this; exact this
            obtain ⟨x0, x1, x2, x3, x4, x5, x6⟩ := id HX.out.x
            go_wp2_with fail
            have Xf := HX.out.x.store (u := .int .i64 q.1) (v := .int .i64 (-1)) (t := .int .i64 q.2.2)
            go_roundg (L.length - (k + 1))
            case measure => omega
            case rel => exact ⟨k + 1, by omega, rfl, by go_num, q, HE, Lib.hid ⟨((HX.out.bel.set (Nat.le_refl _) _ _).set (Nat.le_refl _) _ _).set (Nat.le_refl _) _ _, by rw [h1]; exact Xf⟩⟩
          · have HE : Hid (goS (-1) (L.drop (k + 1)) out = P) := by have := HO.out; rw [HG.out, if_neg h0, if_neg h1] at this; exact this
            go_wp2_with fail
            go_roundg (L.length - (k + 1))
            case measure => omega
            case rel => exact ⟨k + 1, by omega, rfl, by go_num, out, HE, HX⟩
      · obtain rfl : k = L.length := by omega
        have HE : Hid (out = P) := by have := HO.out; rw [List.drop_length] at this; exact this
        obtain ⟨r0, r1, r2, r3, r4, r5, r6⟩ := id R3
        obtain ⟨x0, x1, x2, x3, x4, x5, x6⟩ := id HX.out.x
        go_wp2_with fail
        have Tf := R3.store (u := .int .i64 out.1) (v := .int .i64 out.2.1) (t := .int .i64 out.2.2)
        exact bodyPost_ret (v := .agg #[.int .i64 out.1, .int .i64 out.2.1, .int .i64 out.2.2]) (by simp [results, Tryd.results25, go_sem, Tf.c0, Tf.c1, Tf.c2]) rfl ⟨by rw [HE.out], ((B3.out.set (Nat.le_refl _) _ _).set (Nat.le_refl _) _ _).set (Nat.le_refl _) _ _⟩
set_option maxRecDepth 100000 in
set_option maxHeartbeats 2000000 in
theorem simpLaw_no (n : Int) (c : Bool) (w : World) (h : n < 0 ∨ 127 < n) (ht : PW w) :
    Calls Tryd.prog 7 #[.int .i64 n, .bool c] w fun e w' => e = .returned (.bool true) ∧ Below w.heap.size w w' := by
  have T0 := Lib.hid ht
  have H := Lib.hid h
  clear ht
  go_enter Tryd.func7, Tryd.ntmps7
  go_wp2_with fail
  refine (simple_bad n c _ H.out).mono ?_
  rintro e w1 ⟨rfl, hb⟩
  have B1 := Lib.hid (((Bel.refl w).up hb).alloc (.cells #[.int .i64 0, .int .i64 0, .int .i64 0] 23))
  have T1 := Lib.hid ((T0.out.below hb).below ((Below.refl _ _).alloc (Nat.le_refl _) (.cells #[.int .i64 0, .int .i64 0, .int .i64 0] 23)))
  have X1 := Tri.new w1 (.int .i64 0) (.int .i64 0) (.int .i64 0) 23 w1.heap.size rfl
  clear hb T0
  rcases h with h | h
  all_goals
    go_wp2_with fail
    refine (known_any _ T1.out).mono ?_
    rintro e w2 ⟨rfl, hb⟩
    have B2 := Lib.hid (B1.out.up hb)
    have X2 := X1.up hb
    clear hb T1 B1 X1
    obtain ⟨x0, x1, x2, x3, x4, x5, x6⟩ := id X2
    go_wp2_with fail
    go_ret
    exact ⟨rfl, B2.out.out⟩
set_option maxRecDepth 100000 in
set_option maxHeartbeats 2000000 in
theorem simpLaw_yes (n : Int) (c : Bool) (w : World) (n0 : 0 ≤ n) (n1 : n ≤ 127) (ht : PW w) :
    Calls Tryd.prog 7 #[.int .i64 n, .bool c] w fun e w' => e = .returned (.bool true) ∧ Below w.heap.size w w' := by
  have T0 := Lib.hid ht
  clear ht
  go_enter Tryd.func7, Tryd.ntmps7
  go_wp2_with fail
  refine (simple_ok n c _ n0 n1 T0.out.t).mono ?_
  rintro e w1 ⟨rfl, hb⟩
  have hR := refSimple_any n c
  generalize simpP n c = P at *
  have B1 := Lib.hid (((Bel.refl w).up hb).alloc (.cells #[.int .i64 P.1, .int .i64 P.2.1, .int .i64 P.2.2] 23))
  have T1 := Lib.hid ((T0.out.below hb).below ((Below.refl _ _).alloc (Nat.le_refl _) (.cells #[.int .i64 P.1, .int .i64 P.2.1, .int .i64 P.2.2] 23)))
  have X1 := Tri.new w1 (.int .i64 P.1) (.int .i64 P.2.1) (.int .i64 P.2.2) 23 w1.heap.size rfl
  have HR := Lib.hid hR
  clear hb T0 hR
  go_wp2_with fail
  refine Qt.regionAll (by kernel_rfl) (by kernel_rfl) ?_
  intro T f F hne
  have HB := Lib.hid (fun g => B1.out.up (F.below g))
  have HT := Lib.hid (fun g => T1.out.below (F.below g))
  have HX := fun g => X1.up (F.below g)
  have ax := fun g => (HX g).c0; have ay := fun g => (HX g).c1; have az := fun g => (HX g).c2
  repeat (go_big_quiet_step (first | (go_at_call 13; exact F.call (known_any _ (HT.out _))) | (go_at_call 25; exact F.call (HR.out _ n0 n1))))
  refine wpQuiet_nil ?_
  rintro _ ⟨g, rfl⟩
  have B2 := Lib.hid (HB.out g)
  go_wp2_with fail
  go_ret
  exact ⟨by simp, B2.out.out⟩
theorem law_PitchSimple (n : Int) (c : Bool) (w : World) (ht : PW w) :
    Calls Tryd.prog 7 #[.int .i64 n, .bool c] w fun e w' => e = .returned (.bool true) ∧ Below w.heap.size w w' := by
  rcases Int.lt_or_le n 0 with h | h
  · exact simpLaw_no n c w (.inl h) ht
  · rcases Int.lt_or_le 127 n with h2 | h2
    · exact simpLaw_no n c w (.inr h2) ht
    · exact simpLaw_yes n c w h h2 ht
end Go.Proofs.YtolfgomlokpopaaDoor
