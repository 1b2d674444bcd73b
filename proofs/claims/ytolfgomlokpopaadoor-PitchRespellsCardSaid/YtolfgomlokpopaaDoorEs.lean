/- The law PitchSimple. -/
import Derived.Test.YtolfgomlokpopaaDoorEc
namespace Go.Proofs.YtolfgomlokpopaaDoor
open Go.RowKit
set_option linter.unusedVariables false
set_option linter.unusedSimpArgs false

theorem Tri.aside {w : World} {b c : Nat} {x y z u v t : Value} (h : Tri w b x y z) (hn : c ≠ b) : Tri (((w.setCell ⟨c, 0, none⟩ u).setCell ⟨c, 1, none⟩ v).setCell ⟨c, 2, none⟩ t) b x y z := by
  obtain ⟨h0, h1, h2, h3, h4, h5, h6⟩ := h
  have hn' : b ≠ c := fun e => hn e.symm
  exact ⟨by simpa [go_sem] using h0, by simp [go_sem, *], by simp [go_sem, *], by simp [go_sem, *], by simp [go_sem, *], by simp [go_sem, *], by simp [go_sem, *]⟩
/-- the pitch that is natural, or else the one with the alteration asked for -/
def altP (n a : Int) : Int × Int × Int := (pitOf n a).getD (0, 0, 0)
def simpP (n : Int) (c : Bool) : Int × Int × Int := if (pitOf n 0).isSome then altP n 0 else altP n (if c then -1 else 1)
theorem altered_opt (n a : Int) (w : World) (n0 : 0 ≤ n) (n1 : n ≤ 127) (a0 : -2 ≤ a) (a1 : a ≤ 2) (ht : PT w) :
    Calls Tryd.prog 37 #[.int .i64 n, .int .i64 a] w fun e w' => e = .returned (.tuple #[.agg #[.int .i64 (altP n a).1, .int .i64 (altP n a).2.1, .int .i64 (altP n a).2.2], .bool (pitOf n a).isSome]) ∧ Below w.heap.size w w' :=
  (altered_fun n a w n0 n1 a0 a1 ht).mono fun e w' ⟨h, hb⟩ => by
    rcases h with ⟨q, hq, he⟩ | ⟨hq, he⟩
    · exact ⟨by rw [he]; unfold altP; rw [hq]; rfl, hb⟩
    · exact ⟨by rw [he]; unfold altP; rw [hq]; rfl, hb⟩
theorem altered_opt' (n a : Int) (p : Int × Int × Int) (w : World) (n0 : 0 ≤ n) (n1 : n ≤ 127) (a0 : -2 ≤ a) (a1 : a ≤ 2) (ht : PT w) (hp : altP n a = p) :
    Calls Tryd.prog 37 #[.int .i64 n, .int .i64 a] w fun e w' => e = .returned (.tuple #[.agg #[.int .i64 p.1, .int .i64 p.2.1, .int .i64 p.2.2], .bool (pitOf n a).isSome]) ∧ Below w.heap.size w w' := by
  subst hp; exact altered_opt n a w n0 n1 a0 a1 ht
set_option maxRecDepth 100000 in
set_option maxHeartbeats 2000000 in
theorem simple_ok (n : Int) (c : Bool) (w : World) (n0 : 0 ≤ n) (n1 : n ≤ 127) (ht : PT w) :
    Calls Tryd.prog 24 #[.int .i64 n, .bool c] w fun e w' => e = .returned (.tuple #[.agg #[.int .i64 (simpP n c).1, .int .i64 (simpP n c).2.1, .int .i64 (simpP n c).2.2], .int .i64 0]) ∧ Below w.heap.size w w' := by
  have B0 := Lib.hid ((Bel.refl w).alloc (.cells #[.int .i64 0, .int .i64 0, .int .i64 0] 23))
  have T0 := Lib.hid (ht.alloc (.cells #[.int .i64 0, .int .i64 0, .int .i64 0] 23))
  have R0 := Tri.new w (.int .i64 0) (.int .i64 0) (.int .i64 0) 23 w.heap.size rfl
  clear ht
  obtain ⟨N, hN⟩ : ∃ N, (pitOf n 0).isSome = N := ⟨_, rfl⟩
  obtain ⟨P, hP⟩ : ∃ P, simpP n c = P := ⟨_, rfl⟩
  rw [hP]
  have HP := Lib.hid hP
  clear hP
  go_enter Tryd.func24, Tryd.ntmps24
  go_wp2_with fail
  refine (checkNumber_ok n _ n0 n1).mono ?_
  rintro e w1 ⟨rfl, rfl⟩
  go_wp2_with fail
  refine (altered_opt n 0 _ n0 n1 (by omega) (by omega) T0.out).mono ?_
  rintro e w1 ⟨rfl, hb⟩
  rw [hN]
  have B1 := Lib.hid (B0.out.up hb)
  have T1 := Lib.hid (T0.out.below hb)
  have R1 := R0.up hb
  clear hb B0 T0 R0
  generalize hq : altP n 0 = q at *
  have HQ := Lib.hid hq
  clear hq
  have hsz : w.heap.size < w1.heap.size := R1.lt
  have R2 := R1.alloc (.cells #[.int .i64 q.1, .int .i64 q.2.1, .int .i64 q.2.2] 23)
  have B2 := Lib.hid (B1.out.alloc (.cells #[.int .i64 q.1, .int .i64 q.2.1, .int .i64 q.2.2] 23))
  have T2 := Lib.hid (T1.out.alloc (.cells #[.int .i64 q.1, .int .i64 q.2.1, .int .i64 q.2.2] 23))
  have X2 := Tri.new w1 (.int .i64 q.1) (.int .i64 q.2.1) (.int .i64 q.2.2) 23 w1.heap.size rfl
  clear T1
  cases N
  · obtain ⟨p, hp⟩ : ∃ p, altP n (if c = true then -1 else 1) = p := ⟨_, rfl⟩
    have HE : Hid (P = p) := by have := HP.out; unfold simpP at this; rw [hN] at this; rw [← this, ← hp]; rfl
    cases c
    all_goals
      simp only [Bool.false_eq_true, if_false, if_true, reduceIte] at hp
      have HQ2 := Lib.hid hp
      clear hp
      go_wp2_with fail
      refine (altered_opt' n _ p _ n0 n1 (by omega) (by omega) T2.out HQ2.out).mono ?_
      rintro e w3 ⟨rfl, hb⟩
      have B3 := Lib.hid (B2.out.up hb)
      have R3 := R2.up hb
      have X3 := X2.up hb
      clear hb R2 B2 X2 R1 B1
      have R4 := R3.aside (c := w1.heap.size) (u := .int .i64 p.1) (v := .int .i64 p.2.1) (t := .int .i64 p.2.2) (by omega)
      have X4 := X3.store (u := .int .i64 p.1) (v := .int .i64 p.2.1) (t := .int .i64 p.2.2)
      have B4 := ((B3.out.set (b := w1.heap.size) (by omega) 0 (.int .i64 p.1)).set (b := w1.heap.size) (by omega) 1 (.int .i64 p.2.1)).set (b := w1.heap.size) (by omega) 2 (.int .i64 p.2.2)
      obtain ⟨r0, r1, r2, r3, r4, r5, r6⟩ := id R4
      obtain ⟨x0, x1, x2, x3, x4, x5, x6⟩ := id X3
      obtain ⟨y0, y1, y2, y3, y4, y5, y6⟩ := id X4
      go_wp2_with fail
      have Tf := R4.store (u := .int .i64 p.1) (v := .int .i64 p.2.1) (t := .int .i64 p.2.2)
      exact bodyPost_ret (v := .tuple #[.agg #[.int .i64 p.1, .int .i64 p.2.1, .int .i64 p.2.2], .int .i64 0]) (by simp [results, Tryd.results24, go_sem, Tf.c0, Tf.c1, Tf.c2]) rfl ⟨by rw [HE.out], ((B4.set (Nat.le_refl _) _ _).set (Nat.le_refl _) _ _).set (Nat.le_refl _) _ _⟩
  · have HE : Hid (P = q) := by have := HP.out; unfold simpP at this; rw [hN] at this; rw [← this, ← HQ.out]; rfl
    obtain ⟨r0, r1, r2, r3, r4, r5, r6⟩ := id R1
    go_wp2_with fail
    have Tf := (R1.store (u := .int .i64 q.1) (v := .int .i64 q.2.1) (t := .int .i64 q.2.2)).alloc (.cells #[.int .i64 q.1, .int .i64 q.2.1, .int .i64 q.2.2] 23)
    exact bodyPost_ret (v := .tuple #[.agg #[.int .i64 q.1, .int .i64 q.2.1, .int .i64 q.2.2], .int .i64 0]) (by simp [results, Tryd.results24, go_sem, Tf.c0, Tf.c1, Tf.c2]) rfl ⟨by rw [HE.out], (((B1.out.set (Nat.le_refl _) _ _).set (Nat.le_refl _) _ _).set (Nat.le_refl _) _ _).alloc _⟩
end Go.Proofs.YtolfgomlokpopaaDoor
