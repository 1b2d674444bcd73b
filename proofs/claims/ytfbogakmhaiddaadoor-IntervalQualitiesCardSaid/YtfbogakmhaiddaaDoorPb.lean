/- Pitches: the pitch with a number and an alteration. -/
import Derived.Test.YtfbogakmhaiddaaDoorPa
import Derived.Deep.LoopGhost
namespace Go.Proofs.YtfbogakmhaiddaaDoor
open Go.RowKit
set_option linter.unusedVariables false
set_option linter.unusedSimpArgs false

theorem floor_neg {x y : Int} (hy : 1 ≤ y) (h : x.tmod y < 0) : x.tdiv y - 1 = x / y := by
  have := Int.tdiv_eq_ediv (a := x) (b := y)
  have h2 := Int.tmod_eq_emod (a := x) (b := y)
  split at this
  · rw [if_pos (by assumption)] at h2
    have := Int.emod_nonneg x (show y ≠ 0 by omega)
    omega
  · rw [Int.sign_eq_one_of_pos (by omega)] at this
    omega
theorem floor_pos {x y : Int} (hy : 1 ≤ y) (h : ¬ x.tmod y < 0) : x.tdiv y = x / y := by
  have := Int.tdiv_eq_ediv (a := x) (b := y)
  have h2 := Int.tmod_eq_emod (a := x) (b := y)
  have h3 := Int.emod_lt_of_pos x (show 0 < y by omega)
  split at this
  · omega
  · rename_i hs
    rw [if_neg hs] at h2
    exfalso
    omega
set_option maxHeartbeats 400000 in
theorem floor_same (x y : Int) (w : World) (x0 : -4503599627370496 ≤ x) (x1 : x ≤ 4503599627370496) (y0 : 1 ≤ y) (y1 : y ≤ 4503599627370496) :
    Calls Tryd.prog 81 #[.int .i64 x, .int .i64 y] w fun e w' => e = .returned (.int .i64 (x / y)) ∧ w = w' := by
  have hy : ((y : Int) == 0) = false := by simp; omega
  have b1 : -4503599627370496 ≤ x.tdiv y ∧ x.tdiv y ≤ 4503599627370496 := by
    have := Int.natAbs_tdiv_le_natAbs x y
    omega
  obtain ⟨b1, b2⟩ := b1
  by_cases h : x.tmod y < 0
  · have e := Lib.hid (floor_neg y0 h)
    go_enter Tryd.func81, Tryd.ntmps81
    go_wp2
    go_ret
    exact ⟨ret_int e.out, rfl⟩
  · have e := Lib.hid (floor_pos y0 h)
    go_enter Tryd.func81, Tryd.ntmps81
    go_wp2
    go_ret
    exact ⟨ret_int e.out, rfl⟩

/-- the step with a number of semitones above C, or -1 -/
def stepOf (r : Int) : Int := if r = 0 then 0 else if r = 2 then 1 else if r = 4 then 2 else if r = 5 then 3 else if r = 7 then 4 else if r = 9 then 5 else if r = 11 then 6 else -1
/-- the step of the pitch with a number and an alteration, or -1 -/
def altS (n a : Int) : Int := if 0 ≤ (n - a) / 12 then stepOf ((n - a) - 12 * ((n - a) / 12)) else -1
def altO (n a : Int) : Int := (n - a) / 12 - 1
theorem alt_pit {n a : Int} (n0 : 0 ≤ n) (n1 : n ≤ 127) (a0 : -2 ≤ a) (a1 : a ≤ 2) (k v : Int) (k0 : 0 ≤ k) (k1 : k ≤ 6) (hv : stepI k = v) (h : n - a - 12 * ((n - a) / 12) = v) (q0 : 0 ≤ (n - a) / 12) : Pit k a (altO n a) := by
  have hn : numP k a (altO n a) = n := by unfold numP altO; rw [hv]; omega
  exact ⟨k0, k1, a0, a1, by unfold altO; omega, by unfold altO; omega, by omega, by omega⟩
theorem alt_no {n a : Int} (k : Int) (q0 : ¬ 0 ≤ (n - a) / 12) : ¬ Pit k a (altO n a) := by
  intro h
  have := h.o0
  unfold altO at this
  omega
def boxP (k a o : Int) : Obj := .cells #[.int .i64 k, .int .i64 a, .int .i64 o] 41
/-- three cells of a block -/
structure Tri (w : World) (b : Nat) (x y z : Value) : Prop where
  lt : b < w.heap.size
  c0 : w.cell? ⟨b, 0, none⟩ = some x
  c1 : w.cell? ⟨b, 1, none⟩ = some y
  c2 : w.cell? ⟨b, 2, none⟩ = some z
  f0 : w.frozen? ⟨b, 0, none⟩ = false
  f1 : w.frozen? ⟨b, 1, none⟩ = false
  f2 : w.frozen? ⟨b, 2, none⟩ = false
theorem Tri.up {w w' : World} {b : Nat} {x y z : Value} (h : Tri w b x y z) (hb : Below w.heap.size w w') : Tri w' b x y z :=
  ⟨Nat.lt_of_lt_of_le h.lt hb.size, (hb.cell (p := ⟨b, 0, none⟩) h.lt).trans h.c0, (hb.cell (p := ⟨b, 1, none⟩) h.lt).trans h.c1, (hb.cell (p := ⟨b, 2, none⟩) h.lt).trans h.c2, (hb.frozen (p := ⟨b, 0, none⟩) h.lt).trans h.f0, (hb.frozen (p := ⟨b, 1, none⟩) h.lt).trans h.f1, (hb.frozen (p := ⟨b, 2, none⟩) h.lt).trans h.f2⟩
theorem Tri.alloc {w : World} {b : Nat} {x y z : Value} (h : Tri w b x y z) (o : Obj) : Tri (w.alloc o) b x y z := h.up ((Below.refl _ _).alloc (Nat.le_refl _) o)
theorem Tri.drewN {w : World} {b : Nat} {x y z : Value} (h : Tri w b x y z) (n : Nat) : Tri (w.drewN n) b x y z := ⟨h.lt, h.c0, h.c1, h.c2, h.f0, h.f1, h.f2⟩
theorem Tri.new (w : World) (x y z : Value) (t : TypeId) (n : Nat) (hn : n = w.heap.size) : Tri (w.alloc (.cells #[x, y, z] t)) n x y z := by
  subst hn
  exact ⟨by simp, by simp, by simp, by simp, by simp [go_sem], by simp [go_sem], by simp [go_sem]⟩
theorem Tri.store {w : World} {b : Nat} {x y z u v t : Value} (h : Tri w b x y z) : Tri (((w.setCell ⟨b, 0, none⟩ u).setCell ⟨b, 1, none⟩ v).setCell ⟨b, 2, none⟩ t) b u v t := by
  obtain ⟨h0, h1, h2, h3, h4, h5, h6⟩ := h
  exact ⟨by simpa [go_sem] using h0, by simp [go_sem, *], by simp [go_sem, *], by simp [go_sem, *], by simp [go_sem, *], by simp [go_sem, *], by simp [go_sem, *]⟩
/-- Nothing that was there in w has turned in W. -/
def Bel (w W : World) : Prop := Below w.heap.size w W
theorem Bel.refl (w : World) : Bel w w := Below.refl _ _
theorem Bel.alloc {w W : World} (h : Bel w W) (o : Obj) : Bel w (W.alloc o) := Below.alloc h (Below.size h) o
theorem Bel.up {w W w' : World} (h : Bel w W) (hb : Below W.heap.size W w') : Bel w w' := Below.trans h (hb.mono (Below.size h))
theorem Bel.set {w W : World} (h : Bel w W) {b : Nat} (hn : w.heap.size ≤ b) (o : Nat) (v : Value) : Bel w (W.setCell ⟨b, o, none⟩ v) := Below.setCell h (p := ⟨b, o, none⟩) hn v
theorem Bel.drewN {w W : World} (h : Bel w W) (n : Nat) : Bel w (W.drewN n) := ⟨h.os, h.tape, h.output, h.size, h.block⟩
theorem Bel.out {w W : World} (h : Bel w W) : Below w.heap.size w W := h
theorem Bel.size {w W : World} (h : Bel w W) : w.heap.size ≤ W.heap.size := Below.size h
theorem idx_0 (w : World) : (Instr.index 90 (.agg #[.int .i64 0, .int .i64 2, .int .i64 4, .int .i64 5, .int .i64 7, .int .i64 9, .int .i64 11]) (.int .i64 0)).run Tryd.prog w = .ok (.int .i64 0) w := by kernel_rfl
theorem idx_1 (w : World) : (Instr.index 90 (.agg #[.int .i64 0, .int .i64 2, .int .i64 4, .int .i64 5, .int .i64 7, .int .i64 9, .int .i64 11]) (.int .i64 1)).run Tryd.prog w = .ok (.int .i64 2) w := by kernel_rfl
theorem idx_2 (w : World) : (Instr.index 90 (.agg #[.int .i64 0, .int .i64 2, .int .i64 4, .int .i64 5, .int .i64 7, .int .i64 9, .int .i64 11]) (.int .i64 2)).run Tryd.prog w = .ok (.int .i64 4) w := by kernel_rfl
theorem idx_3 (w : World) : (Instr.index 90 (.agg #[.int .i64 0, .int .i64 2, .int .i64 4, .int .i64 5, .int .i64 7, .int .i64 9, .int .i64 11]) (.int .i64 3)).run Tryd.prog w = .ok (.int .i64 5) w := by kernel_rfl
theorem idx_4 (w : World) : (Instr.index 90 (.agg #[.int .i64 0, .int .i64 2, .int .i64 4, .int .i64 5, .int .i64 7, .int .i64 9, .int .i64 11]) (.int .i64 4)).run Tryd.prog w = .ok (.int .i64 7) w := by kernel_rfl
theorem idx_5 (w : World) : (Instr.index 90 (.agg #[.int .i64 0, .int .i64 2, .int .i64 4, .int .i64 5, .int .i64 7, .int .i64 9, .int .i64 11]) (.int .i64 5)).run Tryd.prog w = .ok (.int .i64 9) w := by kernel_rfl
theorem idx_6 (w : World) : (Instr.index 90 (.agg #[.int .i64 0, .int .i64 2, .int .i64 4, .int .i64 5, .int .i64 7, .int .i64 9, .int .i64 11]) (.int .i64 6)).run Tryd.prog w = .ok (.int .i64 11) w := by kernel_rfl
theorem idx_any (k : Nat) (hk : k < 7) (w : World) : (Instr.index 90 (.agg #[.int .i64 0, .int .i64 2, .int .i64 4, .int .i64 5, .int .i64 7, .int .i64 9, .int .i64 11]) (.int .i64 (k : Int))).run Tryd.prog w = .ok (.int .i64 (stepI (k : Int))) w := by
  match k, hk with
  | 0, _ => exact idx_0 w
  | 1, _ => exact idx_1 w
  | 2, _ => exact idx_2 w
  | 3, _ => exact idx_3 w
  | 4, _ => exact idx_4 w
  | 5, _ => exact idx_5 w
  | 6, _ => exact idx_6 w
theorem floor_as (x q : Int) (w : World) (h : Hid (x / 12 = q)) (x0 : -1000000 ≤ x) (x1 : x ≤ 1000000) :
    Calls Tryd.prog 81 #[.int .i64 x, .int .i64 12] w fun e w' => e = .returned (.int .i64 q) ∧ w = w' := by
  have h' : x / 12 = q := h
  rw [← h']
  exact floor_same x 12 w (by omega) (by omega) (by omega) (by omega)
/-- the pitch with a number and an alteration, or none -/
def AltPost (n a : Int) (w : World) (e : Ending) (w' : World) : Prop :=
  (∃ k o : Int, Pit k a o ∧ numP k a o = n ∧ e = .returned (.tuple #[.agg #[.int .i64 k, .int .i64 a, .int .i64 o], .bool true]) ∧ Below w.heap.size w w') ∨
  ((∀ k o : Int, Pit k a o → numP k a o ≠ n) ∧ e = .returned (.tuple #[.agg #[.int .i64 0, .int .i64 0, .int .i64 0], .bool false]) ∧ Below w.heap.size w w')
structure AR (w wr : World) : Prop where
  bel : Bel w wr
  r : Tri wr w.heap.size (.int .i64 0) (.int .i64 0) (.int .i64 0)
  t : PT wr
theorem AR.up {w wr w' : World} (h : AR w wr) (hb : Below wr.heap.size wr w') : AR w w' := ⟨h.bel.up hb, h.r.up hb, h.t.below hb⟩
theorem AR.alloc {w wr : World} (h : AR w wr) (o : Obj) : AR w (wr.alloc o) := ⟨h.bel.alloc o, h.r.alloc o, h.t.alloc o⟩
theorem none_alt {n a q : Int} (hq : (n - a) / 12 = q) (h : ∀ j : Nat, j < 7 → stepI (j : Int) = n - a - 12 * q → ¬ Pit (j : Int) a (q - 1)) : ∀ k o : Int, Pit k a o → numP k a o ≠ n := by
  intro k o hp hn
  have b := step_bd hp.s0 hp.s1
  have e : q = o + 1 := by unfold numP at hn; omega
  have k0 := hp.s0; have k1 := hp.s1
  obtain ⟨j, rfl⟩ := Int.eq_ofNat_of_zero_le k0
  refine h j (by omega) (by unfold numP at hn; omega) ?_
  rw [e, show o + 1 - 1 = o by omega]
  exact hp

set_option maxRecDepth 100000 in
set_option maxHeartbeats 2000000 in
theorem altered_any (n a : Int) (w : World) (n0 : 0 ≤ n) (n1 : n ≤ 127) (a0 : -2 ≤ a) (a1 : a ≤ 2) (ht : PT w) :
    Calls Tryd.prog 72 #[.int .i64 n, .int .i64 a] w (AltPost n a w) := by
  have HT := Lib.hid ht
  clear ht
  obtain ⟨q, hq⟩ : ∃ q, (n - a) / 12 = q := ⟨_, rfl⟩
  have q0 : -1 ≤ q := by omega
  have q1 : q ≤ 11 := by omega
  have HQ := Lib.hid hq
  clear hq
  have HA := Lib.hid (show AR w (w.alloc (.cells #[.int .i64 0, .int .i64 0, .int .i64 0] 41)) from ⟨(Bel.refl w).alloc _, Tri.new _ _ _ _ _ _ rfl, HT.out.alloc _⟩)
  obtain ⟨c0, c1, c2, c3, c4, c5, c6⟩ := HA.out.t.nums
  go_enter Tryd.func72, Tryd.ntmps72
  go_wp2_with fail
  refine (floor_as _ q _ HQ (by omega) (by omega)).mono ?_
  rintro e w1 ⟨rfl, rfl⟩
  go_wp2_with fail
  clear c0 c1 c2 c3 c4 c5 c6
  go_loopg [15] 7 (fun g i wr => ∃ k : Nat, k ≤ 7 ∧ g = 7 - k ∧ i = .int .i64 k ∧ Hid (∀ j : Nat, j < k → stepI (j : Int) = n - a - 12 * q → ¬ Pit (j : Int) a (q - 1)) ∧ Hid (AR w wr))
  case atStart => exact ⟨0, by omega, by omega, rfl, Lib.hid (fun j hj => absurd hj (by omega)), HA⟩
  case round =>
    obtain ⟨k, hk, rfl, rfl, HN, HR⟩ := hrel
    clear HA
    by_cases hlt : k < 7
    · have ik := idx_any k hlt
      have HX := Lib.hid (HR.out.alloc (.cells #[.int .i64 (k : Int), .int .i64 a, .int .i64 (q - 1)] 41))
      have X1 := Tri.new wr (.int .i64 (k : Int)) (.int .i64 a) (.int .i64 (q - 1)) 41 wr.heap.size rfl
      by_cases hv : stepI (k : Int) = n - a - 12 * q
      · have hv' : (stepI (k : Int) == n - a - 12 * q) = true := by simpa using hv
        by_cases hp : Pit (k : Int) a (q - 1)
        · have HP := Lib.hid hp
          have HV := Lib.hid hv
          clear hp hv
          go_wp2_with fail
          refine (check_ok _ _ _ _ HP.out HX.out.t).mono ?_
          rintro e w2 ⟨rfl, hb⟩
          have H2 := Lib.hid (HX.out.up hb)
          have X2 := X1.up hb
          clear hb HX X1
          obtain ⟨x0, x1, x2, x3, x4, x5, x6⟩ := id X2
          obtain ⟨r0, r1, r2, r3, r4, r5, r6⟩ := id H2.out.r
          go_wp2_with fail
          have Tf := H2.out.r.store (u := .int .i64 (k : Int)) (v := .int .i64 a) (t := .int .i64 (q - 1))
          exact bodyPost_ret (v := .tuple #[.agg #[.int .i64 (k : Int), .int .i64 a, .int .i64 (q - 1)], .bool true]) (by simp [results, Tryd.results72, go_sem, Tf.c0, Tf.c1, Tf.c2]) rfl (.inl ⟨_, _, HP.out, by have := HV.out; have := HQ.out; unfold numP; omega, rfl, ((H2.out.bel.set (Nat.le_refl _) _ _).set (Nat.le_refl _) _ _).set (Nat.le_refl _) _ _⟩)
        · have HP := Lib.hid hp
          clear hp hv
          go_wp2_with fail
          refine (check_bad _ _ _ _ HP.out HX.out.t).mono ?_
          rintro e w2 ⟨rfl, hb⟩
          have H2 := Lib.hid (HX.out.up hb)
          clear hb HX X1
          go_wp2_with fail
          go_roundg (7 - (k + 1))
          case measure => omega
          case rel => exact ⟨k + 1, by omega, rfl, by go_num, Lib.hid (fun j hj hs => by
            by_cases e : j = k
            · subst e; exact HP.out
            · exact HN.out j (by omega) hs), H2⟩
      · have hv' : (stepI (k : Int) == n - a - 12 * q) = false := by simpa using hv
        have HV := Lib.hid hv
        clear hv X1
        go_wp2_with fail
        go_roundg (7 - (k + 1))
        case measure => omega
        case rel => exact ⟨k + 1, by omega, rfl, by go_num, Lib.hid (fun j hj hs => by
            by_cases e : j = k
            · subst e; exact absurd hs HV.out
            · exact HN.out j (by omega) hs), HX⟩
    · obtain rfl : k = 7 := by omega
      obtain ⟨r0, r1, r2, r3, r4, r5, r6⟩ := id HR.out.r
      go_wp2_with fail
      have Tf := HR.out.r.store (u := .int .i64 0) (v := .int .i64 0) (t := .int .i64 0)
      exact bodyPost_ret (v := .tuple #[.agg #[.int .i64 0, .int .i64 0, .int .i64 0], .bool false]) (by simp [results, Tryd.results72, go_sem, Tf.c0, Tf.c1, Tf.c2]) rfl (.inr ⟨none_alt HQ.out HN.out, rfl, ((HR.out.bel.set (Nat.le_refl _) _ _).set (Nat.le_refl _) _ _).set (Nat.le_refl _) _ _⟩)
end Go.Proofs.YtfbogakmhaiddaaDoor
