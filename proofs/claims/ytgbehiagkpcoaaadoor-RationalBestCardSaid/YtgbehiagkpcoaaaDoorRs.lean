/- The walk of the reference's search. -/
import Derived.Test.YtgbehiagkpcoaaaDoorRr
import Derived.Test.YtgbehiagkpcoaaaDoorBo
import Derived.Test.YtgbehiagkpcoaaaDoorRqA
import Derived.Deep.LoopGhost
namespace Go.Proofs.YtgbehiagkpcoaaaDoor
open Go.RowKit
set_option linter.unusedVariables false
set_option linter.unusedSimpArgs false

/-- the world of the search: x's block, the result's, and best's -/
structure BR (w wr : World) (N D : Int) (bb : Nat) (c : Int × Int) : Prop where
  bel : Bel w wr
  x : Two wr w.heap.size (.int .i64 N) (.int .i64 D)
  r : Two wr (w.heap.size + 1) (.int .i64 0) (.int .i64 0)
  b : Two wr bb (.int .i64 c.1) (.int .i64 c.2)
  far : w.heap.size + 1 < bb

theorem BR.up {w wr w' : World} {N D : Int} {bb : Nat} {c : Int × Int} (h : BR w wr N D bb c) (hb : Below wr.heap.size wr w') : BR w w' N D bb c :=
  ⟨h.bel.up hb, h.x.up hb, h.r.up hb, h.b.up hb, h.far⟩

theorem BR.store {w wr : World} {N D : Int} {bb : Nat} {c : Int × Int} (h : BR w wr N D bb c) (u v : Int) : BR w ((wr.setCell ⟨bb, 0, none⟩ (.int .i64 u)).setCell ⟨bb, 1, none⟩ (.int .i64 v)) N D bb (u, v) := by
  have f := h.far
  exact ⟨(h.bel.set (by omega) _ _).set (by omega) _ _, (h.x.set (by omega)).set (by omega), (h.r.set (by omega)).set (by omega), h.b.store, f⟩

def innerUp (N D d K : Int) (b : Int × Int) : Nat → Int × Int
  | 0 => b
  | j + 1 => Rat1.stepB N D (innerUp N D d K b j) (K + j, d)

theorem innerUp_two (N D : Int) (n : Nat) : innerUp N D ((n : Int) + 1) (N * ((n : Int) + 1) / D) (Rat1.bestUp N D n) 2 = Rat1.bestUp N D (n + 1) := by
  simp [innerUp, Rat1.bestUp]

theorem inner_gap {N D d K : Int} (hc : Rat1.gap N D (K, d) ≤ D ∧ Rat1.gap N D (K + 1, d) ≤ D) {j : Nat} (hj : j < 2) : Rat1.gap N D (K + (j : Int), d) ≤ D := by
  rcases (show j = 0 ∨ j = 1 by omega) with rfl | rfl
  · simpa using hc.1
  · simpa using hc.2
theorem innerUp_ok {N D d K : Int} {b : Int × Int} (hc : Rat1.gap N D (K, d) ≤ D ∧ Rat1.gap N D (K + 1, d) ≤ D) (d0 : 1 ≤ d) (d1 : d ≤ 60) (hb : 1 ≤ b.2 ∧ b.2 ≤ 60 ∧ Rat1.gap N D b ≤ D) :
    ∀ j, j ≤ 2 → 1 ≤ (innerUp N D d K b j).2 ∧ (innerUp N D d K b j).2 ≤ 60 ∧ Rat1.gap N D (innerUp N D d K b j) ≤ D
  | 0, _ => hb
  | j + 1, h => by
    have ih := innerUp_ok hc d0 d1 hb j (by omega)
    rw [innerUp]
    unfold Rat1.stepB
    split
    · exact ⟨d0, d1, inner_gap hc (by omega)⟩
    · exact ih
theorem innerUp_take {N D d K : Int} {b : Int × Int} {j : Nat} (h : Rat1.gap N D (K + (j : Int), d) * (innerUp N D d K b j).2 < Rat1.gap N D (innerUp N D d K b j) * d) : innerUp N D d K b (j + 1) = (K + (j : Int), d) := by
  rw [innerUp, Rat1.stepB, if_pos (by simpa [Rat1.nearB] using h)]
theorem innerUp_leave {N D d K : Int} {b : Int × Int} {j : Nat} (h : ¬ Rat1.gap N D (K + (j : Int), d) * (innerUp N D d K b j).2 < Rat1.gap N D (innerUp N D d K b j) * d) : innerUp N D d K b (j + 1) = innerUp N D d K b j := by
  rw [innerUp, Rat1.stepB, if_neg (by simpa [Rat1.nearB] using h)]

theorem mul_bd60 {a b : Int} (a0 : -1073741824 ≤ a) (a1 : a ≤ 1073741824) (b0 : 1 ≤ b) (b1 : b ≤ 60) : -64424509440 ≤ a * b ∧ a * b ≤ 64424509440 := by
  have h1 := Int.mul_le_mul_of_nonneg_right a1 (show 0 ≤ b by omega)
  have h2 := Int.mul_le_mul_of_nonneg_right a0 (show 0 ≤ b by omega)
  constructor <;> omega
theorem div_bd60 {a D : Int} (h : -64424509440 ≤ a ∧ a ≤ 64424509440) (hD : 1 ≤ D) : -64424509440 ≤ a / D ∧ a / D ≤ 64424509440 := by
  constructor
  · refine (Int.le_ediv_iff_mul_le (by omega)).2 ?_
    omega
  · refine Int.ediv_le_of_le_mul (by omega) ?_
    omega

set_option maxRecDepth 100000 in
set_option maxHeartbeats 4000000 in
theorem bestR_any (N D most p q : Int) (w : World) (n0 : -1073741824 ≤ N) (n1 : N ≤ 1073741824) (D0 : 1 ≤ D) (D1 : D ≤ 1073741824) (m0 : 1 ≤ most) (m1 : most ≤ 60) (hbest : Hid (Rat1.bestUp N D most.toNat = (p, q) ∧ Rat1.Low p q)) :
    Calls Tryd.prog 38 #[.agg #[.int .i64 N, .int .i64 D], .int .i64 most] w fun e w' => e = .returned (.agg #[.int .i64 p, .int .i64 q]) ∧ Below w.heap.size w w' := by
  go_enter Tryd.func38, Tryd.ntmps38
  go_wp2_with fail
  refine (floorRef_any N D _ (by omega) (by omega) (by omega) (by omega)).mono ?_
  rintro e w1 ⟨rfl, hb⟩
  have B1 := Lib.hid ((((Bel.refl w).alloc _).alloc _).up hb)
  have X1 := ((Two.new w _ _ _ w.heap.size rfl).alloc _).up hb
  have R1 := (Two.new _ (.int .i64 0) (.int .i64 0) 28 (w.heap.size + 1) (by simp)).up hb
  clear hb
  obtain ⟨x1, x2, x3, x4, x5⟩ := id X1
  go_wp2_with fail
  have hD : 0 < D := by omega
  have S1 := Lib.hid (show BR w (w1.alloc (Obj.cells #[.int .i64 (N / D), .int .i64 1] 28)) N D w1.heap.size (Rat1.bestUp N D 0) from
    ⟨B1.out.alloc _, X1.alloc _, R1.alloc _, Two.new _ _ _ _ _ rfl, by have := R1.lt; omega⟩)
  have far : w.heap.size + 1 < w1.heap.size := R1.lt
  clear B1 X1 R1 x1 x2 x3 x4 x5
  generalize hb1 : w1.heap.size = bb at *
  clear hb1
  go_loopg [6, 7, 8] most.toNat (fun g s6 s7 s8 wr => ∃ n : Nat, (n : Int) ≤ most ∧ g = most.toNat - n ∧ s6 = .int .i64 ((n : Int) + 1) ∧ Hid (BR w wr N D bb (Rat1.bestUp N D n)))
  case atStart => exact ⟨0, by omega, by omega, rfl, S1⟩
  case round =>
    obtain ⟨n, hn, rfl, rfl, HB⟩ := hrel
    by_cases hlt : (n : Int) < most
    · have pb := mul_bd60 n0 n1 (b := (n : Int) + 1) (by omega) (by omega)
      have kb := div_bd60 pb D0
      have cK := Rat1.gap_floor (N := N) (d := (n : Int) + 1) hD
      obtain ⟨p1, p2⟩ := pb
      obtain ⟨k1, k2⟩ := kb
      obtain ⟨x1, x2, x3, x4, x5⟩ := id HB.out.x
      go_wp2_with fail
      refine (floorRef_any (N * ((n : Int) + 1)) D _ (by omega) (by omega) (by omega) (by omega)).mono ?_
      rintro e w2 ⟨rfl, hb⟩
      have HB2 := Lib.hid (HB.out.up hb)
      have HK := Lib.hid (And.intro cK (innerUp_two N D n))
      clear hb HB x1 x2 x3 x4 x5 cK S1
      generalize hK : N * ((n : Int) + 1) / D = K at *
      have HK2 := Lib.hid hK
      clear hK
      go_wp2_with fail
      go_loopg [8] 2 (fun g s8 wr => ∃ j : Nat, j ≤ 2 ∧ g = 2 - j ∧ s8 = .int .i64 (K + (j : Int)) ∧ Hid (BR w wr N D bb (innerUp N D ((n : Int) + 1) K (Rat1.bestUp N D n) j)))
      case atStart => exact ⟨0, by omega, rfl, by simp, HB2⟩
      case round =>
        obtain ⟨j, hj, rfl, rfl, HC⟩ := hrel
        by_cases hj2 : j < 2
        · obtain ⟨x1, x2, x3, x4, x5⟩ := id HC.out.x
          obtain ⟨y1, y2, y3, y4, y5⟩ := id HC.out.b
          go_wp2_with fail
          have ok := innerUp_ok (b := Rat1.bestUp N D n) HK.out.1 (by omega) (by omega) (by have := Rat1.bestUp_ok (N := N) hD n; omega) j hj
          have gj := inner_gap HK.out.1 hj2
          have HJ := Lib.hid (And.intro (innerUp_take (N := N) (D := D) (d := (n : Int) + 1) (K := K) (b := Rat1.bestUp N D n) (j := j)) (innerUp_leave (N := N) (D := D) (d := (n : Int) + 1) (K := K) (b := Rat1.bestUp N D n) (j := j)))
          generalize hI : innerUp N D ((n : Int) + 1) K (Rat1.bestUp N D n) j = I at *
          have HI := Lib.hid hI
          clear hI
          obtain ⟨I1, I2⟩ := I
          obtain ⟨o1, o2, o3⟩ := ok
          refine (nearR_any N D (K + (j : Int)) ((n : Int) + 1) I1 I2 _ n0 n1 D0 D1 (by omega) (by omega) o1 o2 gj o3).mono ?_
          rintro e w3 ⟨rfl, hb⟩
          have HC3 := Lib.hid (HC.out.up hb)
          clear hb HC x1 x2 x3 x4 x5 y1 y2 y3 y4 y5 gj o3
          by_cases hx : Rat1.gap N D (K + (j : Int), (n : Int) + 1) * I2 < Rat1.gap N D (I1, I2) * ((n : Int) + 1)
          · have hd : decide (Rat1.gap N D (K + (j : Int), (n : Int) + 1) * I2 < Rat1.gap N D (I1, I2) * ((n : Int) + 1)) = true := by simpa using hx
            have HN := Lib.hid (HJ.out.1 hx)
            clear hx HJ
            obtain ⟨y1, y2, y3, y4, y5⟩ := id HC3.out.b
            go_wp2
            go_roundg (2 - (j + 1))
            case measure => omega
            case rel => exact ⟨j + 1, by omega, rfl, by simp [Int.add_assoc], Lib.hid (by rw [HN.out]; exact HC3.out.store _ _)⟩
          · have hd : decide (Rat1.gap N D (K + (j : Int), (n : Int) + 1) * I2 < Rat1.gap N D (I1, I2) * ((n : Int) + 1)) = false := by simpa using hx
            have HN := Lib.hid (HJ.out.2 hx)
            clear hx HJ
            go_wp2
            go_roundg (2 - (j + 1))
            case measure => omega
            case rel => exact ⟨j + 1, by omega, rfl, by simp [Int.add_assoc], Lib.hid (by rw [HN.out]; exact HC3.out)⟩
        · obtain rfl : j = 2 := by omega
          go_wp2
          go_roundg (most.toNat - (n + 1))
          case measure => omega
          case rel => exact ⟨n + 1, by omega, rfl, by simp, Lib.hid (by rw [← HK.out.2]; exact HC.out)⟩
    · obtain rfl : most = (n : Int) := by omega
      have hpq := hbest.out.1
      rw [Int.toNat_natCast] at hpq
      have HE := Lib.hid (show BR w wr N D bb (p, q) by rw [← hpq]; exact HB.out)
      have hl := hbest.out.2
      have HL := Lib.hid (Rat1.ofQ_eq hl (show q ≠ 0 by have := hl.pos; omega) rfl)
      have l1 := hl.pos; have l2 := hl.le; have l3 := hl.num
      unfold Rat1.mx at l2 l3
      clear hpq hl hbest HB S1
      obtain ⟨x1, x2, x3, x4, x5⟩ := id HE.out.b
      obtain ⟨y1, y2, y3, y4, y5⟩ := id HE.out.r
      go_wp2_with fail
      refine (ofRef_call p q _ (by omega) (by omega) (by omega) (by omega)).mono ?_
      rintro e w2 ⟨rfl, hb⟩
      have e1 : Rat1.ofN p q = p := by unfold Rat1.ofN; rw [HL.out]
      have e2 : Rat1.ofD p q = q := by unfold Rat1.ofD; rw [HL.out]
      have e3 : Rat1.ofE p q = 0 := by unfold Rat1.ofE; rw [HL.out]
      have HE2 := Lib.hid (HE.out.up hb)
      clear HE hb x1 x2 x3 x4 x5 y1 y2 y3 y4 y5
      obtain ⟨y1, y2, y3, y4, y5⟩ := id HE2.out.r
      go_wp2_with fail
      have RR := (HE2.out.r.store (u := .int .i64 p) (v := .int .i64 q)).alloc (Obj.cells #[.int .i64 p, .int .i64 q] 28)
      exact bodyPost_ret (v := .agg #[.int .i64 p, .int .i64 q]) (by simp only [results, Tryd.results38]; simp [go_sem, RR.c0, RR.c1]) rfl ⟨rfl, (((HE2.out.bel.set (by omega) _ _).set (by omega) _ _).alloc _).out⟩
end Go.Proofs.YtgbehiagkpcoaaaDoor
