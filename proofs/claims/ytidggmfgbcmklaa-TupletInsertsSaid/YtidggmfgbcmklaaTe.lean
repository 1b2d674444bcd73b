/- Tuplets: reduce, of. -/
import Derived.Test.YtidggmfgbcmklaaTd
namespace Go.Proofs.Ytidggmfgbcmklaa
open Go.RowKit
set_option linter.unusedVariables false
set_option linter.unusedSimpArgs false

theorem gcd_turn {x y g : Nat} (h : Hid (Nat.gcd x y = g)) : Hid (Nat.gcd y (x % y) = g) := by
  have := h.out
  unfold Hid
  rw [Nat.gcd_comm x y, Nat.gcd_rec, Nat.gcd_comm] at this
  exact this
set_option maxRecDepth 100000 in
set_option maxHeartbeats 2000000 in
theorem reduce_ok (a b : Nat) (w : World) (ha : 1 ≤ a) (hb : 1 ≤ b) (ha1 : a ≤ 1099511627776) (hb1 : b ≤ 1099511627776) :
    Calls Try.prog 55 #[.int .i64 (a : Int), .int .i64 (b : Int)] w fun e w' => e = .returned (.agg #[.int .i64 ((red a b).1 : Int), .int .i64 ((red a b).2 : Int)]) ∧ Below w.heap.size w w' := by
  have B0 := Lib.hid ((Bel.refl w).alloc (.cells #[.int .i64 0, .int .i64 0] 68))
  have X0 := Duo.new w (.int .i64 0) (.int .i64 0) 68 w.heap.size rfl
  obtain ⟨r1, r2, r3, r4⟩ := red_bd ha hb
  obtain ⟨g, hg⟩ : ∃ g, g = Nat.gcd a b := ⟨_, rfl⟩
  have hgp : 1 ≤ g := by rw [hg]; exact Nat.gcd_pos_of_pos_left _ ha
  have e1 : a / g = (red a b).1 := by rw [hg]; rfl
  have e2 : b / g = (red a b).2 := by rw [hg]; rfl
  have HG := Lib.hid hg
  generalize (red a b).1 = p at *
  generalize (red a b).2 = q at *
  have hp : (a : Int) / (g : Int) = (p : Int) := by rw [← e1]; simp
  have hq : (b : Int) / (g : Int) = (q : Int) := by rw [← e2]; simp
  clear e1 e2 hg
  go_enter Try.func55, Try.ntmps55
  go_wp2_with fail
  go_loopg [5, 6] b (fun gm s t wr => ∃ x y : Nat, x ≤ 1099511627776 ∧ y ≤ 1099511627776 ∧ y = gm ∧ s = .int .i64 (x : Int) ∧ t = .int .i64 (y : Int) ∧ Hid (Nat.gcd x y = g) ∧ Hid (Bel w wr) ∧ Duo wr w.heap.size (.int .i64 0) (.int .i64 0))
  case atStart => exact ⟨a, b, by omega, by omega, rfl, rfl, rfl, HG.out.symm, B0, X0⟩
  case round =>
    clear B0 X0
    obtain ⟨x, y, hx, hy, rfl, rfl, rfl, hg, HB, HX⟩ := hrel
    obtain ⟨W0, hW0, B0, X0⟩ : ∃ W0, W0 = _ ∧ Hid (Bel w W0) ∧ Duo W0 w.heap.size (.int .i64 0) (.int .i64 0) := ⟨_, rfl, HB, HX⟩
    subst hW0
    clear HB HX
    by_cases h0 : y = 0
    · subst h0
      obtain rfl : x = g := by have := hg.out; simpa using this
      clear hg HG
      have h3 : (1 : Int) ≤ x := by omega
      have h4 : ((x : Int) == 0) = false := by simp; omega
      obtain ⟨xf0, xf1, xf2, xf3, xf4⟩ := id X0
      go_wp2_with fail
      clear xf0 xf1 xf2 xf3 xf4
      refine Qt.region 6 (by kernel_rfl) (by kernel_rfl) ?_
      intro T f F hne
      have RB := Lib.hid (fun g => B0.out.up (F.below g))
      have RX := fun g => X0.up (F.below g)
      have RX0 := fun g => (RX g).c0
      have RX1 := fun g => (RX g).c1
      simp only [List.take_succ_cons, List.take_zero, List.drop_succ_cons, List.drop_zero]
      repeat (go_big_quiet_step (fail))
      refine wpQuiet_nil ?_
      rintro _ ⟨g, rfl⟩
      have B1 := Lib.hid (RB.out g)
      have X1 := RX g
      clear F RB hne RX RX0 RX1 B0 X0
      generalize f g = w1 at *
      clear f
      obtain ⟨xf0, xf1, xf2, xf3, xf4⟩ := id X1
      go_wp2_with fail
      have Tf := X1.store (u := .int .i64 (p : Int)) (v := .int .i64 (q : Int))
      exact bodyPost_ret (v := .agg #[.int .i64 (p : Int), .int .i64 (q : Int)]) (by first | (simp [results, Try.results55, go_sem, Tf.c0, Tf.c1]; done) | (simp [results, Try.results55, go_sem, Tf.c0, Tf.c1]; omega)) rfl ⟨rfl, ((B1.out.set (Nat.le_refl _) _ _).set (Nat.le_refl _) _ _)⟩
    · have h1 : ((y : Int) == 0) = false := by simp; omega
      have h2 : ((y : Int) != 0) = true := by simp; omega
      have h3 : (1 : Int) ≤ y := by omega
      have hlt : x % y < y := Nat.mod_lt _ (by omega)
      go_wp2_with fail
      obtain ⟨xf0, xf1, xf2, xf3, xf4⟩ := id X0
      clear xf0 xf1 xf2 xf3 xf4
      refine Qt.regionAll (by kernel_rfl) (by kernel_rfl) ?_
      intro T f F hne
      have RB := Lib.hid (fun g => B0.out.up (F.below g))
      have RX := fun g => X0.up (F.below g)
      have RX0 := fun g => (RX g).c0
      have RX1 := fun g => (RX g).c1
      repeat (go_big_quiet_step (fail))
      refine wpQuiet_nil ?_
      rintro _ ⟨g, rfl⟩
      have B1 := Lib.hid (RB.out g)
      have X1 := RX g
      clear F RB hne RX RX0 RX1 B0 X0
      generalize f g = w1 at *
      clear f
      obtain ⟨xf0, xf1, xf2, xf3, xf4⟩ := id X1
      go_wp2_with fail
      go_roundg (x % y)
      case measure => omega
      case rel => exact ⟨y, x % y, by omega, by omega, rfl, rfl, by simp, gcd_turn hg, B1, X1⟩
set_option maxRecDepth 100000 in
set_option maxHeartbeats 2000000 in
theorem of_n (p q : Nat) (t : Int) (w : World) (hq : 1 ≤ q) (hp1 : p ≤ 1099511627776) (hq1 : q ≤ 1099511627776) (t0 : 0 ≤ t) (t1 : t ≤ 7741440) (hn : ¬ t % (q : Int) = 0) :
    Calls Try.prog 56 #[.agg #[.int .i64 (p : Int), .int .i64 (q : Int)], .int .i64 t] w fun e w' => e = .returned (.tuple #[.int .i64 0, .bool false]) ∧ Below w.heap.size w w' := by
  have h1 : ((q : Int) == 0) = false := by simp; omega
  have h2 : ((q : Int) != 0) = true := by simp; omega
  have h3 : (1 : Int) ≤ q := by omega
  have h4 : t.tmod (q : Int) = t % (q : Int) := Int.tmod_eq_emod_of_nonneg t0
  have h5 : t.tdiv (q : Int) = t / (q : Int) := Int.tdiv_eq_ediv_of_nonneg t0
  have h6 : (t % (q : Int) == 0) = false := by simpa using hn
  have h7 : (t % (q : Int) != 0) = true := by simpa using hn
  clear hn
  have B0 := Lib.hid ((Bel.refl w).alloc (.cells #[.int .i64 (p : Int), .int .i64 (q : Int)] 68))
  have X0 := Duo.new w (.int .i64 (p : Int)) (.int .i64 (q : Int)) 68 (w.heap.size) (by simp)
  go_enter Try.func56, Try.ntmps56
  obtain ⟨xf0, xf1, xf2, xf3, xf4⟩ := id X0
  go_wp2_with fail
  go_ret2
  exact ⟨rfl, B0.out.out⟩
set_option maxRecDepth 100000 in
set_option maxHeartbeats 2000000 in
theorem of_y (p q : Nat) (t : Int) (w : World) (hq : 1 ≤ q) (hp1 : p ≤ 1099511627776) (hq1 : q ≤ 1099511627776) (t0 : 0 ≤ t) (t1 : t ≤ 7741440) (hn : t % (q : Int) = 0) (hb : t / (q : Int) * (p : Int) ≤ 1099511627776) :
    Calls Try.prog 56 #[.agg #[.int .i64 (p : Int), .int .i64 (q : Int)], .int .i64 t] w fun e w' => e = .returned (.tuple #[.int .i64 (t / (q : Int) * (p : Int)), .bool true]) ∧ Below w.heap.size w w' := by
  have h1 : ((q : Int) == 0) = false := by simp; omega
  have h2 : ((q : Int) != 0) = true := by simp; omega
  have h3 : (1 : Int) ≤ q := by omega
  have h4 : t.tmod (q : Int) = t % (q : Int) := Int.tmod_eq_emod_of_nonneg t0
  have h5 : t.tdiv (q : Int) = t / (q : Int) := Int.tdiv_eq_ediv_of_nonneg t0
  have h8 : 0 ≤ t / (q : Int) := Int.ediv_nonneg t0 (by omega)
  have h9 : 0 ≤ t / (q : Int) * (p : Int) := Int.mul_nonneg h8 (by omega)
  have h10 : t / (q : Int) ≤ t := Int.ediv_le_self _ t0
  have B0 := Lib.hid ((Bel.refl w).alloc (.cells #[.int .i64 (p : Int), .int .i64 (q : Int)] 68))
  have X0 := Duo.new w (.int .i64 (p : Int)) (.int .i64 (q : Int)) 68 (w.heap.size) (by simp)
  go_enter Try.func56, Try.ntmps56
  obtain ⟨xf0, xf1, xf2, xf3, xf4⟩ := id X0
  go_wp2_with fail
  clear xf0 xf1 xf2 xf3 xf4
  refine Qt.regionAll (by kernel_rfl) (by kernel_rfl) ?_
  intro T f F hne
  have RB := Lib.hid (fun g => B0.out.up (F.below g))
  have RX := fun g => X0.up (F.below g)
  have RX0 := fun g => (RX g).c0
  have RX1 := fun g => (RX g).c1
  repeat (go_big_quiet_step (fail))
  refine wpQuiet_nil ?_
  rintro _ ⟨g, rfl⟩
  have B1 := Lib.hid (RB.out g)
  have X1 := RX g
  clear F RB hne RX RX0 RX1 B0 X0
  generalize f g = w1 at *
  clear f
  obtain ⟨xf0, xf1, xf2, xf3, xf4⟩ := id X1
  go_wp2_with fail
  go_ret2
  exact ⟨rfl, B1.out.out⟩
end Go.Proofs.Ytidggmfgbcmklaa
