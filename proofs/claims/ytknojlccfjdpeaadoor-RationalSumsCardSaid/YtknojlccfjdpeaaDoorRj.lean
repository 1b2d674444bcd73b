/- The walks of the best approximation: the neighbours. -/
import Derived.Test.YtknojlccfjdpeaaDoorRi
namespace Go.Proofs.YtknojlccfjdpeaaDoor
open Go.RowKit
set_option linter.unusedVariables false
set_option linter.unusedSimpArgs false

def NbPost (N D most : Int) (w : World) (e : Ending) (w' : World) : Prop :=
  ∃ p q p' q', Rat1.Nb N D most p q p' q' ∧ e = .returned (.tuple #[.agg #[.int .i64 p, .int .i64 (q - 1)], .agg #[.int .i64 p', .int .i64 (q' - 1)]]) ∧ Below w.heap.size w w'

def CfAt (N D most ln lD nu de n d : Int) : Prop := Rat1.CfAny N D most ln lD nu de n d ∧ (-1073741824 ≤ ln ∧ ln ≤ 1073741824 ∧ 0 ≤ lD ∧ lD ≤ 1073741824 ∧ -1073741824 ≤ nu ∧ nu ≤ 1073741824 ∧ 0 ≤ de ∧ de ≤ most) ∧ -1073741824 ≤ n ∧ n ≤ 1073741824 ∧ 1 ≤ d ∧ d ≤ 1073741824
theorem cfAt {N D most ln lD nu de n d : Int} (F : Rat1.Fix N D most) (h : Rat1.CfAny N D most ln lD nu de n d) : CfAt N D most ln lD nu de n d := by
  refine ⟨h, ?_⟩
  have := F.n0; have := F.n1; have := F.d1; have := F.m1; have := F.md
  rcases h with ⟨rfl, rfl, rfl, rfl, rfl, rfl⟩ | h
  · omega
  · have := h.de1; have := h.dem; have := h.lD0; have := h.lDe; have := h.d1; have := h.dn; have := h.nD; have := h.nu0; have := h.nu1; have := h.ln0; have := h.ln1
    omega
set_option maxHeartbeats 1000000 in
theorem neighbours_any (a m most : Int) (w : World) (F0 : Rat1.Fix a (m + 1) most) :
    Calls Tryd.prog 36 #[.agg #[.int .i64 a, .int .i64 m], .int .i64 most] w (NbPost a (m + 1) most w) := by
  have a0 := F0.n0; have a1 := F0.n1; have m1 := F0.d1; have t1 := F0.m1; have tm := F0.md
  have HF := Lib.hid F0
  clear F0
  go_enter Tryd.func36, Tryd.ntmps36
  go_wp2
  refine Qt.regionAll (by kernel_rfl) (by kernel_rfl) ?_
  intro T f F hne
  have hc := F.cell
  have hf := F.frozen
  repeat (go_big_quiet_step (first | (go_at_call 19; exact F.call (den_any _ _ _ (by omega) (by omega)))))
  refine wpQuiet_nil ?_
  rintro _ ⟨t, rfl⟩
  have HB := Lib.hid (((by repeat (first | exact Below.refl _ _ | refine Below.setCell ?_ (by simp <;> omega) _ | refine Below.alloc ?_ (by simp <;> omega) _ | exact Below.trans (by repeat (first | exact Below.refl _ _ | refine Below.alloc ?_ (by simp <;> omega) _)) (Below.mono (F.below t) (by simp <;> omega))))) : Below w.heap.size w (f t))
  go_wp2
  have FT := Lib.hid F
  clear F hc hf
  have f3 : ∀ o, (f t).frozen? ⟨w.heap.size + 1, o, none⟩ = false := fun o => by rw [FT.out.frozen t _ _ (by simp)]; simp [go_sem]
  have f4 : ∀ o, (f t).frozen? ⟨w.heap.size + 1 + 1, o, none⟩ = false := fun o => by rw [FT.out.frozen t _ _ (by simp)]; simp [go_sem]
  have c3 : (f t).cell? ⟨w.heap.size + 1, 0, none⟩ = some (.int .i64 0) := by rw [FT.out.cell t _ _ (by simp)]; simp [go_sem]
  have c4 : (f t).cell? ⟨w.heap.size + 1, 1, none⟩ = some (.int .i64 0) := by rw [FT.out.cell t _ _ (by simp)]; simp [go_sem]
  have c5 : (f t).cell? ⟨w.heap.size + 1 + 1, 0, none⟩ = some (.int .i64 0) := by rw [FT.out.cell t _ _ (by simp)]; simp [go_sem]
  have c6 : (f t).cell? ⟨w.heap.size + 1 + 1, 1, none⟩ = some (.int .i64 0) := by rw [FT.out.cell t _ _ (by simp)]; simp [go_sem]
  clear FT hne
  generalize f t = W at *
  clear f
  go_loop [6, 7, 8, 9, 10, 11] (fun s6 s7 s8 s9 s10 s11 => ∃ ln lD nu de n d : Int, CfAt a (m + 1) most ln lD nu de n d ∧ s6 = .int .i64 ln ∧ s7 = .int .i64 lD ∧ s8 = .int .i64 nu ∧ s9 = .int .i64 de ∧ s10 = .int .i64 n ∧ s11 = .int .i64 d) (fun _ _ _ _ _ s11 => (intOf s11).toNat)
  case atStart => exact ⟨0, 1, 1, 0, a, m + 1, cfAt HF.out (.inl ⟨rfl, rfl, rfl, rfl, rfl, rfl⟩), rfl, rfl, rfl, rfl, rfl, rfl⟩
  case round =>
    obtain ⟨ln, lD, nu, de, n, d, ⟨hcf, ⟨l0, l1, l2, l3, n0, n1, e0, e1⟩, b0, b1, b2, b3⟩, rfl, rfl, rfl, rfl, rfl, rfl⟩ := hrel
    have hq := div_bd b0 b1 b2
    obtain ⟨q0, q1⟩ := hq
    by_cases hs : lD + n / d * de ≤ most
    · have hnew := Rat1.cf_step HF.out hcf hs
      have hat := cfAt HF.out (.inr hnew)
      have hm : n - n / d * d < d := by have := hnew.dn; omega
      have HN := Lib.hid hat
      obtain ⟨_, ⟨g0, g1, g2, g3, g4, g5, g6, g7⟩, g8, g9, g10, g11⟩ := hat
      clear hnew hcf
      have ⟨p1, p2⟩ := Rat1.prod_bd (a := n / d) (b := de) q0 q1 (by omega) (by omega)
      have ⟨p3, p4⟩ := Rat1.prod_bd (a := n / d) (b := nu) q0 q1 (by omega) (by omega)
      have ⟨p5, p6⟩ := Rat1.prod_bd (a := n / d) (b := d) q0 q1 (by omega) (by omega)
      go_wp2_with fail
      refine (floor_same n d _ (by omega) (by omega) (by omega) (by omega)).mono ?_
      rintro e w1 ⟨rfl, rfl⟩
      go_wp2
      go_round
      case rel => exact ⟨_, _, _, _, _, _, HN.out, rfl, rfl, rfl, rfl, rfl, rfl⟩
      case measure => simp [intOf]; omega
    · obtain ⟨h1, h2, hnb⟩ := Rat1.cf_end HF.out hcf (by omega)
      have HN := Lib.hid hnb
      have g1 := hnb.q1; have g2 := hnb.qm; have g3 := hnb.q1'; have g4 := hnb.qm'; have g5 := hnb.p0; have g6 := hnb.p1; have g7 := hnb.p0'; have g8 := hnb.p1'
      have ⟨p1, p2⟩ := Rat1.prod_bd (a := n / d) (b := de) q0 q1 (by omega) (by omega)
      have r0 : 0 ≤ (most - lD) / de := Int.ediv_nonneg (by omega) (by omega)
      have r1 : (most - lD) / de ≤ 1073741824 := Int.le_trans (Int.ediv_le_self _ (by omega)) (by omega)
      have ⟨p3, p4⟩ := Rat1.prod_bd (a := (most - lD) / de) (b := de) (by omega) r1 (by omega) (by omega)
      have ⟨p5, p6⟩ := Rat1.prod_bd (a := (most - lD) / de) (b := nu) (by omega) r1 (by omega) (by omega)
      have hz : (de == 0) = false := by simp; omega
      clear hcf hnb
      go_wp2_with fail
      refine (floor_same n d _ (by omega) (by omega) (by omega) (by omega)).mono ?_
      rintro e w1 ⟨rfl, rfl⟩
      go_wp2
      exact bodyPost_ret (v := .tuple #[.agg #[.int .i64 _, .int .i64 _], .agg #[.int .i64 _, .int .i64 _]]) (by simp [results, Tryd.results36, go_sem, c3, c4, c5, c6]) rfl ⟨_, _, _, _, HN.out, rfl, by repeat (first | exact HB.out | refine Below.setCell ?_ (by simp <;> omega) _)⟩
end Go.Proofs.YtknojlccfjdpeaaDoor
