/- The walk of Sum. -/
import Derived.Test.YtknojlccfjdpeaaDoorSm
import Derived.Test.YtknojlccfjdpeaaDoorTb
import Derived.Deep.LoopGhost
namespace Go.Proofs.YtknojlccfjdpeaaDoor
open Go.RowKit
set_option linter.unusedVariables false
set_option linter.unusedSimpArgs false

/-- the world of the sum: the result's block, the sum's -/
structure SR (w wr : World) (N D : Int) : Prop where
  bel : Bel w wr
  r : Two wr w.heap.size (.int .i64 0) (.int .i64 0)
  s : Two wr (w.heap.size + 1) (.int .i64 N) (.int .i64 (D - 1))
theorem SR.up {w wr w' : World} {N D : Int} (h : SR w wr N D) (hb : Below wr.heap.size wr w') : SR w w' N D := ⟨h.bel.up hb, h.r.up hb, h.s.up hb⟩
theorem SR.alloc {w wr : World} {N D : Int} (h : SR w wr N D) (o : Obj) : SR w (wr.alloc o) N D := ⟨h.bel.alloc o, h.r.alloc o, h.s.alloc o⟩
theorem SR.store {w wr : World} {N D : Int} (h : SR w wr N D) (u v : Int) : SR w ((wr.setCell ⟨w.heap.size + 1, 0, none⟩ (.int .i64 u)).setCell ⟨w.heap.size + 1, 1, none⟩ (.int .i64 (v - 1))) u v :=
  ⟨(h.bel.set (by omega) _ _).set (by omega) _ _, (h.r.set (by omega)).set (by omega), h.s.store⟩

theorem sum_nil (w : World) :
    Calls Tryd.prog 14 #[.slice none 0 0] w fun e w' => e = .returned (.tuple #[.agg #[.int .i64 0, .int .i64 0], .int .i64 0]) ∧ Below w.heap.size w w' := by
  go_enter Tryd.func14, Tryd.ntmps14
  go_wp2_with fail
  refine wp_loop_rounds 1 ?_
  rw [rounds_succ]
  go_wp2
  have Tf := (((Two.new w (.int .i64 0) (.int .i64 0) 24 w.heap.size rfl).alloc (.cells #[.int .i64 0, .int .i64 0] 24)).store (u := .int .i64 0) (v := .int .i64 0))
  exact bodyPost_ret (v := .tuple #[.agg #[.int .i64 0, .int .i64 0], .int .i64 0]) (by simp [results, Tryd.results14, go_sem, Tf.c0, Tf.c1]) rfl ⟨rfl, (show Bel w _ by repeat (first | exact Bel.refl _ | refine Bel.set ?_ (Nat.le_refl _) _ _ | refine Bel.alloc ?_ _))⟩

/-- one element more -/
def NextIs (L : List (Int × Int)) (k : Nat) (N D E : Int) : Prop := Rat1.accN (L.take (k + 1)) = N ∧ Rat1.accD (L.take (k + 1)) = D ∧ Rat1.accE (L.take (k + 1)) = E
theorem acc_next {L : List (Int × Int)} {k : Nat} {p : Int × Int} (hp : L[k]? = some p) (h : Rat1.accE (L.take k) = 0) :
    NextIs L k (Rat1.ofN (Rat1.accN (L.take k) * p.2 + p.1 * Rat1.accD (L.take k)) (Rat1.accD (L.take k) * p.2)) (Rat1.ofD (Rat1.accN (L.take k) * p.2 + p.1 * Rat1.accD (L.take k)) (Rat1.accD (L.take k) * p.2)) (Rat1.ofE (Rat1.accN (L.take k) * p.2 + p.1 * Rat1.accD (L.take k)) (Rat1.accD (L.take k) * p.2)) := by
  have e : L.take (k + 1) = L.take k ++ [p] := by
    rw [List.take_add_one, hp]; rfl
  unfold NextIs
  rw [e]
  exact Rat1.acc_ok h
theorem acc_fin {L : List (Int × Int)} {k : Nat} {N D E : Int} (h : NextIs L k N D E) (hz : E ≠ 0) : Rat1.accN L = 0 ∧ Rat1.accD L = 1 ∧ Rat1.accE L = E := by
  obtain ⟨h1, h2, h3⟩ := h
  have e := Rat1.acc_stuck L (k + 1) (by rw [h3]; exact hz)
  have e3 : Rat1.accE L = E := by unfold Rat1.accE; rw [e]; exact h3
  rcases Rat1.acc_cases L with c | c
  · rw [e3] at c; exact absurd c.1 hz
  · exact ⟨c.2.1, c.2.2, e3⟩
set_option maxRecDepth 100000 in
set_option maxHeartbeats 2000000 in
theorem sum_any (L : List (Int × Int)) (b cap : Nat) (w : World) (hb : b < w.heap.size) (hn : L.length ≤ 20)
    (hc : Hid (∀ k p, L[k]? = some p → Rat1.Low p.1 p.2 ∧ w.cell? ⟨b, k * 2, none⟩ = some (.int .i64 p.1) ∧ w.cell? ⟨b, k * 2 + 1, none⟩ = some (.int .i64 (p.2 - 1)))) :
    Calls Tryd.prog 14 #[.slice (some ⟨b, 0, none⟩) L.length cap] w fun e w' => e = .returned (.tuple #[.agg #[.int .i64 (Rat1.accN L), .int .i64 (Rat1.accD L - 1)], .int .i64 (Rat1.accE L)]) ∧ Below w.heap.size w w' := by
  go_enter Tryd.func14, Tryd.ntmps14
  go_wp2_with fail
  have S1 := Lib.hid (show SR w ((w.alloc (Obj.cells #[.int .i64 0, .int .i64 0] 24)).alloc (Obj.cells #[.int .i64 0, .int .i64 0] 24)) (Rat1.accN (L.take 0)) (Rat1.accD (L.take 0)) from
    ⟨((Bel.refl w).alloc _).alloc _, (Two.new _ _ _ _ _ rfl).alloc _, Two.new _ _ _ _ _ (by simp)⟩)
  go_loopg [10] L.length (fun g i wr => ∃ k : Nat, k ≤ L.length ∧ g = L.length - k ∧ i = .int .i64 k ∧ Hid (Rat1.accE (L.take k) = 0) ∧ Hid (SR w wr (Rat1.accN (L.take k)) (Rat1.accD (L.take k))))
  case atStart => exact ⟨0, by omega, by omega, rfl, Lib.hid rfl, S1⟩
  case round =>
    obtain ⟨k, hk, rfl, rfl, HE, HS⟩ := hrel
    clear S1
    by_cases hlt : k < L.length
    · obtain ⟨p, hp⟩ : ∃ p, L[k]? = some p := ⟨_, List.getElem?_eq_getElem hlt⟩
      obtain ⟨lp, c0, c1⟩ := hc.out k p hp
      have e0 := (HS.out.bel.out.cell (p := ⟨b, k * 2, none⟩) hb).trans c0
      have e1 := (HS.out.bel.out.cell (p := ⟨b, k * 2 + 1, none⟩) hb).trans c1
      clear c0 c1
      obtain ⟨s0, s1, s2, s3, s4⟩ := id HS.out.s
      have LP := Lib.hid lp
      have HP := Lib.hid hp
      clear lp hp
      go_wp2_with fail
      have lo : Rat1.Low (Rat1.accN (L.take k)) (Rat1.accD (L.take k)) := by
        rcases Rat1.acc_cases (L.take k) with h | h
        · exact h.2
        · exact absurd HE.out h.1
      refine (add_D _ _ _ _ _ lo LP.out).mono ?_
      rintro e w1 ⟨rfl, hb1⟩
      have HS1 := Lib.hid ((HS.out.alloc (.cells #[.int .i64 p.1, .int .i64 (p.2 - 1)] 24)).up hb1)
      have HA := Lib.hid (acc_next HP.out HE.out)
      clear hb1 HS s0 s1 s2 s3 s4 e0 e1 lo
      obtain ⟨s0, s1, s2, s3, s4⟩ := id HS1.out.s
      obtain ⟨r0, r1, r2, r3, r4⟩ := id HS1.out.r
      generalize hN' : Rat1.ofN (Rat1.accN (L.take k) * p.2 + p.1 * Rat1.accD (L.take k)) (Rat1.accD (L.take k) * p.2) = N' at *
      generalize hD' : Rat1.ofD (Rat1.accN (L.take k) * p.2 + p.1 * Rat1.accD (L.take k)) (Rat1.accD (L.take k) * p.2) = D' at *
      generalize hE' : Rat1.ofE (Rat1.accN (L.take k) * p.2 + p.1 * Rat1.accD (L.take k)) (Rat1.accD (L.take k) * p.2) = E' at *
      clear hN' hD' hE'
      by_cases hz : E' = 0
      · subst hz
        go_wp2_with fail
        go_roundg (L.length - (k + 1))
        case measure => omega
        case rel => exact ⟨k + 1, by omega, rfl, by go_num, Lib.hid HA.out.2.2, Lib.hid (by rw [HA.out.1, HA.out.2.1]; exact HS1.out.store _ _)⟩
      · have hz' : (E' != 0) = true := by simpa using hz
        have HF := Lib.hid (acc_fin HA.out hz)
        clear hz
        go_wp2_with fail
        have Tf := ((HS1.out.store N' D').r.store (u := .int .i64 0) (v := .int .i64 0))
        refine bodyPost_ret (v := .tuple #[.agg #[.int .i64 0, .int .i64 0], .int .i64 E']) (by simp [results, Tryd.results14, go_sem, Tf.c0, Tf.c1]) rfl ⟨?_, (((HS1.out.store N' D').bel.set (Nat.le_refl _) _ _).set (Nat.le_refl _) _ _)⟩
        rw [HF.out.1, HF.out.2.1, HF.out.2.2]
        rfl
    · obtain rfl : k = L.length := by omega
      obtain ⟨s0, s1, s2, s3, s4⟩ := id HS.out.s
      obtain ⟨r0, r1, r2, r3, r4⟩ := id HS.out.r
      have HL := Lib.hid (List.take_length (l := L))
      go_wp2_with fail
      have Tf := (HS.out.r.store (u := .int .i64 (Rat1.accN L)) (v := .int .i64 (Rat1.accD L - 1)))
      refine bodyPost_ret (v := .tuple #[.agg #[.int .i64 (Rat1.accN L), .int .i64 (Rat1.accD L - 1)], .int .i64 0]) (by simp [results, Tryd.results14, go_sem, Tf.c0, Tf.c1]) rfl ⟨?_, (HS.out.bel.set (Nat.le_refl _) _ _).set (Nat.le_refl _) _ _⟩
      have e := HE.out
      rw [HL.out] at e
      rw [e]
end Go.Proofs.YtknojlccfjdpeaaDoor
