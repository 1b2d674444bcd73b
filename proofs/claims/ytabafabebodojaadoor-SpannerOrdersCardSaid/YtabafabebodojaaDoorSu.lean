/- Spans: the reference's Check. -/
import Derived.Test.YtabafabebodojaaDoorSk
import Derived.Test.YtabafabebodojaaDoorSj
import Derived.Test.YtabafabebodojaaDoorSh
namespace Go.Proofs.YtabafabebodojaaDoor
open Go.RowKit
set_option linter.unusedVariables false
set_option linter.unusedSimpArgs false

theorem er_zero {f : Nat → Sp} {k : Nat} (h : proper (f k) = 0) (hk : isK (f k).k = true) (hc : ∀ j, j < k → cf (f k) (f j) = false) : er f k = 0 := by
  unfold er
  rw [if_neg (by omega), if_neg]
  intro e
  obtain ⟨j, hj, h2⟩ := (cl_iff f k hk).1 e
  rw [hc j hj] at h2
  cases h2
theorem er_26 {f : Nat → Sp} {k j : Nat} (h : proper (f k) = 0) (hk : isK (f k).k = true) (hj : j < k) (hc : cf (f k) (f j) = true) : er f k = 26 := by
  unfold er
  rw [if_neg (by omega), if_pos ((cl_iff f k hk).2 ⟨j, hj, hc⟩)]
theorem proper_isK {s : Sp} (h : proper s = 0) : isK s.k = true := by
  cases e : isK s.k
  · simp [proper, e] at h
  · rfl
set_option maxRecDepth 100000 in
set_option maxHeartbeats 8000000 in
theorem rcheck_ok (n cap : Nat) (ad : Option Addr) (f : Nat → Sp) (r1 r2 : Int) (w : World) (hn : n ≤ 4096) (h : SpAt w ad n f) (hr : fst f n 0 = (r1, r2)) :
    Calls Tryd.prog 24 #[.slice ad n cap] w fun e w' => e = .returned (.tuple #[.int .i64 r1, .int .i64 r2]) ∧ Below w.heap.size w w' := by
  have HR := Lib.hid h
  have HX0 := Lib.hid hr
  clear h hr
  have h5 : decide (4096 < (n : Int)) = false := decide_eq_false (by omega)
  go_enter Tryd.func24, Tryd.ntmps24
  go_wp2_with fail
  go_loopg [4] n (fun gm i wr => ∃ k : Nat, k ≤ n ∧ gm = n - k ∧ i = .int .i64 (k : Int) ∧ Hid (∀ j, j < k → er f j = 0) ∧ Hid (Bel w wr))
  case atStart => exact ⟨0, by omega, by omega, rfl, Lib.hid (fun j hj => absurd hj (by omega)), Lib.hid (Bel.refl w)⟩
  case round =>
    obtain ⟨k, hk, rfl, rfl, HN, HB⟩ := hrel
    by_cases hlt : k < n
    · obtain ⟨b, off, rfl, c0, c1, c2, c3, c4, c5, c6, c7, c8⟩ := (HR.out.up HB.out.out) k hlt
      have hkd : decide ((k : Int) < (n : Int)) = true := decide_eq_true (by omega)
      by_cases hp : proper (f k) = 0
      · have HP := Lib.hid hp
        clear hp
        go_wp2_with fail
        refine (rproper_at (f k) 0 _ HP.out).mono ?_
        rintro e w1 ⟨rfl, hb⟩
        have B1 := Lib.hid (HB.out.up hb)
        clear hb HB c0 c1 c2 c3 c4 c5 c6 c7 c8
        go_wp2_with fail
        go_loopg [6] k (fun gq q wr => ∃ p : Nat, p ≤ k ∧ gq = k - p ∧ q = .int .i64 (p : Int) ∧ Hid (∀ t, t < p → cf (f k) (f t) = false) ∧ Hid (Bel w wr))
        case atStart => exact ⟨0, by omega, by omega, rfl, Lib.hid (fun t ht => absurd ht (by omega)), B1⟩
        case round =>
          clear B1
          obtain ⟨p, hpk, rfl, rfl, HC, HB⟩ := hrel
          obtain ⟨W0, hW0, B0⟩ : ∃ W0, W0 = _ ∧ Hid (Bel w W0) := ⟨_, rfl, HB⟩
          subst hW0
          clear HB
          by_cases hpl : p < k
          · have hpd : decide ((p : Int) < (k : Int)) = true := decide_eq_true (by omega)
            obtain ⟨b1, off1, e1, c0, c1, c2, c3, c4, c5, c6, c7, c8⟩ := (HR.out.up B0.out.out) k hlt
            cases e1
            obtain ⟨b1, off1, e1, d0, d1, d2, d3, d4, d5, d6, d7, d8⟩ := (HR.out.up B0.out.out) p (by omega)
            cases e1
            obtain ⟨r, hr⟩ : ∃ r, cf (f k) (f p) = r := ⟨_, rfl⟩
            have HX := Lib.hid hr
            clear hr
            go_wp2_with fail
            refine Qt.regionAll (by kernel_rfl) (by kernel_rfl) ?_
            intro T f_ F hne
            have RB := Lib.hid (fun g => B0.out.up (F.below g))
            have R_c0 := fun g => cell_up (F.below g) c0
            have R_c1 := fun g => cell_up (F.below g) c1
            have R_c2 := fun g => cell_up (F.below g) c2
            have R_c3 := fun g => cell_up (F.below g) c3
            have R_c4 := fun g => cell_up (F.below g) c4
            have R_c5 := fun g => cell_up (F.below g) c5
            have R_c6 := fun g => cell_up (F.below g) c6
            have R_c7 := fun g => cell_up (F.below g) c7
            have R_c8 := fun g => cell_up (F.below g) c8
            have R_d0 := fun g => cell_up (F.below g) d0
            have R_d1 := fun g => cell_up (F.below g) d1
            have R_d2 := fun g => cell_up (F.below g) d2
            have R_d3 := fun g => cell_up (F.below g) d3
            have R_d4 := fun g => cell_up (F.below g) d4
            have R_d5 := fun g => cell_up (F.below g) d5
            have R_d6 := fun g => cell_up (F.below g) d6
            have R_d7 := fun g => cell_up (F.below g) d7
            have R_d8 := fun g => cell_up (F.below g) d8
            repeat (go_big_quiet_step (first | (go_at_call 20; with_reducible exact F.call (rcf_at (f k) (f p) r _ HX.out))))
            refine wpQuiet_nil ?_
            rintro _ ⟨gT, rfl⟩
            have B1 := Lib.hid (RB.out gT)
            have n_c0 := R_c0 gT
            have n_c1 := R_c1 gT
            have n_c2 := R_c2 gT
            have n_c3 := R_c3 gT
            have n_c4 := R_c4 gT
            have n_c5 := R_c5 gT
            have n_c6 := R_c6 gT
            have n_c7 := R_c7 gT
            have n_c8 := R_c8 gT
            have n_d0 := R_d0 gT
            have n_d1 := R_d1 gT
            have n_d2 := R_d2 gT
            have n_d3 := R_d3 gT
            have n_d4 := R_d4 gT
            have n_d5 := R_d5 gT
            have n_d6 := R_d6 gT
            have n_d7 := R_d7 gT
            have n_d8 := R_d8 gT
            clear F RB hne B0 R_c0 c0 R_c1 c1 R_c2 c2 R_c3 c3 R_c4 c4 R_c5 c5 R_c6 c6 R_c7 c7 R_c8 c8 R_d0 d0 R_d1 d1 R_d2 d2 R_d3 d3 R_d4 d4 R_d5 d5 R_d6 d6 R_d7 d7 R_d8 d8
            generalize f_ gT = w1 at *
            clear f_
            have c0 := n_c0
            clear n_c0
            have c1 := n_c1
            clear n_c1
            have c2 := n_c2
            clear n_c2
            have c3 := n_c3
            clear n_c3
            have c4 := n_c4
            clear n_c4
            have c5 := n_c5
            clear n_c5
            have c6 := n_c6
            clear n_c6
            have c7 := n_c7
            clear n_c7
            have c8 := n_c8
            clear n_c8
            have d0 := n_d0
            clear n_d0
            have d1 := n_d1
            clear n_d1
            have d2 := n_d2
            clear n_d2
            have d3 := n_d3
            clear n_d3
            have d4 := n_d4
            clear n_d4
            have d5 := n_d5
            clear n_d5
            have d6 := n_d6
            clear n_d6
            have d7 := n_d7
            clear n_d7
            have d8 := n_d8
            clear n_d8
            clear c0 c1 c2 c3 c4 c5 c6 c7 c8 d0 d1 d2 d3 d4 d5 d6 d7 d8
            cases r
            · go_wp2_with fail
              go_roundg (k - (p + 1))
              case measure => omega
              case rel => exact ⟨p + 1, by omega, rfl, by go_num, Lib.hid (fun t ht => by
                  by_cases e : t = p
                  · subst e; exact HX.out
                  · exact HC.out t (by omega)), B1⟩
            · have hX := fst_bad (f := f) (j := k) n 0 (by omega) (by omega) (fun j _ hj => HN.out j hj) (by rw [er_26 HP.out (proper_isK HP.out) hpl HX.out]; omega)
              rw [HX0.out, er_26 HP.out (proper_isK HP.out) hpl HX.out] at hX
              obtain ⟨rfl, rfl⟩ := Prod.mk.inj hX
              clear hX
              go_wp2_with fail
              go_ret2
              exact ⟨rfl, B1.out.out⟩
          · obtain rfl : k = p := by omega
            have hE := er_zero HP.out (proper_isK HP.out) HC.out
            have HE := Lib.hid hE
            clear hE
            go_wp2_with fail
            go_roundg (n - (k + 1))
            case measure => omega
            case rel => exact ⟨k + 1, by omega, rfl, by go_num, Lib.hid (fun j hj => by
                by_cases e : j = k
                · subst e; exact HE.out
                · exact HN.out j (by omega)), B0⟩
      · obtain ⟨r, hr⟩ : ∃ r, proper (f k) = r := ⟨_, rfl⟩
        have hr0 : (r != 0) = true := by rw [← hr]; simpa using hp
        have hX : fst f n 0 = ((k : Int), r) := by
          have he : er f k = r := by unfold er; rw [if_pos hp, hr]
          rw [fst_bad (j := k) n 0 (by omega) (by omega) (fun j _ hj => HN.out j hj) (by rw [he, ← hr]; exact hp), he]
        rw [HX0.out] at hX
        obtain ⟨rfl, rfl⟩ := Prod.mk.inj hX
        have HP := Lib.hid hr
        clear hp hr hX
        go_wp2_with fail
        refine (rproper_at (f k) _ _ HP.out).mono ?_
        rintro e w1 ⟨rfl, hb⟩
        have B1 := Lib.hid (HB.out.up hb)
        clear hb HB
        go_wp2_with fail
        go_ret2
        exact ⟨rfl, B1.out.out⟩
    · obtain rfl : n = k := by omega
      have hX := fst_ok (f := f) n 0 (fun j _ hj => HN.out j (by omega))
      rw [HX0.out] at hX
      obtain ⟨rfl, rfl⟩ := Prod.mk.inj hX
      clear hX
      go_wp2_with fail
      go_ret2
      exact ⟨rfl, HB.out.out⟩
end Go.Proofs.YtabafabebodojaaDoor
