/- Accidentals: Check of the reference. -/
import Derived.Test.YthmdjpfjaojihaaDoorAm
namespace Go.Proofs.YthmdjpfjaojihaaDoor
open Go.RowKit
set_option linter.unusedVariables false
set_option linter.unusedSimpArgs false

theorem err_pitch {last t s a o v : Int} {h : Bool} {X : Int} (ht : last ≤ t) (hp : s < 0 ∨ 6 < s ∨ a < -2 ∨ 2 < a ∨ o < -1 ∨ 9 < o) : (if errN last ⟨t, s, a, o, h, v⟩ = 0 then X else errN last ⟨t, s, a, o, h, v⟩) = 18 := by
  have e : errN last ⟨t, s, a, o, h, v⟩ = 18 := by
    unfold errN
    simp only
    rw [if_neg (by omega)]
    by_cases hs : Pos s o
    · obtain ⟨h0, h1, h2, h3⟩ := id hs
      rw [if_neg (Decidable.not_not.2 hs), if_pos (by omega)]
    · rw [if_pos hs]
  rw [e]
  rfl
theorem err_show {last t s a o v : Int} {h : Bool} {X : Int} (ht : last ≤ t) (hp : Pos s o) (a0 : -2 ≤ a) (a1 : a ≤ 2) (hv : v < 0 ∨ 2 < v) : (if errN last ⟨t, s, a, o, h, v⟩ = 0 then X else errN last ⟨t, s, a, o, h, v⟩) = 11 := by
  have e : errN last ⟨t, s, a, o, h, v⟩ = 11 := by
    unfold errN
    simp only
    rw [if_neg (by omega), if_neg (Decidable.not_not.2 hp), if_neg (by omega), if_pos hv]
  rw [e]
  rfl
theorem err_none {last t s a o v : Int} {h : Bool} {X : Int} (ht : last ≤ t) (hp : Pos s o) (a0 : -2 ≤ a) (a1 : a ≤ 2) (v0 : 0 ≤ v) (v1 : v ≤ 2) : (if errN last ⟨t, s, a, o, h, v⟩ = 0 then X else errN last ⟨t, s, a, o, h, v⟩) = X := by
  have e : errN last ⟨t, s, a, o, h, v⟩ = 0 := by
    unfold errN
    simp only
    rw [if_neg (by omega), if_neg (Decidable.not_not.2 hp), if_neg (by omega), if_neg (by omega)]
  rw [e, if_pos rfl]
set_option maxRecDepth 100000 in
set_option maxHeartbeats 2000000 in
theorem checkR_lo (f : Int) (n cap : Nat) (ad : Option Addr) (w : World) (h : f < -7) :
    Calls Tryd.prog 13 #[.int .i64 f, .slice ad n cap] w fun e w' => e = .returned (.int .i64 2) ∧ Below w.heap.size w w' := by
  go_enter Tryd.func13, Tryd.ntmps13
  go_wp2_with fail
  go_ret
  exact ⟨rfl, Below.refl _ _⟩
set_option maxRecDepth 100000 in
set_option maxHeartbeats 2000000 in
theorem checkR_hi (f : Int) (n cap : Nat) (ad : Option Addr) (w : World) (h0 : -7 ≤ f) (h : 7 < f) :
    Calls Tryd.prog 13 #[.int .i64 f, .slice ad n cap] w fun e w' => e = .returned (.int .i64 2) ∧ Below w.heap.size w w' := by
  go_enter Tryd.func13, Tryd.ntmps13
  go_wp2_with fail
  go_ret
  exact ⟨rfl, Below.refl _ _⟩
set_option maxRecDepth 100000 in
set_option maxHeartbeats 8000000 in
theorem checkR_in (f : Int) (L : List Nt) (ad : Option Addr) (cap : Nat) (w : World) (hf : Sg f) (hl : L.length ≤ 30) (h : NtAt w ad L) :
    Calls Tryd.prog 13 #[.int .i64 f, .slice ad L.length cap] w fun e w' => e = .returned (.int .i64 (errL 0 L)) ∧ Below w.heap.size w w' := by
  have HA := Lib.hid h
  have HE := Lib.hid (show errL 0 L = errL 0 (L.drop 0) by rw [List.drop_zero])
  have hc : ¬ 2560 < L.length := by omega
  have hc2 : ¬ (2560 : Int) < (L.length : Int) := by omega
  obtain ⟨f0, f1⟩ := hf
  clear h
  have fd0 : decide (f < -7) = false := by simp; omega
  have fd1 : decide (7 < f) = false := by simp; omega
  obtain ⟨E, hE⟩ : ∃ E, errL 0 L = E := ⟨_, rfl⟩
  rw [hE] at HE
  rw [hE]
  clear hE
  have B0 := Lib.hid (Bel.refl w)
  go_enter Tryd.func13, Tryd.ntmps13
  go_wp2_with fail
  go_loopg [5] L.length (fun gm i wr => ∃ (k : Nat) (last : Int), k ≤ L.length ∧ gm = L.length - k ∧ i = .int .i64 (k : Int) ∧ 0 ≤ last ∧ Hid (k = 0 → last = 0) ∧ Hid (∀ m, 0 < k → L[k - 1]? = some m → last = m.t) ∧ Hid (E = errL last (L.drop k)) ∧ Hid (Bel w wr))
  case atStart => exact ⟨0, 0, by omega, by omega, rfl, by omega, Lib.hid (fun _ => rfl), Lib.hid (fun _ h => absurd h (by omega)), HE, B0⟩
  case round =>
    obtain ⟨k, last, hk, rfl, rfl, hla, HZ, HM, HL, HB⟩ := hrel
    clear HE B0
    by_cases hlt : k < L.length
    · obtain ⟨n, hn⟩ : ∃ n, L[k]? = some n := ⟨_, List.getElem?_eq_getElem hlt⟩
      obtain ⟨b, off, rfl, hc6⟩ := (HA.out.up HB.out.out) k n hn
      have HD := Lib.hid (HL.out.trans (errL_drop hn))
      have HM2 := Lib.hid (show ∀ m, 0 < k + 1 → L[k + 1 - 1]? = some m → n.t = m.t from fun m _ hm => by
        rw [Nat.add_sub_cancel, hn] at hm
        cases hm
        rfl)
      rcases n with ⟨t, s, a, o, hd, v⟩
      obtain ⟨c0, c1, c2, c3, c4, c5⟩ := hc6
      simp only at c0 c1 c2 c3 c4 c5 HD HM2
      clear hn HL
      by_cases t0 : t < 0
      · have HR := Lib.hid (show E = 25 by rw [HD.out]; simp [errN, show t < last by omega])
        go_wp2_with fail
        try (go_quiet (fail); go_wp2_with fail)
        go_ret
        exact ⟨by rw [HR.out]; rfl, by first | exact HB.out.out | exact below_drewN HB.out.out _⟩
      · have t0d : decide (t < 0) = false := by simpa using t0
        by_cases k0 : k = 0
        · have hlt2 : last ≤ t := by have := HZ.out k0; omega
          have hk0 : decide (0 < k) = false := by simp; omega
          clear k0 HZ
          go_wp2_with fail
          go_quiet (fail)
          have HB1 := Lib.hid (show Bel w (wr.drewN nq) from Bel.drewN HB.out nq)
          have C1 := Lib.hid (show N6 (wr.drewN nq) b (off + k * 6) ⟨t, s, a, o, hd, v⟩ from ⟨c0, c1, c2, c3, c4, c5⟩)
          clear c0 c1 c2 c3 c4 c5 HB
          generalize wr.drewN nq = w1 at *
          have B2 := Lib.hid (HB1.out.alloc (.cells #[.int .i64 s, .int .i64 a, .int .i64 o] 52))
          have C2 := Lib.hid (C1.out.up ((Below.refl _ w1).alloc (Nat.le_refl _) (.cells #[.int .i64 s, .int .i64 a, .int .i64 o] 52)))
          obtain ⟨c0, c1, c2, c3, c4, c5⟩ := C1.out
          obtain ⟨d0, d1, d2, d3, d4, d5⟩ := C2.out
          simp only at c0 c1 c2 c3 c4 c5 d0 d1 d2 d3 d4 d5
          by_cases p0 : s < 0
          · have p0d : decide (s < 0) = true := by simpa using p0
            have HR := Lib.hid (show E = 18 by rw [HD.out]; exact err_pitch (by omega) (by omega))
            go_wp2_with fail
            go_ret
            exact ⟨by rw [HR.out]; rfl, by first | exact B2.out.out | exact below_drewN B2.out.out _⟩
          · have p0d : decide (s < 0) = false := by simpa using p0
            by_cases p1 : 6 < s
            · have p1d : decide (6 < s) = true := by simpa using p1
              have HR := Lib.hid (show E = 18 by rw [HD.out]; exact err_pitch (by omega) (by omega))
              go_wp2_with fail
              go_ret
              exact ⟨by rw [HR.out]; rfl, by first | exact B2.out.out | exact below_drewN B2.out.out _⟩
            · have p1d : decide (6 < s) = false := by simpa using p1
              by_cases p2 : a < -2
              · have p2d : decide (a < -2) = true := by simpa using p2
                have HR := Lib.hid (show E = 18 by rw [HD.out]; exact err_pitch (by omega) (by omega))
                go_wp2_with fail
                go_ret
                exact ⟨by rw [HR.out]; rfl, by first | exact B2.out.out | exact below_drewN B2.out.out _⟩
              · have p2d : decide (a < -2) = false := by simpa using p2
                by_cases p3 : 2 < a
                · have p3d : decide (2 < a) = true := by simpa using p3
                  have HR := Lib.hid (show E = 18 by rw [HD.out]; exact err_pitch (by omega) (by omega))
                  go_wp2_with fail
                  go_ret
                  exact ⟨by rw [HR.out]; rfl, by first | exact B2.out.out | exact below_drewN B2.out.out _⟩
                · have p3d : decide (2 < a) = false := by simpa using p3
                  by_cases p4 : o < -1
                  · have p4d : decide (o < -1) = true := by simpa using p4
                    have HR := Lib.hid (show E = 18 by rw [HD.out]; exact err_pitch (by omega) (by omega))
                    go_wp2_with fail
                    go_ret
                    exact ⟨by rw [HR.out]; rfl, by first | exact B2.out.out | exact below_drewN B2.out.out _⟩
                  · have p4d : decide (o < -1) = false := by simpa using p4
                    by_cases p5 : 9 < o
                    · have p5d : decide (9 < o) = true := by simpa using p5
                      have HR := Lib.hid (show E = 18 by rw [HD.out]; exact err_pitch (by omega) (by omega))
                      go_wp2_with fail
                      go_ret
                      exact ⟨by rw [HR.out]; rfl, by first | exact B2.out.out | exact below_drewN B2.out.out _⟩
                    · have p5d : decide (9 < o) = false := by simpa using p5
                      by_cases v0 : v < 0
                      · have v0d : decide (v < 0) = true := by simpa using v0
                        have HR := Lib.hid (show E = 11 by rw [HD.out]; exact err_show (by omega) ⟨by omega, by omega, by omega, by omega⟩ (by omega) (by omega) (by omega))
                        go_wp2_with fail
                        try (go_quiet (fail); go_wp2_with fail)
                        go_ret
                        exact ⟨by rw [HR.out]; rfl, by first | exact B2.out.out | exact below_drewN B2.out.out _⟩
                      · have v0d : decide (v < 0) = false := by simpa using v0
                        by_cases v1 : 2 < v
                        · have v1d : decide (2 < v) = true := by simpa using v1
                          have HR := Lib.hid (show E = 11 by rw [HD.out]; exact err_show (by omega) ⟨by omega, by omega, by omega, by omega⟩ (by omega) (by omega) (by omega))
                          go_wp2_with fail
                          try (go_quiet (fail); go_wp2_with fail)
                          go_ret
                          exact ⟨by rw [HR.out]; rfl, by first | exact B2.out.out | exact below_drewN B2.out.out _⟩
                        · have v1d : decide (2 < v) = false := by simpa using v1
                          have HR := Lib.hid (show E = errL t (L.drop (k + 1)) by rw [HD.out]; exact err_none (by omega) ⟨by omega, by omega, by omega, by omega⟩ (by omega) (by omega) (by omega) (by omega))
                          go_wp2_with fail
                          try (go_quiet (fail); go_wp2_with fail)
                          go_roundg (L.length - (k + 1))
                          case measure => omega
                          case rel => exact ⟨k + 1, t, by omega, rfl, by go_num, by omega, Lib.hid (fun h => absurd h (by omega)), HM2, HR, by first | exact B2 | exact Lib.hid (Bel.drewN B2.out _)⟩
        · have hk0 : decide (0 < k) = true := by simp; omega
          obtain ⟨m, hm⟩ : ∃ m, L[k - 1]? = some m := ⟨_, List.getElem?_eq_getElem (by omega)⟩
          obtain ⟨b', off', hbo, hm6⟩ := (HA.out.up HB.out.out) (k - 1) m hm
          cases hbo
          have hml := HM.out m (by omega) hm
          have m0 := hm6.c0
          rw [← hml] at m0
          have hki : ((k - 1 : Nat) : Int) = (k : Int) - 1 := by omega
          have hkn : ¬ k = 0 := k0
          clear hm6 hm HZ hml k0
          by_cases t1 : t < last
          · have t1d : decide (t < last) = true := by simpa using t1
            have HR := Lib.hid (show E = 25 by rw [HD.out]; simp [errN, t1])
            go_wp2_with fail
            go_quiet (fail)
            go_wp2_with fail
            go_ret
            exact ⟨by rw [HR.out]; rfl, by first | exact HB.out.out | exact below_drewN HB.out.out _⟩
          · have t1d : decide (t < last) = false := by simpa using t1
            have hlt2 : last ≤ t := by omega
            go_wp2_with fail
            go_quiet (fail)
            have HB1 := Lib.hid (show Bel w (wr.drewN nq) from Bel.drewN HB.out nq)
            have C1 := Lib.hid (show N6 (wr.drewN nq) b (off + k * 6) ⟨t, s, a, o, hd, v⟩ from ⟨c0, c1, c2, c3, c4, c5⟩)
            clear c0 c1 c2 c3 c4 c5 HB
            generalize wr.drewN nq = w1 at *
            have B2 := Lib.hid (HB1.out.alloc (.cells #[.int .i64 s, .int .i64 a, .int .i64 o] 52))
            have C2 := Lib.hid (C1.out.up ((Below.refl _ w1).alloc (Nat.le_refl _) (.cells #[.int .i64 s, .int .i64 a, .int .i64 o] 52)))
            obtain ⟨c0, c1, c2, c3, c4, c5⟩ := C1.out
            obtain ⟨d0, d1, d2, d3, d4, d5⟩ := C2.out
            simp only at c0 c1 c2 c3 c4 c5 d0 d1 d2 d3 d4 d5
            by_cases p0 : s < 0
            · have p0d : decide (s < 0) = true := by simpa using p0
              have HR := Lib.hid (show E = 18 by rw [HD.out]; exact err_pitch (by omega) (by omega))
              go_wp2_with fail
              go_ret
              exact ⟨by rw [HR.out]; rfl, by first | exact B2.out.out | exact below_drewN B2.out.out _⟩
            · have p0d : decide (s < 0) = false := by simpa using p0
              by_cases p1 : 6 < s
              · have p1d : decide (6 < s) = true := by simpa using p1
                have HR := Lib.hid (show E = 18 by rw [HD.out]; exact err_pitch (by omega) (by omega))
                go_wp2_with fail
                go_ret
                exact ⟨by rw [HR.out]; rfl, by first | exact B2.out.out | exact below_drewN B2.out.out _⟩
              · have p1d : decide (6 < s) = false := by simpa using p1
                by_cases p2 : a < -2
                · have p2d : decide (a < -2) = true := by simpa using p2
                  have HR := Lib.hid (show E = 18 by rw [HD.out]; exact err_pitch (by omega) (by omega))
                  go_wp2_with fail
                  go_ret
                  exact ⟨by rw [HR.out]; rfl, by first | exact B2.out.out | exact below_drewN B2.out.out _⟩
                · have p2d : decide (a < -2) = false := by simpa using p2
                  by_cases p3 : 2 < a
                  · have p3d : decide (2 < a) = true := by simpa using p3
                    have HR := Lib.hid (show E = 18 by rw [HD.out]; exact err_pitch (by omega) (by omega))
                    go_wp2_with fail
                    go_ret
                    exact ⟨by rw [HR.out]; rfl, by first | exact B2.out.out | exact below_drewN B2.out.out _⟩
                  · have p3d : decide (2 < a) = false := by simpa using p3
                    by_cases p4 : o < -1
                    · have p4d : decide (o < -1) = true := by simpa using p4
                      have HR := Lib.hid (show E = 18 by rw [HD.out]; exact err_pitch (by omega) (by omega))
                      go_wp2_with fail
                      go_ret
                      exact ⟨by rw [HR.out]; rfl, by first | exact B2.out.out | exact below_drewN B2.out.out _⟩
                    · have p4d : decide (o < -1) = false := by simpa using p4
                      by_cases p5 : 9 < o
                      · have p5d : decide (9 < o) = true := by simpa using p5
                        have HR := Lib.hid (show E = 18 by rw [HD.out]; exact err_pitch (by omega) (by omega))
                        go_wp2_with fail
                        go_ret
                        exact ⟨by rw [HR.out]; rfl, by first | exact B2.out.out | exact below_drewN B2.out.out _⟩
                      · have p5d : decide (9 < o) = false := by simpa using p5
                        by_cases v0 : v < 0
                        · have v0d : decide (v < 0) = true := by simpa using v0
                          have HR := Lib.hid (show E = 11 by rw [HD.out]; exact err_show (by omega) ⟨by omega, by omega, by omega, by omega⟩ (by omega) (by omega) (by omega))
                          go_wp2_with fail
                          try (go_quiet (fail); go_wp2_with fail)
                          go_ret
                          exact ⟨by rw [HR.out]; rfl, by first | exact B2.out.out | exact below_drewN B2.out.out _⟩
                        · have v0d : decide (v < 0) = false := by simpa using v0
                          by_cases v1 : 2 < v
                          · have v1d : decide (2 < v) = true := by simpa using v1
                            have HR := Lib.hid (show E = 11 by rw [HD.out]; exact err_show (by omega) ⟨by omega, by omega, by omega, by omega⟩ (by omega) (by omega) (by omega))
                            go_wp2_with fail
                            try (go_quiet (fail); go_wp2_with fail)
                            go_ret
                            exact ⟨by rw [HR.out]; rfl, by first | exact B2.out.out | exact below_drewN B2.out.out _⟩
                          · have v1d : decide (2 < v) = false := by simpa using v1
                            have HR := Lib.hid (show E = errL t (L.drop (k + 1)) by rw [HD.out]; exact err_none (by omega) ⟨by omega, by omega, by omega, by omega⟩ (by omega) (by omega) (by omega) (by omega))
                            go_wp2_with fail
                            try (go_quiet (fail); go_wp2_with fail)
                            go_roundg (L.length - (k + 1))
                            case measure => omega
                            case rel => exact ⟨k + 1, t, by omega, rfl, by go_num, by omega, Lib.hid (fun h => absurd h (by omega)), HM2, HR, by first | exact B2 | exact Lib.hid (Bel.drewN B2.out _)⟩
    · obtain rfl : k = L.length := by omega
      have HR := Lib.hid (show E = 0 by rw [HL.out, List.drop_length]; rfl)
      go_wp2_with fail
      go_ret
      exact ⟨by rw [HR.out]; rfl, HB.out.out⟩
theorem checkR_ok (f : Int) (L : List Nt) (ad : Option Addr) (cap : Nat) (w : World) (hl : L.length ≤ 30) (h : NtAt w ad L) :
    Calls Tryd.prog 13 #[.int .i64 f, .slice ad L.length cap] w fun e w' => e = .returned (.int .i64 (if Sg f then errL 0 L else 2)) ∧ Below w.heap.size w w' := by
  by_cases hf : Sg f
  · rw [if_pos hf]; exact checkR_in f L ad cap w hf hl h
  · rw [if_neg hf]
    rcases not_sg hf with h1 | ⟨h1, h2⟩
    · exact checkR_lo f L.length cap ad w h1
    · exact checkR_hi f L.length cap ad w h1 h2
end Go.Proofs.YthmdjpfjaojihaaDoor
