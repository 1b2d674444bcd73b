/- Accidentals: the reference's Clash. -/
import Derived.Test.YthmdjpfjaojihaaDoorAp
namespace Go.Proofs.YthmdjpfjaojihaaDoor
open Go.RowKit
set_option linter.unusedVariables false
set_option linter.unusedSimpArgs false

theorem conB_none {L : List Nt} {k : Nat} (h : ∀ (j : Nat) (m n : Nt), j < L.length → L[k]? = some m → L[j]? = some n → ¬ clN m n) : conB L k = false := by
  cases hc : conB L k with
  | false => rfl
  | true =>
    obtain ⟨q, m, n, hm, hn, hcl⟩ := conB_iff.1 hc
    exact absurd hcl (h q m n (List.getElem?_eq_some_iff.1 hn).1 hm hn)
theorem conB_some {L : List Nt} {k j : Nat} {m n : Nt} (hm : L[k]? = some m) (hn : L[j]? = some n) (h : clN m n) : conB L k = true := conB_iff.2 ⟨j, m, n, hm, hn, h⟩
set_option maxRecDepth 100000 in
set_option maxHeartbeats 4000000 in
theorem clashR_ok (L : List Nt) (ad : Option Addr) (cap k : Nat) (w : World) (hl : L.length ≤ 30) (hk : k < L.length) (h : NtAt w ad L) :
    Calls Tryd.prog 19 #[.slice ad L.length cap, .int .i64 (k : Int)] w fun e w' => e = .returned (.bool (conB L k)) ∧ Below w.heap.size w w' := by
  obtain ⟨m, hm⟩ : ∃ m, L[k]? = some m := ⟨_, List.getElem?_eq_getElem hk⟩
  have HM := Lib.hid hm
  have HA := Lib.hid h
  have B0 := Lib.hid (Bel.refl w)
  obtain ⟨b, off, rfl, _⟩ := h k m hm
  clear h hm
  go_enter Tryd.func19, Tryd.ntmps19
  go_wp2_with fail
  go_loopg [5] L.length (fun gm i wr => ∃ j : Nat, j ≤ L.length ∧ gm = L.length - j ∧ i = .int .i64 (j : Int) ∧ Hid (∀ (q : Nat) (n : Nt), q < j → L[q]? = some n → ¬ clN m n) ∧ Hid (Bel w wr))
  case atStart => exact ⟨0, by omega, by omega, rfl, Lib.hid (fun q n hq => absurd hq (by omega)), B0⟩
  case round =>
    obtain ⟨j, hj, rfl, rfl, HN, HB⟩ := hrel
    clear B0
    by_cases hlt : j < L.length
    · obtain ⟨n, hn⟩ : ∃ n, L[j]? = some n := ⟨_, List.getElem?_eq_getElem hlt⟩
      obtain ⟨b1, off1, e1, hc1⟩ := (HA.out.up HB.out.out) k m HM.out
      obtain ⟨b2, off2, e2, hc2⟩ := (HA.out.up HB.out.out) j n hn
      cases e1
      cases e2
      have HN2 := Lib.hid hn
      clear hn
      rcases m with ⟨mt, ms, ma, mo, mh, mv⟩
      rcases n with ⟨t, s, a, o, hd, v⟩
      obtain ⟨c0, c1, c2, c3, c4, c5⟩ := hc1
      obtain ⟨d0, d1, d2, d3, d4, d5⟩ := hc2
      simp only at c0 c1 c2 c3 c4 c5 d0 d1 d2 d3 d4 d5
      clear c4 c5 d4 d5
      by_cases p0 : t = mt
      · have p0d : (t == mt) = true := by simpa using p0
        have P0 := Lib.hid p0
        clear p0
        by_cases p1 : s = ms
        · have p1d : (s == ms) = true := by simpa using p1
          have P1 := Lib.hid p1
          clear p1
          by_cases p2 : o = mo
          · have p2d : (o == mo) = true := by simpa using p2
            have P2 := Lib.hid p2
            clear p2
            by_cases p3 : a = ma
            · have p3d : (a != ma) = false := by simpa using p3
              have HX := Lib.hid (show ¬ clN ⟨mt, ms, ma, mo, mh, mv⟩ ⟨t, s, a, o, hd, v⟩ from fun h => h.2.2.2 p3.symm)
              clear p3
              go_wp2_with fail
              try (go_quiet (fail); go_wp2_with fail)
              try (go_quiet (fail); go_wp2_with fail)
              go_roundg (L.length - (j + 1))
              case measure => omega
              case rel => exact ⟨j + 1, by omega, rfl, by go_num, Lib.hid (fun q y hq hy => by
                by_cases e : q = j
                · subst e
                  rw [HN2.out] at hy
                  cases hy
                  exact HX.out
                · exact HN.out q y (by omega) hy), by first | exact HB | exact Lib.hid (Bel.drewN HB.out _)⟩
            · have p3d : (a != ma) = true := by simpa using p3
              have HR := Lib.hid (conB_some (k := k) HM.out HN2.out ⟨P0.out.symm, P1.out.symm, P2.out.symm, fun h => p3 h.symm⟩)
              clear p3
              go_wp2_with fail
              try (go_quiet (fail); go_wp2_with fail)
              try (go_quiet (fail); go_wp2_with fail)
              go_ret
              exact ⟨by first | (rw [HR.out]; done) | (rw [HR.out]; rfl), by first | exact HB.out.out | exact below_drewN HB.out.out _⟩
          · have p2d : (o == mo) = false := by simpa using p2
            have HX := Lib.hid (show ¬ clN ⟨mt, ms, ma, mo, mh, mv⟩ ⟨t, s, a, o, hd, v⟩ from fun h => p2 h.2.2.1.symm)
            clear p2
            go_wp2_with fail
            try (go_quiet (fail); go_wp2_with fail)
            try (go_quiet (fail); go_wp2_with fail)
            go_roundg (L.length - (j + 1))
            case measure => omega
            case rel => exact ⟨j + 1, by omega, rfl, by go_num, Lib.hid (fun q y hq hy => by
              by_cases e : q = j
              · subst e
                rw [HN2.out] at hy
                cases hy
                exact HX.out
              · exact HN.out q y (by omega) hy), by first | exact HB | exact Lib.hid (Bel.drewN HB.out _)⟩
        · have p1d : (s == ms) = false := by simpa using p1
          have HX := Lib.hid (show ¬ clN ⟨mt, ms, ma, mo, mh, mv⟩ ⟨t, s, a, o, hd, v⟩ from fun h => p1 h.2.1.symm)
          clear p1
          go_wp2_with fail
          try (go_quiet (fail); go_wp2_with fail)
          try (go_quiet (fail); go_wp2_with fail)
          go_roundg (L.length - (j + 1))
          case measure => omega
          case rel => exact ⟨j + 1, by omega, rfl, by go_num, Lib.hid (fun q y hq hy => by
            by_cases e : q = j
            · subst e
              rw [HN2.out] at hy
              cases hy
              exact HX.out
            · exact HN.out q y (by omega) hy), by first | exact HB | exact Lib.hid (Bel.drewN HB.out _)⟩
      · have p0d : (t == mt) = false := by simpa using p0
        have HX := Lib.hid (show ¬ clN ⟨mt, ms, ma, mo, mh, mv⟩ ⟨t, s, a, o, hd, v⟩ from fun h => p0 h.1.symm)
        clear p0
        go_wp2_with fail
        try (go_quiet (fail); go_wp2_with fail)
        try (go_quiet (fail); go_wp2_with fail)
        go_roundg (L.length - (j + 1))
        case measure => omega
        case rel => exact ⟨j + 1, by omega, rfl, by go_num, Lib.hid (fun q y hq hy => by
          by_cases e : q = j
          · subst e
            rw [HN2.out] at hy
            cases hy
            exact HX.out
          · exact HN.out q y (by omega) hy), by first | exact HB | exact Lib.hid (Bel.drewN HB.out _)⟩
    · obtain rfl : j = L.length := by omega
      go_wp2_with fail
      have HR := Lib.hid (conB_none (L := L) (k := k) (fun q x y hq hx hy => by rw [HM.out] at hx; cases hx; exact HN.out q y hq hy))
      go_ret
      exact ⟨by first | (rw [HR.out]; done) | (rw [HR.out]; rfl), HB.out.out⟩
end Go.Proofs.YthmdjpfjaojihaaDoor
