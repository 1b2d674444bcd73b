/- Accidentals: checkPlaces. -/
import Derived.Test.YthmdjpfjaojihaaDoorAl
namespace Go.Proofs.YthmdjpfjaojihaaDoor
open Go.RowKit
set_option linter.unusedVariables false
set_option linter.unusedSimpArgs false

/-- a place: tick, step, octave, kind, parentheses, held, before -/
structure Pl where
  t : Int
  s : Int
  o : Int
  k : Int
  p : Bool
  h : Bool
  b : Int
def plC (n : Pl) : List Value := [.int .i64 n.t, .int .i64 n.s, .int .i64 n.o, .int .i64 n.k, .bool n.p, .bool n.h, .int .i64 n.b]
def plA (n : Pl) : Array Value := #[.int .i64 n.t, .int .i64 n.s, .int .i64 n.o, .int .i64 n.k, .bool n.p, .bool n.h, .int .i64 n.b]
structure N7 (w : World) (b o : Nat) (n : Pl) : Prop where
  c0 : w.cell? ⟨b, o, none⟩ = some (.int .i64 n.t)
  c1 : w.cell? ⟨b, o + 1, none⟩ = some (.int .i64 n.s)
  c2 : w.cell? ⟨b, o + 2, none⟩ = some (.int .i64 n.o)
  c3 : w.cell? ⟨b, o + 3, none⟩ = some (.int .i64 n.k)
  c4 : w.cell? ⟨b, o + 4, none⟩ = some (.bool n.p)
  c5 : w.cell? ⟨b, o + 5, none⟩ = some (.bool n.h)
  c6 : w.cell? ⟨b, o + 6, none⟩ = some (.int .i64 n.b)
theorem N7.up {w w' : World} {b o : Nat} {n : Pl} (h : N7 w b o n) (hb : Below w.heap.size w w') : N7 w' b o n := ⟨cell_up hb h.c0, cell_up hb h.c1, cell_up hb h.c2, cell_up hb h.c3, cell_up hb h.c4, cell_up hb h.c5, cell_up hb h.c6⟩
structure B7 (w : World) (b : Nat) (n : Pl) : Prop where
  c0 : w.cell? ⟨b, 0, none⟩ = some (.int .i64 n.t)
  c1 : w.cell? ⟨b, 1, none⟩ = some (.int .i64 n.s)
  c2 : w.cell? ⟨b, 2, none⟩ = some (.int .i64 n.o)
  c3 : w.cell? ⟨b, 3, none⟩ = some (.int .i64 n.k)
  c4 : w.cell? ⟨b, 4, none⟩ = some (.bool n.p)
  c5 : w.cell? ⟨b, 5, none⟩ = some (.bool n.h)
  c6 : w.cell? ⟨b, 6, none⟩ = some (.int .i64 n.b)
theorem B7.up {w w' : World} {b : Nat} {n : Pl} (h : B7 w b n) (hb : Below w.heap.size w w') : B7 w' b n := ⟨cell_up hb h.c0, cell_up hb h.c1, cell_up hb h.c2, cell_up hb h.c3, cell_up hb h.c4, cell_up hb h.c5, cell_up hb h.c6⟩
theorem B7.new (w : World) (n : Pl) (t : TypeId) (b : Nat) (hb : b = w.heap.size) : B7 (w.alloc (.cells (plA n) t)) b n :=
  have hc := tab_new w (plA n) t b hb
  ⟨hc 0 _ rfl, hc 1 _ rfl, hc 2 _ rfl, hc 3 _ rfl, hc 4 _ rfl, hc 5 _ rfl, hc 6 _ rfl⟩
theorem B7.set {w : World} {b c i : Nat} {n : Pl} {u : Value} (h : B7 w b n) (hn : c ≠ b) : B7 (w.setCell ⟨c, i, none⟩ u) b n := by
  obtain ⟨h0, h1, h2, h3, h4, h5, h6⟩ := h
  have hn' : b ≠ c := fun e => hn e.symm
  exact ⟨by simp [go_sem, *], by simp [go_sem, *], by simp [go_sem, *], by simp [go_sem, *], by simp [go_sem, *], by simp [go_sem, *], by simp [go_sem, *]⟩
def PlAt (w : World) (ad : Option Addr) (L : List Pl) : Prop := ∀ (k : Nat) (n : Pl), L[k]? = some n → ∃ b off, ad = some ⟨b, off, none⟩ ∧ N7 w b (off + k * 7) n
theorem PlAt.up {w w' : World} {ad : Option Addr} {L : List Pl} (h : PlAt w ad L) (hb : Below w.heap.size w w') : PlAt w' ad L := fun k n hn => let ⟨b, off, e, hc⟩ := h k n hn; ⟨b, off, e, hc.up hb⟩
/-- the error of a place behind a tick, of places -/
def errP (last : Int) (n : Pl) : Int := if n.t < last then 25 else if ¬ Pos n.s n.o then 18 else if n.k < 0 ∨ 5 < n.k then 11 else if n.h = true ∧ (n.b < -2 ∨ 2 < n.b) then 2 else 0
def errPL : Int → List Pl → Int
  | _, [] => 0
  | last, n :: L => if errP last n = 0 then errPL n.t L else errP last n
theorem errPL_drop {last : Int} {L : List Pl} {k : Nat} {n : Pl} (h : L[k]? = some n) : errPL last (L.drop k) = if errP last n = 0 then errPL n.t (L.drop (k + 1)) else errP last n := by
  have : L.drop k = n :: L.drop (k + 1) := by
    rw [List.drop_eq_getElem_cons (List.getElem?_eq_some_iff.1 h).1]
    rw [(List.getElem?_eq_some_iff.1 h).2]
  rw [this]
  rfl
set_option maxRecDepth 100000 in
set_option maxHeartbeats 2000000 in
theorem isK_y (k : Int) (w : World) (h0 : 0 ≤ k) (h1 : k ≤ 5) :
    Calls Tryd.prog 35 #[.int .i64 k] w fun e w' => e = .returned (.bool true) ∧ Below w.heap.size w w' := by
  have B0 := Lib.hid (Bel.refl w)
  go_enter Tryd.func35, Tryd.ntmps35
  go_wp2_with fail
  go_ret
  exact ⟨by first | rfl | (simp; done) | (simp; omega), B0.out.out⟩
theorem isK_n (k : Int) (w : World) (h : k < 0 ∨ 5 < k) :
    Calls Tryd.prog 35 #[.int .i64 k] w fun e w' => e = .returned (.bool false) ∧ Below w.heap.size w w' := by
  by_cases h0 : k < 0
  · exact isKind_lo k w h0
  · exact isKind_hi k w (by omega) (by omega)
theorem checkP_many (L : List Pl) (ad : Option Addr) (cap : Nat) (w : World) (hl : 2560 < L.length) :
    Calls Tryd.prog 26 #[.slice ad L.length cap] w fun e w' => e = .returned (.int .i64 9) ∧ Below w.heap.size w w' := by
  go_enter Tryd.func26, Tryd.ntmps26
  go_wp2_with fail
  go_ret
  exact ⟨rfl, Below.refl _ _⟩
set_option maxRecDepth 100000 in
set_option maxHeartbeats 8000000 in
theorem checkP_ok (L : List Pl) (ad : Option Addr) (cap : Nat) (w : World) (hl : L.length ≤ 2560) (h : PlAt w ad L) :
    Calls Tryd.prog 26 #[.slice ad L.length cap] w fun e w' => e = .returned (.int .i64 (errPL 0 L)) ∧ Below w.heap.size w w' := by
  have HA := Lib.hid h
  have HE := Lib.hid (show errPL 0 L = errPL 0 (L.drop 0) by rw [List.drop_zero])
  have hc : ¬ 2560 < L.length := by omega
  have hc2 : ¬ (2560 : Int) < (L.length : Int) := by omega
  clear h
  obtain ⟨E, hE⟩ : ∃ E, errPL 0 L = E := ⟨_, rfl⟩
  rw [hE] at HE
  rw [hE]
  clear hE
  go_enter Tryd.func26, Tryd.ntmps26
  go_wp2_with fail
  go_loopg [3, 11] L.length (fun gm la i wr => ∃ (k : Nat) (last : Int), k ≤ L.length ∧ gm = L.length - k ∧ i = .int .i64 (k : Int) ∧ la = .int .i64 last ∧ Hid (E = errPL last (L.drop k)) ∧ Hid (Bel w wr))
  case atStart => exact ⟨0, 0, by omega, by omega, rfl, rfl, HE, Lib.hid (Bel.refl w)⟩
  case round =>
    obtain ⟨k, last, hk, rfl, rfl, rfl, HL, HB⟩ := hrel
    clear HE
    by_cases hlt : k < L.length
    · obtain ⟨n, hn⟩ : ∃ n, L[k]? = some n := ⟨_, List.getElem?_eq_getElem hlt⟩
      obtain ⟨b, off, rfl, hc6⟩ := (HA.out.up HB.out.out) k n hn
      have HD := Lib.hid (HL.out.trans (errPL_drop hn))
      have B1 := Lib.hid (HB.out.alloc (.cells (plA n) 45))
      have X1 := Lib.hid (B7.new wr n 45 wr.heap.size rfl)
      rcases n with ⟨t, s, o, K, p, hd, v⟩
      obtain ⟨c0, c1, c2, c3, c4, c5, c6⟩ := hc6
      obtain ⟨x0, x1, x2, x3, x4, x5, x6⟩ := id X1.out
      simp only [plA] at c0 c1 c2 c3 c4 c5 c6 x0 x1 x2 x3 x4 x5 x6 B1
      clear hn HL
      by_cases g0 : t < last
      · have HR := Lib.hid (show E = 25 by rw [HD.out]; simp [errP, g0])
        go_wp2_with fail
        go_ret
        exact ⟨by rw [HR.out]; rfl, B1.out.out⟩
      · by_cases g1 : Pos s o
        · have G1 := Lib.hid g1
          clear g1
          by_cases g2 : K < 0 ∨ 5 < K
          · have G2 := Lib.hid g2
            have HR := Lib.hid (show E = 11 by rw [HD.out]; simp [errP, g0, G1.out, g2])
            clear g2
            go_wp2_with fail
            refine (isPos_y s o _ G1.out).mono ?_
            rintro e w1 ⟨rfl, hb⟩
            have B2 := Lib.hid (B1.out.up hb)
            have X2 := Lib.hid (X1.out.up hb)
            obtain ⟨y0, y1, y2, y3, y4, y5, y6⟩ := id X2.out
            simp only at y0 y1 y2 y3 y4 y5 y6
            clear hb c0 c1 c2 c3 c4 c5 c6 x0 x1 x2 x3 x4 x5 x6
            go_wp2_with fail
            refine (isK_n K _ G2.out).mono ?_
            rintro e w2 ⟨rfl, hb⟩
            have B3 := Lib.hid (B2.out.up hb)
            have X3 := Lib.hid (X2.out.up hb)
            obtain ⟨z0, z1, z2, z3, z4, z5, z6⟩ := id X3.out
            simp only at z0 z1 z2 z3 z4 z5 z6
            clear hb y0 y1 y2 y3 y4 y5 y6
            go_wp2_with fail
            go_ret
            exact ⟨by rw [HR.out]; rfl, B3.out.out⟩
          · have k0 : 0 ≤ K := by omega
            have k1 : K ≤ 5 := by omega
            have G2 := Lib.hid g2
            clear g2
            cases hd
            · have HR := Lib.hid (show E = errPL t (L.drop (k + 1)) by rw [HD.out]; simp [errP, g0, G1.out, G2.out])
              go_wp2_with fail
              refine (isPos_y s o _ G1.out).mono ?_
              rintro e w1 ⟨rfl, hb⟩
              have B2 := Lib.hid (B1.out.up hb)
              have X2 := Lib.hid (X1.out.up hb)
              obtain ⟨y0, y1, y2, y3, y4, y5, y6⟩ := id X2.out
              simp only at y0 y1 y2 y3 y4 y5 y6
              clear hb c0 c1 c2 c3 c4 c5 c6 x0 x1 x2 x3 x4 x5 x6
              go_wp2_with fail
              refine (isK_y K _ k0 k1).mono ?_
              rintro e w2 ⟨rfl, hb⟩
              have B3 := Lib.hid (B2.out.up hb)
              have X3 := Lib.hid (X2.out.up hb)
              obtain ⟨z0, z1, z2, z3, z4, z5, z6⟩ := id X3.out
              simp only at z0 z1 z2 z3 z4 z5 z6
              clear hb y0 y1 y2 y3 y4 y5 y6
              go_wp2_with fail
              go_roundg (L.length - (k + 1))
              case measure => omega
              case rel => exact ⟨k + 1, t, by omega, rfl, by go_num, rfl, HR, B3⟩
            · by_cases g3 : v < -2 ∨ 2 < v
              · have G3 := Lib.hid g3
                have HR := Lib.hid (show E = 2 by rw [HD.out]; simp [errP, g0, G1.out, G2.out, g3])
                clear g3
                go_wp2_with fail
                refine (isPos_y s o _ G1.out).mono ?_
                rintro e w1 ⟨rfl, hb⟩
                have B2 := Lib.hid (B1.out.up hb)
                have X2 := Lib.hid (X1.out.up hb)
                obtain ⟨y0, y1, y2, y3, y4, y5, y6⟩ := id X2.out
                simp only at y0 y1 y2 y3 y4 y5 y6
                clear hb c0 c1 c2 c3 c4 c5 c6 x0 x1 x2 x3 x4 x5 x6
                go_wp2_with fail
                refine (isK_y K _ k0 k1).mono ?_
                rintro e w2 ⟨rfl, hb⟩
                have B3 := Lib.hid (B2.out.up hb)
                have X3 := Lib.hid (X2.out.up hb)
                obtain ⟨z0, z1, z2, z3, z4, z5, z6⟩ := id X3.out
                simp only at z0 z1 z2 z3 z4 z5 z6
                clear hb y0 y1 y2 y3 y4 y5 y6
                go_wp2_with fail
                refine (isAlt_n v _ G3.out).mono ?_
                rintro e w3 ⟨rfl, hb⟩
                have B4 := Lib.hid (B3.out.up hb)
                have X4 := Lib.hid (X3.out.up hb)
                obtain ⟨u0, u1, u2, u3, u4, u5, u6⟩ := id X4.out
                simp only at u0 u1 u2 u3 u4 u5 u6
                clear hb z0 z1 z2 z3 z4 z5 z6
                go_wp2_with fail
                go_ret
                exact ⟨by rw [HR.out]; rfl, B4.out.out⟩
              · have HR := Lib.hid (show E = errPL t (L.drop (k + 1)) by rw [HD.out]; simp [errP, g0, G1.out, G2.out, g3])
                have a0 : -2 ≤ v := by omega
                have a1 : v ≤ 2 := by omega
                clear g3
                go_wp2_with fail
                refine (isPos_y s o _ G1.out).mono ?_
                rintro e w1 ⟨rfl, hb⟩
                have B2 := Lib.hid (B1.out.up hb)
                have X2 := Lib.hid (X1.out.up hb)
                obtain ⟨y0, y1, y2, y3, y4, y5, y6⟩ := id X2.out
                simp only at y0 y1 y2 y3 y4 y5 y6
                clear hb c0 c1 c2 c3 c4 c5 c6 x0 x1 x2 x3 x4 x5 x6
                go_wp2_with fail
                refine (isK_y K _ k0 k1).mono ?_
                rintro e w2 ⟨rfl, hb⟩
                have B3 := Lib.hid (B2.out.up hb)
                have X3 := Lib.hid (X2.out.up hb)
                obtain ⟨z0, z1, z2, z3, z4, z5, z6⟩ := id X3.out
                simp only at z0 z1 z2 z3 z4 z5 z6
                clear hb y0 y1 y2 y3 y4 y5 y6
                go_wp2_with fail
                refine (isAlt_y v _ a0 a1).mono ?_
                rintro e w3 ⟨rfl, hb⟩
                have B4 := Lib.hid (B3.out.up hb)
                have X4 := Lib.hid (X3.out.up hb)
                obtain ⟨u0, u1, u2, u3, u4, u5, u6⟩ := id X4.out
                simp only at u0 u1 u2 u3 u4 u5 u6
                clear hb z0 z1 z2 z3 z4 z5 z6
                go_wp2_with fail
                go_roundg (L.length - (k + 1))
                case measure => omega
                case rel => exact ⟨k + 1, t, by omega, rfl, by go_num, rfl, HR, B4⟩
        · have G1 := Lib.hid g1
          have HR := Lib.hid (show E = 18 by rw [HD.out]; simp [errP, g0, g1])
          clear g1
          go_wp2_with fail
          refine (isPos_n s o _ G1.out).mono ?_
          rintro e w1 ⟨rfl, hb⟩
          have B2 := Lib.hid (B1.out.up hb)
          have X2 := Lib.hid (X1.out.up hb)
          obtain ⟨y0, y1, y2, y3, y4, y5, y6⟩ := id X2.out
          simp only at y0 y1 y2 y3 y4 y5 y6
          clear hb c0 c1 c2 c3 c4 c5 c6 x0 x1 x2 x3 x4 x5 x6
          go_wp2_with fail
          go_ret
          exact ⟨by rw [HR.out]; rfl, B2.out.out⟩
    · obtain rfl : k = L.length := by omega
      have HR := Lib.hid (show E = 0 by rw [HL.out, List.drop_length]; rfl)
      go_wp2_with fail
      go_ret
      exact ⟨by rw [HR.out]; rfl, HB.out.out⟩
end Go.Proofs.YthmdjpfjaojihaaDoor
