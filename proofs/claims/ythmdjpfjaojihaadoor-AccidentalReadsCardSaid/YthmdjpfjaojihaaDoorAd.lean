/- Accidentals: notes; checkNotes. -/
import Derived.Test.YthmdjpfjaojihaaDoorAc
namespace Go.Proofs.YthmdjpfjaojihaaDoor
open Go.RowKit
set_option linter.unusedVariables false
set_option linter.unusedSimpArgs false

/-- a note: tick, step, alteration, octave, held, show -/
structure Nt where
  t : Int
  s : Int
  a : Int
  o : Int
  h : Bool
  v : Int
/-- a staff position; an alteration -/
structure Pos (s o : Int) : Prop where
  s0 : 0 ≤ s
  s1 : s ≤ 6
  o0 : -1 ≤ o
  o1 : o ≤ 9
instance (s o : Int) : Decidable (Pos s o) := decidable_of_iff (0 ≤ s ∧ s ≤ 6 ∧ -1 ≤ o ∧ o ≤ 9) ⟨fun ⟨a, b, c, d⟩ => ⟨a, b, c, d⟩, fun ⟨a, b, c, d⟩ => ⟨a, b, c, d⟩⟩
theorem not_pos {s o : Int} (h : ¬ Pos s o) : s < 0 ∨ 0 ≤ s ∧ (6 < s ∨ s ≤ 6 ∧ (o < -1 ∨ -1 ≤ o ∧ 9 < o)) := by
  by_cases h0 : s < 0
  · exact .inl h0
  · refine .inr ⟨by omega, ?_⟩
    by_cases h1 : 6 < s
    · exact .inl h1
    · refine .inr ⟨by omega, ?_⟩
      by_cases h2 : o < -1
      · exact .inl h2
      · refine .inr ⟨by omega, ?_⟩
        by_cases h3 : 9 < o
        · exact h3
        · exact absurd ⟨by omega, by omega, by omega, by omega⟩ h
def ntC (n : Nt) : List Value := [.int .i64 n.t, .int .i64 n.s, .int .i64 n.a, .int .i64 n.o, .bool n.h, .int .i64 n.v]
def ntA (n : Nt) : Array Value := #[.int .i64 n.t, .int .i64 n.s, .int .i64 n.a, .int .i64 n.o, .bool n.h, .int .i64 n.v]
/-- six cells from an offset on hold a note -/
structure N6 (w : World) (b o : Nat) (n : Nt) : Prop where
  c0 : w.cell? ⟨b, o, none⟩ = some (.int .i64 n.t)
  c1 : w.cell? ⟨b, o + 1, none⟩ = some (.int .i64 n.s)
  c2 : w.cell? ⟨b, o + 2, none⟩ = some (.int .i64 n.a)
  c3 : w.cell? ⟨b, o + 3, none⟩ = some (.int .i64 n.o)
  c4 : w.cell? ⟨b, o + 4, none⟩ = some (.bool n.h)
  c5 : w.cell? ⟨b, o + 5, none⟩ = some (.int .i64 n.v)
theorem N6.up {w w' : World} {b o : Nat} {n : Nt} (h : N6 w b o n) (hb : Below w.heap.size w w') : N6 w' b o n := ⟨cell_up hb h.c0, cell_up hb h.c1, cell_up hb h.c2, cell_up hb h.c3, cell_up hb h.c4, cell_up hb h.c5⟩
/-- a block of its own that holds a note -/
structure B6 (w : World) (b : Nat) (n : Nt) : Prop where
  c0 : w.cell? ⟨b, 0, none⟩ = some (.int .i64 n.t)
  c1 : w.cell? ⟨b, 1, none⟩ = some (.int .i64 n.s)
  c2 : w.cell? ⟨b, 2, none⟩ = some (.int .i64 n.a)
  c3 : w.cell? ⟨b, 3, none⟩ = some (.int .i64 n.o)
  c4 : w.cell? ⟨b, 4, none⟩ = some (.bool n.h)
  c5 : w.cell? ⟨b, 5, none⟩ = some (.int .i64 n.v)
theorem B6.up {w w' : World} {b : Nat} {n : Nt} (h : B6 w b n) (hb : Below w.heap.size w w') : B6 w' b n := ⟨cell_up hb h.c0, cell_up hb h.c1, cell_up hb h.c2, cell_up hb h.c3, cell_up hb h.c4, cell_up hb h.c5⟩
theorem B6.new (w : World) (n : Nt) (t : TypeId) (b : Nat) (hb : b = w.heap.size) : B6 (w.alloc (.cells (ntA n) t)) b n :=
  ⟨tab_new w (ntA n) t b hb 0 _ rfl, tab_new w (ntA n) t b hb 1 _ rfl, tab_new w (ntA n) t b hb 2 _ rfl, tab_new w (ntA n) t b hb 3 _ rfl, tab_new w (ntA n) t b hb 4 _ rfl, tab_new w (ntA n) t b hb 5 _ rfl⟩
theorem B6.set {w : World} {b c i : Nat} {n : Nt} {u : Value} (h : B6 w b n) (hn : c ≠ b) : B6 (w.setCell ⟨c, i, none⟩ u) b n := by
  obtain ⟨h0, h1, h2, h3, h4, h5⟩ := h
  have hn' : b ≠ c := fun e => hn e.symm
  exact ⟨by simp [go_sem, *], by simp [go_sem, *], by simp [go_sem, *], by simp [go_sem, *], by simp [go_sem, *], by simp [go_sem, *]⟩
def NtAt (w : World) (ad : Option Addr) (L : List Nt) : Prop := ∀ (k : Nat) (n : Nt), L[k]? = some n → ∃ b off, ad = some ⟨b, off, none⟩ ∧ N6 w b (off + k * 6) n
theorem NtAt.up {w w' : World} {ad : Option Addr} {L : List Nt} (h : NtAt w ad L) (hb : Below w.heap.size w w') : NtAt w' ad L := fun k n hn => let ⟨b, off, e, hc⟩ := h k n hn; ⟨b, off, e, hc.up hb⟩
/-- the error of a note behind a tick, of notes -/
def errN (last : Int) (n : Nt) : Int := if n.t < last then 25 else if ¬ Pos n.s n.o then 18 else if n.a < -2 ∨ 2 < n.a then 18 else if n.v < 0 ∨ 2 < n.v then 11 else 0
def errL : Int → List Nt → Int
  | _, [] => 0
  | last, n :: L => if errN last n = 0 then errL n.t L else errN last n
theorem errL_drop {last : Int} {L : List Nt} {k : Nat} {n : Nt} (h : L[k]? = some n) : errL last (L.drop k) = if errN last n = 0 then errL n.t (L.drop (k + 1)) else errN last n := by
  have : L.drop k = n :: L.drop (k + 1) := by
    rw [List.drop_eq_getElem_cons (List.getElem?_eq_some_iff.1 h).1]
    rw [(List.getElem?_eq_some_iff.1 h).2]
  rw [this]
  rfl
set_option maxRecDepth 100000 in
set_option maxHeartbeats 2000000 in
theorem isPos_y (s o : Int) (w : World) (h : Pos s o) :
    Calls Tryd.prog 34 #[.int .i64 s, .int .i64 o] w fun e w' => e = .returned (.bool true) ∧ Below w.heap.size w w' := by
  have B0 := Lib.hid (Bel.refl w)
  obtain ⟨s0, s1, o0, o1⟩ := h
  go_enter Tryd.func34, Tryd.ntmps34
  go_wp2_with fail
  go_ret
  exact ⟨by first | rfl | (simp; done) | (simp [go_sem]; done) | (simp [go_sem]; omega), B0.out.out⟩
set_option maxRecDepth 100000 in
set_option maxHeartbeats 2000000 in
theorem isPos_a (s o : Int) (w : World) (h : s < 0) :
    Calls Tryd.prog 34 #[.int .i64 s, .int .i64 o] w fun e w' => e = .returned (.bool false) ∧ Below w.heap.size w w' := by
  have B0 := Lib.hid (Bel.refl w)
  go_enter Tryd.func34, Tryd.ntmps34
  go_wp2_with fail
  go_ret
  exact ⟨by first | rfl | (simp; done) | (simp [go_sem]; done) | (simp [go_sem]; omega), B0.out.out⟩
set_option maxRecDepth 100000 in
set_option maxHeartbeats 2000000 in
theorem isPos_b (s o : Int) (w : World) (s0 : 0 ≤ s) (h : 6 < s) :
    Calls Tryd.prog 34 #[.int .i64 s, .int .i64 o] w fun e w' => e = .returned (.bool false) ∧ Below w.heap.size w w' := by
  have B0 := Lib.hid (Bel.refl w)
  go_enter Tryd.func34, Tryd.ntmps34
  go_wp2_with fail
  go_ret
  exact ⟨by first | rfl | (simp; done) | (simp [go_sem]; done) | (simp [go_sem]; omega), B0.out.out⟩
set_option maxRecDepth 100000 in
set_option maxHeartbeats 2000000 in
theorem isPos_c (s o : Int) (w : World) (s0 : 0 ≤ s) (s1 : s ≤ 6) (h : o < -1) :
    Calls Tryd.prog 34 #[.int .i64 s, .int .i64 o] w fun e w' => e = .returned (.bool false) ∧ Below w.heap.size w w' := by
  have B0 := Lib.hid (Bel.refl w)
  go_enter Tryd.func34, Tryd.ntmps34
  go_wp2_with fail
  go_ret
  exact ⟨by first | rfl | (simp; done) | (simp [go_sem]; done) | (simp [go_sem]; omega), B0.out.out⟩
set_option maxRecDepth 100000 in
set_option maxHeartbeats 2000000 in
theorem isPos_d (s o : Int) (w : World) (s0 : 0 ≤ s) (s1 : s ≤ 6) (o0 : -1 ≤ o) (h : 9 < o) :
    Calls Tryd.prog 34 #[.int .i64 s, .int .i64 o] w fun e w' => e = .returned (.bool false) ∧ Below w.heap.size w w' := by
  have B0 := Lib.hid (Bel.refl w)
  go_enter Tryd.func34, Tryd.ntmps34
  go_wp2_with fail
  go_ret
  exact ⟨by first | rfl | (simp; done) | (simp [go_sem]; done) | (simp [go_sem]; omega), B0.out.out⟩
theorem isPos_n (s o : Int) (w : World) (h : ¬ Pos s o) : Calls Tryd.prog 34 #[.int .i64 s, .int .i64 o] w fun e w' => e = .returned (.bool false) ∧ Below w.heap.size w w' := by
  rcases not_pos h with h | ⟨s0, h | ⟨s1, h | ⟨o0, h⟩⟩⟩
  · exact isPos_a s o w h
  · exact isPos_b s o w s0 h
  · exact isPos_c s o w s0 s1 h
  · exact isPos_d s o w s0 s1 o0 h
set_option maxRecDepth 100000 in
set_option maxHeartbeats 2000000 in
theorem isAlt_y (a : Int) (w : World) (h0 : -2 ≤ a) (h1 : a ≤ 2) :
    Calls Tryd.prog 36 #[.int .i64 a] w fun e w' => e = .returned (.bool true) ∧ Below w.heap.size w w' := by
  have B0 := Lib.hid (Bel.refl w)
  go_enter Tryd.func36, Tryd.ntmps36
  go_wp2_with fail
  go_ret
  exact ⟨by first | rfl | (simp; done) | (simp [go_sem]; done) | (simp [go_sem]; omega), B0.out.out⟩
set_option maxRecDepth 100000 in
set_option maxHeartbeats 2000000 in
theorem isAlt_lo (a : Int) (w : World) (h : a < -2) :
    Calls Tryd.prog 36 #[.int .i64 a] w fun e w' => e = .returned (.bool false) ∧ Below w.heap.size w w' := by
  have B0 := Lib.hid (Bel.refl w)
  go_enter Tryd.func36, Tryd.ntmps36
  go_wp2_with fail
  go_ret
  exact ⟨by first | rfl | (simp; done) | (simp [go_sem]; done) | (simp [go_sem]; omega), B0.out.out⟩
set_option maxRecDepth 100000 in
set_option maxHeartbeats 2000000 in
theorem isAlt_hi (a : Int) (w : World) (h0 : -2 ≤ a) (h : 2 < a) :
    Calls Tryd.prog 36 #[.int .i64 a] w fun e w' => e = .returned (.bool false) ∧ Below w.heap.size w w' := by
  have B0 := Lib.hid (Bel.refl w)
  go_enter Tryd.func36, Tryd.ntmps36
  go_wp2_with fail
  go_ret
  exact ⟨by first | rfl | (simp; done) | (simp [go_sem]; done) | (simp [go_sem]; omega), B0.out.out⟩
theorem isAlt_n (a : Int) (w : World) (h : a < -2 ∨ 2 < a) : Calls Tryd.prog 36 #[.int .i64 a] w fun e w' => e = .returned (.bool false) ∧ Below w.heap.size w w' := by
  by_cases k : a < -2
  · exact isAlt_lo a w k
  · exact isAlt_hi a w (by omega) (by omega)
set_option maxRecDepth 100000 in
set_option maxHeartbeats 4000000 in
theorem checkN_many (L : List Nt) (ad : Option Addr) (cap : Nat) (w : World) (hl : 2560 < L.length) :
    Calls Tryd.prog 29 #[.slice ad L.length cap] w fun e w' => e = .returned (.int .i64 9) ∧ Below w.heap.size w w' := by
  go_enter Tryd.func29, Tryd.ntmps29
  go_wp2_with fail
  go_ret
  exact ⟨rfl, Below.refl _ _⟩
set_option maxRecDepth 100000 in
set_option maxHeartbeats 4000000 in
theorem checkN_ok (L : List Nt) (ad : Option Addr) (cap : Nat) (w : World) (hl : L.length ≤ 2560) (h : NtAt w ad L) :
    Calls Tryd.prog 29 #[.slice ad L.length cap] w fun e w' => e = .returned (.int .i64 (errL 0 L)) ∧ Below w.heap.size w w' := by
  have HA := Lib.hid h
  have HE := Lib.hid (show errL 0 L = errL 0 (L.drop 0) by rw [List.drop_zero])
  have hc : ¬ 2560 < L.length := by omega
  have hc2 : ¬ (2560 : Int) < (L.length : Int) := by omega
  clear h
  obtain ⟨E, hE⟩ : ∃ E, errL 0 L = E := ⟨_, rfl⟩
  rw [hE] at HE
  rw [hE]
  clear hE
  go_enter Tryd.func29, Tryd.ntmps29
  go_wp2_with fail
  go_loopg [3, 11] L.length (fun gm la i wr => ∃ (k : Nat) (last : Int), k ≤ L.length ∧ gm = L.length - k ∧ i = .int .i64 (k : Int) ∧ la = .int .i64 last ∧ Hid (E = errL last (L.drop k)) ∧ Hid (Bel w wr))
  case atStart => exact ⟨0, 0, by omega, by omega, rfl, rfl, HE, Lib.hid (Bel.refl w)⟩
  case round =>
    obtain ⟨k, last, hk, rfl, rfl, rfl, HL, HB⟩ := hrel
    clear HE
    by_cases hlt : k < L.length
    · obtain ⟨n, hn⟩ : ∃ n, L[k]? = some n := ⟨_, List.getElem?_eq_getElem hlt⟩
      obtain ⟨b, off, rfl, hc6⟩ := (HA.out.up HB.out.out) k n hn
      have HD := Lib.hid (HL.out.trans (errL_drop hn))
      have B1 := Lib.hid (HB.out.alloc (.cells (ntA n) 61))
      have X1 := Lib.hid (B6.new wr n 61 wr.heap.size rfl)
      rcases n with ⟨t, s, a, o, hd, v⟩
      obtain ⟨c0, c1, c2, c3, c4, c5⟩ := hc6
      obtain ⟨x0, x1, x2, x3, x4, x5⟩ := id X1.out
      simp only [ntA] at c0 c1 c2 c3 c4 c5 x0 x1 x2 x3 x4 x5 B1
      clear hn HL
      by_cases g0 : t < last
      · have HR := Lib.hid (show E = 25 by rw [HD.out]; simp [errN, g0])
        go_wp2_with fail
        go_ret
        exact ⟨by rw [HR.out]; rfl, B1.out.out⟩
      · by_cases g1 : Pos s o
        · have G1 := Lib.hid g1
          clear g1
          by_cases g2 : a < -2 ∨ 2 < a
          · have G2 := Lib.hid g2
            have HR := Lib.hid (show E = 18 by rw [HD.out]; simp [errN, g0, G1.out, g2])
            clear g2
            go_wp2_with fail
            refine (isPos_y s o _ G1.out).mono ?_
            rintro e w1 ⟨rfl, hb⟩
            have B2 := Lib.hid (B1.out.up hb)
            obtain ⟨y0, y1, y2, y3, y4, y5⟩ := X1.out.up hb
            simp only at y0 y1 y2 y3 y4 y5
            clear hb c0 c1 c2 c3 c4 c5 x0 x1 x2 x3 x4 x5
            go_wp2_with fail
            refine (isAlt_n a _ G2.out).mono ?_
            rintro e w2 ⟨rfl, hb⟩
            have B3 := Lib.hid (B2.out.up hb)
            clear hb
            go_wp2_with fail
            go_ret
            exact ⟨by rw [HR.out]; rfl, B3.out.out⟩
          · by_cases g3 : v < 0 ∨ 2 < v
            · have HR := Lib.hid (show E = 11 by rw [HD.out]; simp [errN, g0, G1.out, g2, g3])
              have a0 : -2 ≤ a := by omega
              have a1 : a ≤ 2 := by omega
              clear g2
              go_wp2_with fail
              refine (isPos_y s o _ G1.out).mono ?_
              rintro e w1 ⟨rfl, hb⟩
              have B2 := Lib.hid (B1.out.up hb)
              have X2 := Lib.hid (X1.out.up hb)
              obtain ⟨y0, y1, y2, y3, y4, y5⟩ := id X2.out
              simp only at y0 y1 y2 y3 y4 y5
              clear hb c0 c1 c2 c3 c4 c5 x0 x1 x2 x3 x4 x5
              go_wp2_with fail
              refine (isAlt_y a _ a0 a1).mono ?_
              rintro e w2 ⟨rfl, hb⟩
              have B3 := Lib.hid (B2.out.up hb)
              obtain ⟨z0, z1, z2, z3, z4, z5⟩ := X2.out.up hb
              simp only at z0 z1 z2 z3 z4 z5
              clear hb y0 y1 y2 y3 y4 y5
              rcases g3 with g3 | g3
              · go_wp2_with fail
                go_ret
                exact ⟨by rw [HR.out]; rfl, B3.out.out⟩
              · have g4 : ¬ v < 0 := by omega
                go_wp2_with fail
                go_ret
                exact ⟨by rw [HR.out]; rfl, B3.out.out⟩
            · have HR := Lib.hid (show E = errL t (L.drop (k + 1)) by rw [HD.out]; simp [errN, g0, G1.out, g2, g3])
              have a0 : -2 ≤ a := by omega
              have a1 : a ≤ 2 := by omega
              have v0 : ¬ v < 0 := by omega
              have v1 : ¬ 2 < v := by omega
              clear g2 g3
              go_wp2_with fail
              refine (isPos_y s o _ G1.out).mono ?_
              rintro e w1 ⟨rfl, hb⟩
              have B2 := Lib.hid (B1.out.up hb)
              have X2 := Lib.hid (X1.out.up hb)
              obtain ⟨y0, y1, y2, y3, y4, y5⟩ := id X2.out
              simp only at y0 y1 y2 y3 y4 y5
              clear hb c0 c1 c2 c3 c4 c5 x0 x1 x2 x3 x4 x5
              go_wp2_with fail
              refine (isAlt_y a _ a0 a1).mono ?_
              rintro e w2 ⟨rfl, hb⟩
              have B3 := Lib.hid (B2.out.up hb)
              obtain ⟨z0, z1, z2, z3, z4, z5⟩ := X2.out.up hb
              simp only at z0 z1 z2 z3 z4 z5
              clear hb y0 y1 y2 y3 y4 y5
              go_wp2_with fail
              go_roundg (L.length - (k + 1))
              case measure => omega
              case rel => exact ⟨k + 1, t, by omega, rfl, by go_num, rfl, HR, B3⟩
        · have G1 := Lib.hid g1
          have HR := Lib.hid (show E = 18 by rw [HD.out]; simp [errN, g0, g1])
          clear g1
          go_wp2_with fail
          refine (isPos_n s o _ G1.out).mono ?_
          rintro e w1 ⟨rfl, hb⟩
          have B2 := Lib.hid (B1.out.up hb)
          clear hb
          go_wp2_with fail
          go_ret
          exact ⟨by rw [HR.out]; rfl, B2.out.out⟩
    · obtain rfl : k = L.length := by omega
      have HR := Lib.hid (show E = 0 by rw [HL.out, List.drop_length]; rfl)
      go_wp2_with fail
      go_ret
      exact ⟨by rw [HR.out]; rfl, HB.out.out⟩
end Go.Proofs.YthmdjpfjaojihaaDoor
