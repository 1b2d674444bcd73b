/- Tuplets: Insert. -/
import Derived.Test.YtidggmfgbcmklaaVc
import Derived.Test.YtidggmfgbcmklaaVd
namespace Go.Proofs.Ytidggmfgbcmklaa
open Go.RowKit
set_option linter.unusedVariables false
set_option linter.unusedSimpArgs false

set_option maxRecDepth 100000 in
set_option maxHeartbeats 2000000 in
theorem insert_n (f : Nat → Tp) (n cap : Nat) (ad : Option Addr) (ev p c : Int) (E : Int) (w : World) (hT : TsAt w ad n f) (hE : chk f n ev = E) (h0 : E ≠ 0) :
    Calls Try.prog 34 #[.slice ad n cap, .int .i64 ev, .int .i64 p, .int .i64 c] w fun e w' => e = .returned (.tuple #[.slice none 0 0, .int .i64 E]) ∧ Below w.heap.size w w' := by
  have he1 : (E != 0) = true := by simpa using h0
  have he2 : (E == 0) = false := by simpa using h0
  have hbd := chk_bd f n ev
  rw [hE] at hbd
  have HE := Lib.hid hE
  clear hE h0
  have B0 := Lib.hid (Bel.refl w)
  have T0 := Lib.hid (Lib.hid hT).out
  clear hT
  go_enter Try.func34, Try.ntmps34
  go_wp2_with fail
  refine (check_v f n cap ad ev E _ T0.out HE.out).mono ?_
  rintro e w1 ⟨rfl, hb⟩
  have B1 := Lib.hid (B0.out.up hb)
  have T1 := Lib.hid (T0.out.up hb)
  clear hb B0 T0 
  go_wp2_with fail
  go_ret2
  exact ⟨rfl, B1.out.out⟩
set_option maxRecDepth 100000 in
set_option maxHeartbeats 2000000 in
theorem insert_ra (f : Nat → Tp) (n cap : Nat) (ad : Option Addr) (ev p c : Int) (w : World) (hT : TsAt w ad n f) (hE : chk f n ev = 0) (h1 : p < 0) :
    Calls Try.prog 34 #[.slice ad n cap, .int .i64 ev, .int .i64 p, .int .i64 c] w fun e w' => e = .returned (.tuple #[.slice none 0 0, .int .i64 2]) ∧ Below w.heap.size w w' := by
  have hev := chk_zero hE
  obtain ⟨hev0, hev1, hn16, _⟩ := hev
  have HE := Lib.hid hE
  clear hE
  have g1 : decide (p < 0) = true := decide_eq_true h1
  have B0 := Lib.hid (Bel.refl w)
  have T0 := Lib.hid (Lib.hid hT).out
  clear hT
  go_enter Try.func34, Try.ntmps34
  go_wp2_with fail
  refine (check_v f n cap ad ev 0 _ T0.out HE.out).mono ?_
  rintro e w1 ⟨rfl, hb⟩
  have B1 := Lib.hid (B0.out.up hb)
  have T1 := Lib.hid (T0.out.up hb)
  clear hb B0 T0 
  go_wp2_with fail
  go_ret2
  exact ⟨rfl, B1.out.out⟩
set_option maxRecDepth 100000 in
set_option maxHeartbeats 2000000 in
theorem insert_rb (f : Nat → Tp) (n cap : Nat) (ad : Option Addr) (ev p c : Int) (w : World) (hT : TsAt w ad n f) (hE : chk f n ev = 0) (h1 : 0 ≤ p) (h2 : ev < p) :
    Calls Try.prog 34 #[.slice ad n cap, .int .i64 ev, .int .i64 p, .int .i64 c] w fun e w' => e = .returned (.tuple #[.slice none 0 0, .int .i64 2]) ∧ Below w.heap.size w w' := by
  have hev := chk_zero hE
  obtain ⟨hev0, hev1, hn16, _⟩ := hev
  have HE := Lib.hid hE
  clear hE
  have g1 : decide (p < 0) = false := decide_eq_false (by omega)
  have g2 : decide (ev < p) = true := decide_eq_true h2
  have B0 := Lib.hid (Bel.refl w)
  have T0 := Lib.hid (Lib.hid hT).out
  clear hT
  go_enter Try.func34, Try.ntmps34
  go_wp2_with fail
  refine (check_v f n cap ad ev 0 _ T0.out HE.out).mono ?_
  rintro e w1 ⟨rfl, hb⟩
  have B1 := Lib.hid (B0.out.up hb)
  have T1 := Lib.hid (T0.out.up hb)
  clear hb B0 T0 
  go_wp2_with fail
  go_ret2
  exact ⟨rfl, B1.out.out⟩
set_option maxRecDepth 100000 in
set_option maxHeartbeats 2000000 in
theorem insert_rc (f : Nat → Tp) (n cap : Nat) (ad : Option Addr) (ev p c : Int) (w : World) (hT : TsAt w ad n f) (hE : chk f n ev = 0) (h1 : 0 ≤ p) (h2 : p ≤ ev) (h3 : c < 0) :
    Calls Try.prog 34 #[.slice ad n cap, .int .i64 ev, .int .i64 p, .int .i64 c] w fun e w' => e = .returned (.tuple #[.slice none 0 0, .int .i64 2]) ∧ Below w.heap.size w w' := by
  have hev := chk_zero hE
  obtain ⟨hev0, hev1, hn16, _⟩ := hev
  have HE := Lib.hid hE
  clear hE
  have g1 : decide (p < 0) = false := decide_eq_false (by omega)
  have g2 : decide (ev < p) = false := decide_eq_false (by omega)
  have g3 : decide (c < 0) = true := decide_eq_true h3
  have B0 := Lib.hid (Bel.refl w)
  have T0 := Lib.hid (Lib.hid hT).out
  clear hT
  go_enter Try.func34, Try.ntmps34
  go_wp2_with fail
  refine (check_v f n cap ad ev 0 _ T0.out HE.out).mono ?_
  rintro e w1 ⟨rfl, hb⟩
  have B1 := Lib.hid (B0.out.up hb)
  have T1 := Lib.hid (T0.out.up hb)
  clear hb B0 T0 
  go_wp2_with fail
  go_ret2
  exact ⟨rfl, B1.out.out⟩
set_option maxRecDepth 100000 in
set_option maxHeartbeats 2000000 in
theorem insert_rd (f : Nat → Tp) (n cap : Nat) (ad : Option Addr) (ev p c : Int) (w : World) (hT : TsAt w ad n f) (hE : chk f n ev = 0) (h1 : 0 ≤ p) (h2 : p ≤ ev) (h3 : 0 ≤ c) (h4 : 128 - ev < c) :
    Calls Try.prog 34 #[.slice ad n cap, .int .i64 ev, .int .i64 p, .int .i64 c] w fun e w' => e = .returned (.tuple #[.slice none 0 0, .int .i64 2]) ∧ Below w.heap.size w w' := by
  have hev := chk_zero hE
  obtain ⟨hev0, hev1, hn16, _⟩ := hev
  have HE := Lib.hid hE
  clear hE
  have g1 : decide (p < 0) = false := decide_eq_false (by omega)
  have g2 : decide (ev < p) = false := decide_eq_false (by omega)
  have g3 : decide (c < 0) = false := decide_eq_false (by omega)
  have g4 : decide (128 - ev < c) = true := decide_eq_true h4
  have B0 := Lib.hid (Bel.refl w)
  have T0 := Lib.hid (Lib.hid hT).out
  clear hT
  go_enter Try.func34, Try.ntmps34
  go_wp2_with fail
  refine (check_v f n cap ad ev 0 _ T0.out HE.out).mono ?_
  rintro e w1 ⟨rfl, hb⟩
  have B1 := Lib.hid (B0.out.up hb)
  have T1 := Lib.hid (T0.out.up hb)
  clear hb B0 T0 
  go_wp2_with fail
  go_ret2
  exact ⟨rfl, B1.out.out⟩
set_option maxRecDepth 100000 in
set_option maxHeartbeats 8000000 in
theorem insert_pos (f : Nat → Tp) (n cap : Nat) (ad : Option Addr) (ev p c : Int) (w : World) (hn : 0 < n) (hT : TsAt w ad n f) (hE : chk f n ev = 0) (h1 : 0 ≤ p) (h2 : p ≤ ev) (h3 : 0 ≤ c) (h4 : c ≤ 128 - ev) :
    Calls Try.prog 34 #[.slice ad n cap, .int .i64 ev, .int .i64 p, .int .i64 c] w fun e w' => ∃ g c2, e = .returned (.tuple #[.slice (some ⟨g, 0, none⟩) n c2, .int .i64 0]) ∧ Below w.heap.size w w' ∧ FilT w' g n (insF f p c) := by
  have hev := chk_zero hE
  obtain ⟨hev0, hev1, hn16, _⟩ := hev
  have HG := Lib.hid (Gd.chk hE)
  have HE := Lib.hid hE
  have HT := Lib.hid hT
  have g1 : decide (p < 0) = false := decide_eq_false (by omega)
  have g2 : decide (ev < p) = false := decide_eq_false (by omega)
  have g3 : decide (c < 0) = false := decide_eq_false (by omega)
  have g4 : decide (128 - ev < c) = false := decide_eq_false (by omega)
  clear hE hT
  have B0 := Lib.hid (Bel.refl w)
  go_enter Try.func34, Try.ntmps34
  go_wp2_with fail
  refine (check_v f n cap ad ev 0 _ (HT.out.up B0.out.out) HE.out).mono ?_
  rintro e w1 ⟨rfl, hb⟩
  have B1 := Lib.hid (B0.out.up hb)
  clear hb B0
  go_wp2_with fail
  refine (clone_pos f n cap ad _ hn (by omega) (HT.out.up B1.out.out)).mono ?_
  rintro e w2 ⟨g, c2, rfl, hb, hg, hF⟩
  have B2 := Lib.hid (B1.out.up hb)
  have hwg : w.heap.size ≤ g := Nat.le_trans B1.out.size hg
  have F2 := Lib.hid hF
  clear hb hg hF B1
  go_wp2_with fail
  go_loopg [41] n (fun gm i wr => ∃ k : Nat, k ≤ n ∧ gm = n - k ∧ i = .int .i64 (k : Int) ∧ Hid (Bel w wr) ∧ Hid (FilT wr g n (fun j => if j < k then insF f p c j else f j)))
  case atStart => exact ⟨0, by omega, by omega, rfl, B2, F2.out.eq (fun j hj => by simp)⟩
  case round =>
    clear B2 F2 g1 g2 g3 g4
    obtain ⟨k, hk, rfl, rfl, B0, F0⟩ := hrel
    obtain ⟨W0, hW0, B0, F0⟩ : ∃ W0, W0 = _ ∧ Hid (Bel w W0) ∧ Hid (FilT W0 g n (fun j => if j < k then insF f p c j else f j)) := ⟨_, rfl, B0, F0⟩
    subst hW0
    by_cases hlt : k < n
    · obtain ⟨b, off, rfl, c0, c1, c2', c3⟩ := HT.out.up B0.out.out k hlt
      have hkd : decide ((k : Int) < (n : Int)) = true := decide_eq_true (by omega)
      have hsk := Lib.hid (HG.out.sm k hlt)
      obtain ⟨s0, s1, s2, s3, s4⟩ := id hsk.out
      have hself : (if k < k then insF f p c k else f k) = f k := if_neg (by omega)
      by_cases hF : p ≤ (f k).F
      · have hFd : decide (p ≤ (f k).F) = true := decide_eq_true hF
        have HX := Lib.hid (show insF f p c k = ⟨(f k).F + c, (f k).C, (f k).A, (f k).N⟩ from if_pos hF)
        have B1 := Lib.hid (B0.out.alloc (.cells #[.int .i64 (f k).F, .int .i64 (f k).C, .int .i64 (f k).A, .int .i64 (f k).N] 52))
        have F1 := Lib.hid (F0.out.up ((Below.refl _ _).alloc (Nat.le_refl _) (.cells #[.int .i64 (f k).F, .int .i64 (f k).C, .int .i64 (f k).A, .int .i64 (f k).N] 52)))
        have Y1 := Quad.new W0 (.int .i64 (f k).F) (.int .i64 (f k).C) (.int .i64 (f k).A) (.int .i64 (f k).N) 52 _ rfl
        clear B0 F0 
        obtain ⟨yf0, yf1, yf2, yf3, yf4, yf5, yf6, yf7, yf8⟩ := id Y1
        obtain ⟨⟨z0, z1⟩, ⟨y0, y1⟩, _, _⟩ := F1.out k hlt
        simp only [Nat.lt_irrefl, if_false] at z0 y0
        have hB := Lib.hid (B1.out.set (b := g) (by omega) (k * 4) (.int .i64 ((f k).F + c)))
        have hF2 := Lib.hid ((F1.out.setF hlt ((f k).F + c)).eq (h2 := fun j => if j < k + 1 then insF f p c j else f j) (fun j hj => by
          by_cases e : j = k
          · subst e
            have hx := HX.out
            simp [hx]
          · rw [if_neg e]
            by_cases h : j < k
            · rw [if_pos h, if_pos (by omega)]
            · rw [if_neg h, if_neg (by omega)]))
        go_wp2_with fail
        go_roundg (n - (k + 1))
        case measure => omega
        case rel => exact ⟨k + 1, by omega, rfl, by go_num, hB, hF2⟩
      · have hFd : decide (p ≤ (f k).F) = false := decide_eq_false hF
        by_cases hCe : p < (f k).F + (f k).C
        · have hCd : decide (p < (f k).F + (f k).C) = true := decide_eq_true hCe
          have HX := Lib.hid (show insF f p c k = ⟨(f k).F, (f k).C + c, (f k).A, (f k).N⟩ from by show insT p c (f k) = _; unfold insT; rw [if_neg hF, if_pos hCe])
          have B1 := Lib.hid (B0.out.alloc (.cells #[.int .i64 (f k).F, .int .i64 (f k).C, .int .i64 (f k).A, .int .i64 (f k).N] 52))
          have F1 := Lib.hid (F0.out.up ((Below.refl _ _).alloc (Nat.le_refl _) (.cells #[.int .i64 (f k).F, .int .i64 (f k).C, .int .i64 (f k).A, .int .i64 (f k).N] 52)))
          have Y1 := Quad.new W0 (.int .i64 (f k).F) (.int .i64 (f k).C) (.int .i64 (f k).A) (.int .i64 (f k).N) 52 _ rfl
          clear B0 F0 
          obtain ⟨yf0, yf1, yf2, yf3, yf4, yf5, yf6, yf7, yf8⟩ := id Y1
          go_wp2_with fail
          clear yf0 yf1 yf2 yf3 yf4 yf5 yf6 yf7 yf8
          refine (end_ok (f k) _ hsk.out).mono ?_
          rintro e w2 ⟨rfl, hb⟩
          have B2 := Lib.hid (B1.out.up hb)
          have F2 := Lib.hid (F1.out.up hb)
          have Y2 := Y1.up hb
          clear hb B1 F1 Y1
          obtain ⟨yf0, yf1, yf2, yf3, yf4, yf5, yf6, yf7, yf8⟩ := id Y2
          obtain ⟨⟨z0, z1⟩, ⟨y0, y1⟩, _, _⟩ := F2.out k hlt
          simp only [Nat.lt_irrefl, if_false] at z0 y0
          have hB := Lib.hid (B2.out.set (b := g) (by omega) (k * 4 + 1) (.int .i64 ((f k).C + c)))
          have hF2 := Lib.hid ((F2.out.setC hlt ((f k).C + c)).eq (h2 := fun j => if j < k + 1 then insF f p c j else f j) (fun j hj => by
            by_cases e : j = k
            · subst e
              have hx := HX.out
              simp [hx]
            · rw [if_neg e]
              by_cases h : j < k
              · rw [if_pos h, if_pos (by omega)]
              · rw [if_neg h, if_neg (by omega)]))
          go_wp2_with fail
          go_roundg (n - (k + 1))
          case measure => omega
          case rel => exact ⟨k + 1, by omega, rfl, by go_num, hB, hF2⟩
        · have hCd : decide (p < (f k).F + (f k).C) = false := decide_eq_false hCe
          have HX := Lib.hid (show insF f p c k = f k from by show insT p c (f k) = _; unfold insT; rw [if_neg hF, if_neg hCe])
          have B1 := Lib.hid (B0.out.alloc (.cells #[.int .i64 (f k).F, .int .i64 (f k).C, .int .i64 (f k).A, .int .i64 (f k).N] 52))
          have F1 := Lib.hid (F0.out.up ((Below.refl _ _).alloc (Nat.le_refl _) (.cells #[.int .i64 (f k).F, .int .i64 (f k).C, .int .i64 (f k).A, .int .i64 (f k).N] 52)))
          have Y1 := Quad.new W0 (.int .i64 (f k).F) (.int .i64 (f k).C) (.int .i64 (f k).A) (.int .i64 (f k).N) 52 _ rfl
          clear B0 F0 
          obtain ⟨yf0, yf1, yf2, yf3, yf4, yf5, yf6, yf7, yf8⟩ := id Y1
          go_wp2_with fail
          clear yf0 yf1 yf2 yf3 yf4 yf5 yf6 yf7 yf8
          refine (end_ok (f k) _ hsk.out).mono ?_
          rintro e w2 ⟨rfl, hb⟩
          have B2 := Lib.hid (B1.out.up hb)
          have F2 := Lib.hid (F1.out.up hb)
          have Y2 := Y1.up hb
          clear hb B1 F1 Y1
          obtain ⟨yf0, yf1, yf2, yf3, yf4, yf5, yf6, yf7, yf8⟩ := id Y2
          go_wp2_with fail
          have hF2 := Lib.hid (F2.out.eq (h2 := fun j => if j < k + 1 then insF f p c j else f j) (fun j hj => by
            by_cases e : j = k
            · subst e
              have hx := HX.out
              simp [hx]
            · by_cases h : j < k
              · rw [if_pos h, if_pos (by omega)]
              · rw [if_neg h, if_neg (by omega)]))
          go_roundg (n - (k + 1))
          case measure => omega
          case rel => exact ⟨k + 1, by omega, rfl, by go_num, B2, hF2⟩
    · have hkd : decide ((k : Int) < (n : Int)) = false := decide_eq_false (by omega)
      go_wp2_with fail
      go_ret2
      exact ⟨g, c2, rfl, B0.out.out, F0.out.eq (fun j hj => by rw [if_pos (by omega)])⟩
set_option maxRecDepth 100000 in
set_option maxHeartbeats 4000000 in
theorem insert_nil (f : Nat → Tp) (n cap : Nat) (ad : Option Addr) (ev p c : Int) (w : World) (hn : n = 0) (hT : TsAt w ad n f) (hE : chk f n ev = 0) (h1 : 0 ≤ p) (h2 : p ≤ ev) (h3 : 0 ≤ c) (h4 : c ≤ 128 - ev) :
    Calls Try.prog 34 #[.slice ad n cap, .int .i64 ev, .int .i64 p, .int .i64 c] w fun e w' => ∃ ao c2, e = .returned (.tuple #[.slice ao n c2, .int .i64 0]) ∧ Below w.heap.size w w' := by
  have hev := chk_zero hE
  obtain ⟨hev0, hev1, hn16, _⟩ := hev
  have HE := Lib.hid hE
  have HT := Lib.hid hT
  have g1 : decide (p < 0) = false := decide_eq_false (by omega)
  have g2 : decide (ev < p) = false := decide_eq_false (by omega)
  have g3 : decide (c < 0) = false := decide_eq_false (by omega)
  have g4 : decide (128 - ev < c) = false := decide_eq_false (by omega)
  clear hE hT
  subst hn
  have B0 := Lib.hid (Bel.refl w)
  go_enter Try.func34, Try.ntmps34
  go_wp2_with fail
  refine (check_v f 0 cap ad ev 0 _ (HT.out.up B0.out.out) HE.out).mono ?_
  rintro e w1 ⟨rfl, hb⟩
  have B1 := Lib.hid (B0.out.up hb)
  clear hb B0
  go_wp2_with fail
  refine (clone_nil cap ad _).mono ?_
  rintro e w2 ⟨ao, c2, rfl, hb⟩
  have B2 := Lib.hid (B1.out.up hb)
  clear hb B1
  go_wp2_with fail
  go_loopg [41] 0 (fun gm i wr => i = .int .i64 0 ∧ Hid (Bel w wr))
  case atStart => exact ⟨rfl, B2⟩
  case round =>
    clear B2
    obtain ⟨rfl, B0⟩ := hrel
    go_wp2_with fail
    go_ret2
    first | exact ⟨⟨_, _, rfl⟩, B0.out.out⟩ | exact ⟨_, _, rfl, B0.out.out⟩
theorem insert_ok (f : Nat → Tp) (n cap : Nat) (ad : Option Addr) (ev p c : Int) (w : World) (hT : TsAt w ad n f) (hE : chk f n ev = 0) (h1 : 0 ≤ p) (h2 : p ≤ ev) (h3 : 0 ≤ c) (h4 : c ≤ 128 - ev) :
    Calls Try.prog 34 #[.slice ad n cap, .int .i64 ev, .int .i64 p, .int .i64 c] w fun e w' => ∃ ao c2, e = .returned (.tuple #[.slice ao n c2, .int .i64 0]) ∧ Below w.heap.size w w' ∧ TsAt w' ao n (insF f p c) := by
  by_cases hn : n = 0
  · refine (insert_nil f n cap ad ev p c w hn hT hE h1 h2 h3 h4).mono ?_
    rintro e w' ⟨ao, c2, rfl, hb⟩
    exact ⟨ao, c2, rfl, hb, fun k hk => by omega⟩
  · refine (insert_pos f n cap ad ev p c w (by omega) hT hE h1 h2 h3 h4).mono ?_
    rintro e w' ⟨g, c2, rfl, hb, hF⟩
    exact ⟨_, c2, rfl, hb, hF.ts⟩
end Go.Proofs.Ytidggmfgbcmklaa
