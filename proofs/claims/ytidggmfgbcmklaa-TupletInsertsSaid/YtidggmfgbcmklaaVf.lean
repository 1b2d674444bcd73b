/- Tuplets: the reference Insert. -/
import Derived.Test.YtidggmfgbcmklaaVe
namespace Go.Proofs.Ytidggmfgbcmklaa
open Go.RowKit
set_option linter.unusedVariables false
set_option linter.unusedSimpArgs false

theorem Quad.put0 {w : World} {b : Nat} {x y z u v : Value} (h : Quad w b x y z u) : Quad (w.setCell ⟨b, 0, none⟩ v) b v y z u := by
  obtain ⟨h0, h1, h2, h3, h4, h5, h6, h7, h8⟩ := h
  exact ⟨by simpa [go_sem] using h0, by simp [go_sem, *], by simp [go_sem, *], by simp [go_sem, *], by simp [go_sem, *], by simp [go_sem, *], by simp [go_sem, *], by simp [go_sem, *], by simp [go_sem, *]⟩
theorem Quad.put1 {w : World} {b : Nat} {x y z u v : Value} (h : Quad w b x y z u) : Quad (w.setCell ⟨b, 1, none⟩ v) b x v z u := by
  obtain ⟨h0, h1, h2, h3, h4, h5, h6, h7, h8⟩ := h
  exact ⟨by simpa [go_sem] using h0, by simp [go_sem, *], by simp [go_sem, *], by simp [go_sem, *], by simp [go_sem, *], by simp [go_sem, *], by simp [go_sem, *], by simp [go_sem, *], by simp [go_sem, *]⟩
/-- a row of the reference's tuplets of the call's own -/
def OwnR (w : World) (base : Nat) (v : Value) (n : Nat) (h : Nat → Tp) : Prop := w.ownsRow base 39 4 v n (flatT h n)
theorem OwnR.up {w w' : World} {base n : Nat} {v : Value} {h : Nat → Tp} (hx : OwnR w base v n h) (hb : Below w.heap.size w w') : OwnR w' base v n h := World.ownsRow.kept hx (grown_of_below hb) (by cases v.ownBlock <;> simp)
theorem OwnR.put {w : World} {base n b i : Nat} {v u : Value} {h : Nat → Tp} (hx : OwnR w base v n h) (hn : v.ownBlock ≠ some b) : OwnR (w.setCell ⟨b, i, none⟩ u) base v n h := Go.ownsRow_setCell_other hx hn _
set_option maxRecDepth 100000 in
set_option maxHeartbeats 8000000 in
theorem rinsert_ok (f : Nat → Tp) (n cap : Nat) (ad : Option Addr) (p c : Int) (w : World) (hn : n ≤ 20) (hG : Gd f n) (h : TsAt w ad n f) (p0 : 0 ≤ p) (p1 : p ≤ 128) (c0 : 0 ≤ c) (c1 : c ≤ 128) :
    Calls Try.prog 35 #[.slice ad n cap, .int .i64 p, .int .i64 c] w fun e w' => ∃ ad2 cap2, e = .returned (.slice ad2 n cap2) ∧ Below w.heap.size w w' ∧ TsAt w' ad2 n (insF f p c) := by
  have HT := Lib.hid h
  have HG := Lib.hid hG
  obtain ⟨i0, hinf, hz0, hz1, hz2⟩ := info_parts infoR
  have B0 := Lib.hid (Bel.refl w)
  have O0 := Lib.hid (show OwnR w w.heap.size (.slice none 0 0) 0 (insF f p c) from World.ownsRow_nil _ _ _ _)
  clear h hG
  go_enter Try.func35, Try.ntmps35
  go_wp2_with fail
  go_loopg [8, 7] n (fun gm i v wr => ∃ k : Nat, k ≤ n ∧ gm = n - k ∧ i = .int .i64 (k : Int) ∧ Hid (Bel w wr) ∧ Hid (OwnR wr w.heap.size v k (insF f p c)))
  case atStart => exact ⟨0, by omega, by omega, rfl, B0, O0⟩
  case round =>
    clear B0 O0
    obtain ⟨k, hk, rfl, rfl, HB, HO⟩ := hrel
    obtain ⟨W0, hW0, B0, O0⟩ : ∃ W0, W0 = _ ∧ Hid (Bel w W0) ∧ Hid (OwnR W0 w.heap.size _ k (insF f p c)) := ⟨_, rfl, HB, HO⟩
    subst hW0
    clear HB HO
    have hws := B0.out.size
    by_cases hlt : k < n
    · obtain ⟨b, off, rfl, q0, q1, q2, q3⟩ := HT.out.up B0.out.out k hlt
      have hkd : decide ((k : Int) < (n : Int)) = true := decide_eq_true (by omega)
      have hsk := Lib.hid (HG.out.sm k hlt)
      obtain ⟨s0, s1, s2, s3, s4⟩ := id hsk.out
      have hne := Lib.hid (fun e => (absurd (World.ownsRow.lt O0.out W0.heap.size e).2 (Nat.lt_irrefl _) : False))
      have B1 := Lib.hid (B0.out.alloc (.cells #[.int .i64 (f k).F, .int .i64 (f k).C, .int .i64 (f k).A, .int .i64 (f k).N] 39))
      have O1 := Lib.hid (O0.out.up ((Below.refl _ _).alloc (Nat.le_refl _) (.cells #[.int .i64 (f k).F, .int .i64 (f k).C, .int .i64 (f k).A, .int .i64 (f k).N] 39)))
      have Y1 := Quad.new W0 (.int .i64 (f k).F) (.int .i64 (f k).C) (.int .i64 (f k).A) (.int .i64 (f k).N) 39 W0.heap.size rfl
      by_cases hF : p ≤ (f k).F
      · have hFd : decide (p ≤ (f k).F) = true := decide_eq_true hF
        have HX := Lib.hid (show insF f p c k = ⟨(f k).F + c, (f k).C, (f k).A, (f k).N⟩ from if_pos hF)
        have B2 := Lib.hid (B0.out.alloc (.cells #[.int .i64 ((f k).F + c), .int .i64 (f k).C, .int .i64 (f k).A, .int .i64 (f k).N] 39))
        have O2 := Lib.hid (O0.out.up ((Below.refl _ _).alloc (Nat.le_refl _) (.cells #[.int .i64 ((f k).F + c), .int .i64 (f k).C, .int .i64 (f k).A, .int .i64 (f k).N] 39)))
        have Y2 := Quad.new W0 (.int .i64 ((f k).F + c)) (.int .i64 (f k).C) (.int .i64 (f k).A) (.int .i64 (f k).N) 39 W0.heap.size rfl
        obtain ⟨yf0, yf1, yf2, yf3, yf4, yf5, yf6, yf7, yf8⟩ := id Y1
        obtain ⟨yk0, yk1, yk2, yk3, yk4, yk5, yk6, yk7, yk8⟩ := id Y2
        have HL := Lib.hid (show flatT (insF f p c) (k + 1) = flatT (insF f p c) k ++ tpC ⟨(f k).F + c, (f k).C, (f k).A, (f k).N⟩ from by rw [flatT, HX.out])
        go_wp2_with (first | (at_builtin; refine wpList_append_own _ rfl _ _ 27 rfl w.heap.size 39 i0 (.agg #[.int .i64 0, .int .i64 0, .int .i64 0, .int .i64 0]) 4 32 Try.underlying27 hinf hz0 hz1 hz2 rfl (by decide) _ _ _ rfl (World.ownsRow.alloc O2.out _) ⟨_, 0, none⟩ 1 1 (tpC ⟨(f k).F + c, (f k).C, (f k).A, (f k).N⟩) rfl rfl (cell4_new _ _ _ _ _ _ _ (by simp)) (by simp [Value.oneCell', tpC]) (by unfold maxLen; omega) (by omega) (by have := B2.out.size; simp at this ⊢; omega) ?_; intro v' w9 hown' hgrow _))
        have hB := Lib.hid (Below.grown (B2.out.alloc _) hgrow (by have := B2.out.size; simp at this ⊢; omega) (fun r hr => (World.ownsRow.lt O2.out r hr).1))
        go_roundg (n - (k + 1))
        case measure => omega
        case rel => exact ⟨k + 1, by omega, rfl, by go_num, hB, by rw [show OwnR w9 w.heap.size v' (k + 1) (insF f p c) = w9.ownsRow w.heap.size 39 4 v' (k + 1) (flatT (insF f p c) (k + 1)) from rfl, HL.out]; exact hown'⟩
      · have hFd : decide (p ≤ (f k).F) = false := decide_eq_false hF
        obtain ⟨yf0, yf1, yf2, yf3, yf4, yf5, yf6, yf7, yf8⟩ := id Y1
        by_cases hCe : p < (f k).F + (f k).C
        · have hxd : decide ((f k).has p) = true := decide_eq_true ⟨by omega, hCe⟩
          have HX := Lib.hid (show insF f p c k = ⟨(f k).F, (f k).C + c, (f k).A, (f k).N⟩ from by show insT p c (f k) = _; unfold insT; rw [if_neg hF, if_pos hCe])
          go_wp2_with fail
          refine (in_ok (f k) p _ hsk.out).mono ?_
          rintro e w1 ⟨rfl, hb⟩
          rw [hxd]
          have B3 := Lib.hid (B1.out.up hb)
          have O3 := Lib.hid (O1.out.up hb)
          have Y3 := Y1.up hb
          have hw1 : W0.heap.size + 1 ≤ w1.heap.size := by have := hb.size; simpa using this
          clear hb yf0 yf1 yf2 yf3 yf4 yf5 yf6 yf7 yf8
          have B2 := Lib.hid (B3.out.set (b := W0.heap.size) hws 1 (.int .i64 ((f k).C + c)))
          have O2 := Lib.hid (OwnR.put (b := W0.heap.size) (i := 1) (u := .int .i64 ((f k).C + c)) O3.out (fun e => hne.out e))
          have Y2 := Y3.put1 (v := .int .i64 ((f k).C + c))
          obtain ⟨yf0, yf1, yf2, yf3, yf4, yf5, yf6, yf7, yf8⟩ := id Y3
          obtain ⟨yk0, yk1, yk2, yk3, yk4, yk5, yk6, yk7, yk8⟩ := id Y2
          have HL := Lib.hid (show flatT (insF f p c) (k + 1) = flatT (insF f p c) k ++ tpC ⟨(f k).F, (f k).C + c, (f k).A, (f k).N⟩ from by rw [flatT, HX.out])
          go_wp2_with (first | (at_builtin; refine wpList_append_own _ rfl _ _ 27 rfl w.heap.size 39 i0 (.agg #[.int .i64 0, .int .i64 0, .int .i64 0, .int .i64 0]) 4 32 Try.underlying27 hinf hz0 hz1 hz2 rfl (by decide) _ _ _ rfl (World.ownsRow.alloc O2.out _) ⟨_, 0, none⟩ 1 1 (tpC ⟨(f k).F, (f k).C + c, (f k).A, (f k).N⟩) rfl rfl (cell4_new _ _ _ _ _ _ _ (by simp)) (by simp [Value.oneCell', tpC]) (by unfold maxLen; omega) (by omega) (by have := B2.out.size; simp at this ⊢; omega) ?_; intro v' w9 hown' hgrow _))
          have hB := Lib.hid (Below.grown (B2.out.alloc _) hgrow (by have := B2.out.size; simp at this ⊢; omega) (fun r hr => (World.ownsRow.lt O2.out r hr).1))
          go_roundg (n - (k + 1))
          case measure => omega
          case rel => exact ⟨k + 1, by omega, rfl, by go_num, hB, by rw [show OwnR w9 w.heap.size v' (k + 1) (insF f p c) = w9.ownsRow w.heap.size 39 4 v' (k + 1) (flatT (insF f p c) (k + 1)) from rfl, HL.out]; exact hown'⟩
        · have hxd : decide ((f k).has p) = false := decide_eq_false (fun h => hCe h.2)
          have HX := Lib.hid (show insF f p c k = f k from by show insT p c (f k) = _; unfold insT; rw [if_neg hF, if_neg hCe])
          go_wp2_with fail
          refine (in_ok (f k) p _ hsk.out).mono ?_
          rintro e w1 ⟨rfl, hb⟩
          rw [hxd]
          have B2 := Lib.hid (B1.out.up hb)
          have O2 := Lib.hid (O1.out.up hb)
          have Y3 := Y1.up hb
          clear hb yf0 yf1 yf2 yf3 yf4 yf5 yf6 yf7 yf8
          obtain ⟨yf0, yf1, yf2, yf3, yf4, yf5, yf6, yf7, yf8⟩ := id Y3
          have HL := Lib.hid (show flatT (insF f p c) (k + 1) = flatT (insF f p c) k ++ tpC (f k) from by rw [flatT, HX.out])
          go_wp2_with (first | (at_builtin; refine wpList_append_own _ rfl _ _ 27 rfl w.heap.size 39 i0 (.agg #[.int .i64 0, .int .i64 0, .int .i64 0, .int .i64 0]) 4 32 Try.underlying27 hinf hz0 hz1 hz2 rfl (by decide) _ _ _ rfl (World.ownsRow.alloc O2.out _) ⟨_, 0, none⟩ 1 1 (tpC (f k)) rfl rfl (cell4_new _ _ _ _ _ _ _ (by simp)) (by simp [Value.oneCell', tpC]) (by unfold maxLen; omega) (by omega) (by have := B2.out.size; simp at this ⊢; omega) ?_; intro v' w9 hown' hgrow _))
          have hB := Lib.hid (Below.grown (B2.out.alloc _) hgrow (by have := B2.out.size; simp at this ⊢; omega) (fun r hr => (World.ownsRow.lt O2.out r hr).1))
          go_roundg (n - (k + 1))
          case measure => omega
          case rel => exact ⟨k + 1, by omega, rfl, by go_num, hB, by rw [show OwnR w9 w.heap.size v' (k + 1) (insF f p c) = w9.ownsRow w.heap.size 39 4 v' (k + 1) (flatT (insF f p c) (k + 1)) from rfl, HL.out]; exact hown'⟩
    · obtain rfl : k = n := by omega
      obtain ⟨ad2, cap2, rfl, hT, _⟩ := TsAt.own O0.out
      have hkd : decide ((k : Int) < (k : Int)) = false := decide_eq_false (by omega)
      go_wp2_with fail
      go_ret
      exact ⟨_, _, rfl, B0.out.out, hT⟩
end Go.Proofs.Ytidggmfgbcmklaa
