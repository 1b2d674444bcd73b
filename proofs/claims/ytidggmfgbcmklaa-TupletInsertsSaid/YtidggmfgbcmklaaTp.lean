/- Tuplets: Depth, Ratio, Length. -/
import Derived.Test.YtidggmfgbcmklaaTn
namespace Go.Proofs.Ytidggmfgbcmklaa
open Go.RowKit
set_option linter.unusedVariables false
set_option linter.unusedSimpArgs false

theorem check_v (f : Nat → Tp) (n cap : Nat) (ad : Option Addr) (ev E : Int) (w : World) (h : TsAt w ad n f) (hE : chk f n ev = E) : Calls Try.prog 14 #[.slice ad n cap, .int .i64 ev] w fun e w' => e = .returned (.int .i64 E) ∧ Below w.heap.size w w' := by
  subst hE; exact check_ok f n cap ad ev w h
theorem Gd.chk {f : Nat → Tp} {n : Nat} {ev : Int} (h : chk f n ev = 0) : Gd f n := Gd.of (chk_zero h).2.2.2 (chk_zero h).2.1
/-- the first value that is not zero, of m from the k-th on -/
def fnz (h : Nat → Int) : Nat → Nat → Int
  | 0, _ => 0
  | m + 1, k => if h k = 0 then fnz h m (k + 1) else h k
theorem fnz_at {h : Nat → Int} : ∀ (m k j : Nat), j < m → (∀ i, i < j → h (k + i) = 0) → h (k + j) ≠ 0 → fnz h m k = h (k + j) := by
  intro m
  induction m with
  | zero => intro k j h; omega
  | succ m ih =>
    intro k j hj h0 h1
    unfold fnz
    cases j with
    | zero => simp only [Nat.add_zero] at h1 ⊢; rw [if_neg h1]
    | succ j =>
      have := h0 0 (by omega)
      rw [Nat.add_zero] at this
      rw [if_pos this, ih (k + 1) j (by omega) (fun i hi => by rw [show k + 1 + i = k + (i + 1) by omega]; exact h0 _ (by omega)) (by rw [show k + 1 + j = k + (j + 1) by omega]; exact h1), show k + 1 + j = k + (j + 1) by omega]
theorem fnz_none {h : Nat → Int} : ∀ (m k : Nat), (∀ i, i < m → h (k + i) = 0) → fnz h m k = 0 := by
  intro m
  induction m with
  | zero => intro k _; rfl
  | succ m ih =>
    intro k g
    unfold fnz
    rw [if_pos (by simpa using g 0 (by omega)), ih (k + 1) (fun i hi => by rw [show k + 1 + i = k + (i + 1) by omega]; exact g _ (by omega))]
theorem fnz_cases (h : Nat → Int) (m : Nat) : ((∀ i, i < m → h i = 0) ∧ fnz h m 0 = 0) ∨ ∃ j, j < m ∧ (∀ i, i < j → h i = 0) ∧ h j ≠ 0 ∧ fnz h m 0 = h j := by
  have key : ∀ n, (∀ i, i < n → h i = 0) ∨ ∃ j, j < n ∧ (∀ i, i < j → h i = 0) ∧ h j ≠ 0 := by
    intro n
    induction n with
    | zero => exact .inl (fun i hi => by omega)
    | succ n ih =>
      rcases ih with g | ⟨j, hj, g1, g2⟩
      · by_cases e : h n = 0
        · exact .inl (fun i hi => by by_cases q : i = n; (subst q; exact e); exact g i (by omega))
        · exact .inr ⟨n, by omega, g, e⟩
      · exact .inr ⟨j, by omega, g1, g2⟩
  rcases key m with g | ⟨j, hj, g1, g2⟩
  · exact .inl ⟨g, fnz_none m 0 (fun i hi => by simpa using g i hi)⟩
  · exact .inr ⟨j, hj, g1, g2, by simpa using fnz_at m 0 j hj (fun i hi => by simpa using g1 i hi) (by simpa using g2)⟩
theorem lenE_bd (f : Nat → Tp) (n : Nat) (x t : Int) : lenE f n x t = 0 ∨ lenE f n x t = 2 ∨ lenE f n x t = 16 := by
  unfold lenE
  split
  · omega
  · split <;> omega
set_option maxRecDepth 100000 in
set_option maxHeartbeats 2000000 in
theorem depth_n (f : Nat → Tp) (n cap : Nat) (ad : Option Addr) (x : Int) (E : Int) (w : World) (h : TsAt w ad n f) (hE : chk f n 128 = E) (h0 : E ≠ 0) :
    Calls Try.prog 21 #[.slice ad n cap, .int .i64 x] w fun e w' => e = .returned (.int .i64 0) ∧ Below w.heap.size w w' := by
  have he : (E != 0) = true := by simpa using h0
  have he1 : (E == 0) = false := by simpa using h0
  have hbd := chk_bd f n 128
  rw [hE] at hbd
  have HT := Lib.hid h
  replace hE := Lib.hid hE
  clear h h0
  have B0 := Lib.hid (Bel.refl w)
  go_enter Try.func21, Try.ntmps21
  go_wp2_with fail
  refine (check_v f n cap ad 128 E _ HT.out hE.out).mono ?_
  rintro e w1 ⟨rfl, hb⟩
  have B1 := Lib.hid (B0.out.up hb)
  clear hb B0  
  go_wp2_with fail
  go_ret
  exact ⟨rfl, B1.out.out⟩
set_option maxRecDepth 100000 in
set_option maxHeartbeats 2000000 in
theorem ratio_n (f : Nat → Tp) (n cap : Nat) (ad : Option Addr) (x : Int) (E : Int) (w : World) (h : TsAt w ad n f) (hE : chk f n 128 = E) (h0 : E ≠ 0) :
    Calls Try.prog 22 #[.slice ad n cap, .int .i64 x] w fun e w' => e = .returned (.tuple #[.int .i64 0, .int .i64 0]) ∧ Below w.heap.size w w' := by
  have he : (E != 0) = true := by simpa using h0
  have he1 : (E == 0) = false := by simpa using h0
  have hbd := chk_bd f n 128
  rw [hE] at hbd
  have HT := Lib.hid h
  replace hE := Lib.hid hE
  clear h h0
  have B0 := Lib.hid (Bel.refl w)
  go_enter Try.func22, Try.ntmps22
  go_wp2_with fail
  refine (check_v f n cap ad 128 E _ HT.out hE.out).mono ?_
  rintro e w1 ⟨rfl, hb⟩
  have B1 := Lib.hid (B0.out.up hb)
  clear hb B0  
  go_wp2_with fail
  go_ret2
  exact ⟨rfl, B1.out.out⟩
set_option maxRecDepth 100000 in
set_option maxHeartbeats 2000000 in
theorem Length_n (f : Nat → Tp) (n cap : Nat) (ad : Option Addr) (x t : Int) (E : Int) (w : World) (h : TsAt w ad n f) (hE : chk f n 128 = E) (h0 : E ≠ 0) :
    Calls Try.prog 28 #[.slice ad n cap, .int .i64 x, .int .i64 t] w fun e w' => e = .returned (.tuple #[.int .i64 0, .int .i64 E]) ∧ Below w.heap.size w w' := by
  have he : (E != 0) = true := by simpa using h0
  have he1 : (E == 0) = false := by simpa using h0
  have hbd := chk_bd f n 128
  rw [hE] at hbd
  have HT := Lib.hid h
  replace hE := Lib.hid hE
  clear h h0
  have B0 := Lib.hid (Bel.refl w)
  go_enter Try.func28, Try.ntmps28
  go_wp2_with fail
  refine (check_v f n cap ad 128 E _ HT.out hE.out).mono ?_
  rintro e w1 ⟨rfl, hb⟩
  have B1 := Lib.hid (B0.out.up hb)
  clear hb B0  
  go_wp2_with fail
  go_ret2
  exact ⟨rfl, B1.out.out⟩
set_option maxRecDepth 100000 in
set_option maxHeartbeats 2000000 in
theorem ratio_y (f : Nat → Tp) (n cap : Nat) (ad : Option Addr) (x : Int) (w : World) (h : TsAt w ad n f) (hE : chk f n 128 = 0) :
    Calls Try.prog 22 #[.slice ad n cap, .int .i64 x] w fun e w' => e = .returned (.tuple #[.int .i64 ((rat f x n).1 : Int), .int .i64 ((rat f x n).2 : Int)]) ∧ Below w.heap.size w w' := by
  have HT := Lib.hid h
  have HG := Lib.hid (Gd.chk hE)
  have hn := (chk_zero hE).2.2.1
  replace hE := Lib.hid hE
  clear h
  have B0 := Lib.hid (Bel.refl w)
  have T0 := Lib.hid HT.out
  go_enter Try.func22, Try.ntmps22
  go_wp2_with fail
  refine (check_v f n cap ad 128 0 _ T0.out hE.out).mono ?_
  rintro e w1 ⟨rfl, hb⟩
  have B1 := Lib.hid (B0.out.up hb)
  have T1 := Lib.hid (T0.out.up hb)
  clear hb B0 T0 
  go_wp2_with fail
  refine (under_ok f n cap ad x _ (by omega) HG.out T1.out).mono ?_
  rintro e w2 ⟨rfl, hb⟩
  have B2 := Lib.hid ((B1.out.up hb).alloc (.cells #[.int .i64 ((rat f x n).1 : Int), .int .i64 ((rat f x n).2 : Int)] 68))
  have T2 := Lib.hid ((T1.out.up hb).below ((Below.refl _ _).alloc (Nat.le_refl _) (.cells #[.int .i64 ((rat f x n).1 : Int), .int .i64 ((rat f x n).2 : Int)] 68)))
  have Q2 := Duo.new w2 (.int .i64 ((rat f x n).1 : Int)) (.int .i64 ((rat f x n).2 : Int)) 68 (w2.heap.size) (by simp)
  clear hb B1 T1 
  obtain ⟨qf0, qf1, qf2, qf3, qf4⟩ := id Q2
  go_wp2_with fail
  clear qf0 qf1 qf2 qf3 qf4
  refine Qt.regionAll (by kernel_rfl) (by kernel_rfl) ?_
  intro T f F hne
  have RB := Lib.hid (fun g => B2.out.up (F.below g))
  have RT := Lib.hid (fun g => T2.out.up (F.below g))
  have RQ := fun g => Q2.up (F.below g)
  have RQ0 := fun g => (RQ g).c0
  have RQ1 := fun g => (RQ g).c1
  repeat (go_big_quiet_step (fail))
  refine wpQuiet_nil ?_
  rintro _ ⟨g, rfl⟩
  have B3 := Lib.hid (RB.out g)
  have T3 := Lib.hid (RT.out g)
  have Q3 := RQ g
  clear F RB hne RT RQ RQ0 RQ1 B2 T2 Q2
  generalize f g = w3 at *
  clear f
  obtain ⟨qf0, qf1, qf2, qf3, qf4⟩ := id Q3
  go_wp2_with fail
  go_ret2
  exact ⟨rfl, B3.out.out⟩
set_option maxRecDepth 100000 in
set_option maxHeartbeats 2000000 in
theorem Length_lo (f : Nat → Tp) (n cap : Nat) (ad : Option Addr) (x t : Int) (w : World) (h : TsAt w ad n f) (hE : chk f n 128 = 0) (x0 : x < 0) :
    Calls Try.prog 28 #[.slice ad n cap, .int .i64 x, .int .i64 t] w fun e w' => e = .returned (.tuple #[.int .i64 0, .int .i64 2]) ∧ Below w.heap.size w w' := by
  have HT := Lib.hid h
  have HG := Lib.hid (Gd.chk hE)
  have hn := (chk_zero hE).2.2.1
  replace hE := Lib.hid hE
  clear h
  have g0 : decide (x < 0) = true := decide_eq_true x0
  have B0 := Lib.hid (Bel.refl w)
  have T0 := Lib.hid HT.out
  go_enter Try.func28, Try.ntmps28
  go_wp2_with fail
  refine (check_v f n cap ad 128 0 _ T0.out hE.out).mono ?_
  rintro e w1 ⟨rfl, hb⟩
  have B1 := Lib.hid (B0.out.up hb)
  have T1 := Lib.hid (T0.out.up hb)
  clear hb B0 T0 
  go_wp2_with fail
  go_ret2
  exact ⟨rfl, B1.out.out⟩
set_option maxRecDepth 100000 in
set_option maxHeartbeats 2000000 in
theorem Length_hi (f : Nat → Tp) (n cap : Nat) (ad : Option Addr) (x t : Int) (w : World) (h : TsAt w ad n f) (hE : chk f n 128 = 0) (x0 : 0 ≤ x) (x1 : 128 ≤ x) :
    Calls Try.prog 28 #[.slice ad n cap, .int .i64 x, .int .i64 t] w fun e w' => e = .returned (.tuple #[.int .i64 0, .int .i64 2]) ∧ Below w.heap.size w w' := by
  have HT := Lib.hid h
  have HG := Lib.hid (Gd.chk hE)
  have hn := (chk_zero hE).2.2.1
  replace hE := Lib.hid hE
  clear h
  have g0 : decide (x < 0) = false := decide_eq_false (by omega)
  have g1 : decide (128 ≤ x) = true := decide_eq_true x1
  have B0 := Lib.hid (Bel.refl w)
  have T0 := Lib.hid HT.out
  go_enter Try.func28, Try.ntmps28
  go_wp2_with fail
  refine (check_v f n cap ad 128 0 _ T0.out hE.out).mono ?_
  rintro e w1 ⟨rfl, hb⟩
  have B1 := Lib.hid (B0.out.up hb)
  have T1 := Lib.hid (T0.out.up hb)
  clear hb B0 T0 
  go_wp2_with fail
  go_ret2
  exact ⟨rfl, B1.out.out⟩
set_option maxRecDepth 100000 in
set_option maxHeartbeats 2000000 in
theorem Length_y (f : Nat → Tp) (n cap : Nat) (ad : Option Addr) (x t : Int) (w : World) (h : TsAt w ad n f) (hE : chk f n 128 = 0) (x0 : 0 ≤ x) (x1 : x < 128) :
    Calls Try.prog 28 #[.slice ad n cap, .int .i64 x, .int .i64 t] w fun e w' => e = .returned (.tuple #[.int .i64 (lenV f n x t), .int .i64 (lenE f n x t)]) ∧ Below w.heap.size w w' := by
  have HT := Lib.hid h
  have HG := Lib.hid (Gd.chk hE)
  have hn := (chk_zero hE).2.2.1
  replace hE := Lib.hid hE
  clear h
  have g0 : decide (x < 0) = false := decide_eq_false (by omega)
  have g1 : decide (128 ≤ x) = false := decide_eq_false (by omega)
  have hb1 := lenV_bd HG.out (x := x) (t := t)
  have hb2 := lenE_bd f n x t
  have B0 := Lib.hid (Bel.refl w)
  have T0 := Lib.hid HT.out
  go_enter Try.func28, Try.ntmps28
  go_wp2_with fail
  refine (check_v f n cap ad 128 0 _ T0.out hE.out).mono ?_
  rintro e w1 ⟨rfl, hb⟩
  have B1 := Lib.hid (B0.out.up hb)
  have T1 := Lib.hid (T0.out.up hb)
  clear hb B0 T0 
  go_wp2_with fail
  refine (length_ok f n cap ad x t _ (by omega) HG.out T1.out).mono ?_
  rintro e w2 ⟨rfl, hb⟩
  have B2 := Lib.hid (B1.out.up hb)
  have T2 := Lib.hid (T1.out.up hb)
  clear hb B1 T1 
  go_wp2_with fail
  go_ret2
  exact ⟨rfl, B2.out.out⟩
set_option maxRecDepth 100000 in
set_option maxHeartbeats 2000000 in
theorem depth_y (f : Nat → Tp) (n cap : Nat) (ad : Option Addr) (x : Int) (w : World) (h : TsAt w ad n f) (hE : chk f n 128 = 0) :
    Calls Try.prog 21 #[.slice ad n cap, .int .i64 x] w fun e w' => e = .returned (.int .i64 (cnt f x n : Int)) ∧ Below w.heap.size w w' := by
  have HT := Lib.hid h
  have HG := Lib.hid (Gd.chk hE)
  have hn := (chk_zero hE).2.2.1
  replace hE := Lib.hid hE
  clear h
  have B0 := Lib.hid (Bel.refl w)
  go_enter Try.func21, Try.ntmps21
  go_wp2_with fail
  refine (check_v f n cap ad 128 0 _ HT.out hE.out).mono ?_
  rintro e w1 ⟨rfl, hb⟩
  have B1 := Lib.hid (B0.out.up hb)
  clear hb B0  
  go_wp2_with fail
  go_loopg [13, 5] n (fun gm i c wr => ∃ k : Nat, k ≤ n ∧ gm = n - k ∧ i = .int .i64 (k : Int) ∧ c = .int .i64 (cnt f x k : Int) ∧ Hid (Bel w wr))
  case atStart => exact ⟨0, by omega, by omega, rfl, rfl, B1⟩
  case round =>
    clear B1
    obtain ⟨k, hk, rfl, rfl, rfl, B0⟩ := hrel
    obtain ⟨W0, hW0, B0⟩ : ∃ W0, W0 = _ ∧ Hid (Bel w W0) := ⟨_, rfl, B0⟩
    subst hW0
    by_cases hlt : k < n
    · obtain ⟨b, off, rfl, c0, c1, c2, c3⟩ := HT.out.up B0.out.out k hlt
      have hs := Lib.hid (HG.out.sm k hlt)
      have hc : cnt f x k ≤ 3 := Nat.le_trans (cnt_le (by omega)) (HG.out.ct x)
      by_cases hx : (f k).has x
      · have hxd : decide ((f k).has x) = true := decide_eq_true hx
        have HY := Lib.hid (show cnt f x (k + 1) = cnt f x k + 1 from if_pos hx)
        clear hx
        generalize cnt f x k = c at *
        have B1 := Lib.hid (B0.out.alloc (.cells #[.int .i64 (f k).F, .int .i64 (f k).C, .int .i64 (f k).A, .int .i64 (f k).N] 52))
        have Y1 := Quad.new W0 (.int .i64 (f k).F) (.int .i64 (f k).C) (.int .i64 (f k).A) (.int .i64 (f k).N) 52 _ rfl
        clear B0  
        obtain ⟨yf0, yf1, yf2, yf3, yf4, yf5, yf6, yf7, yf8⟩ := id Y1
        go_wp2_with fail
        clear yf0 yf1 yf2 yf3 yf4 yf5 yf6 yf7 yf8
        refine (contains_ok (f k) x _ hs.out).mono ?_
        rintro e w2 ⟨rfl, hb⟩
        rw [hxd]
        have B2 := Lib.hid (B1.out.up hb)
        have Y2 := Y1.up hb
        clear hb B1  Y1
        obtain ⟨yf0, yf1, yf2, yf3, yf4, yf5, yf6, yf7, yf8⟩ := id Y2
        go_wp2_with fail
        go_roundg (n - (k + 1))
        case measure => omega
        case rel => exact ⟨k + 1, by omega, rfl, by go_num, by rw [HY.out] <;> go_num, B2⟩
      · have hxd : decide ((f k).has x) = false := decide_eq_false hx
        have HY := Lib.hid (show cnt f x (k + 1) = cnt f x k from if_neg hx)
        clear hx
        generalize cnt f x k = c at *
        have B1 := Lib.hid (B0.out.alloc (.cells #[.int .i64 (f k).F, .int .i64 (f k).C, .int .i64 (f k).A, .int .i64 (f k).N] 52))
        have Y1 := Quad.new W0 (.int .i64 (f k).F) (.int .i64 (f k).C) (.int .i64 (f k).A) (.int .i64 (f k).N) 52 _ rfl
        clear B0  
        obtain ⟨yf0, yf1, yf2, yf3, yf4, yf5, yf6, yf7, yf8⟩ := id Y1
        go_wp2_with fail
        clear yf0 yf1 yf2 yf3 yf4 yf5 yf6 yf7 yf8
        refine (contains_ok (f k) x _ hs.out).mono ?_
        rintro e w2 ⟨rfl, hb⟩
        rw [hxd]
        have B2 := Lib.hid (B1.out.up hb)
        have Y2 := Y1.up hb
        clear hb B1  Y1
        obtain ⟨yf0, yf1, yf2, yf3, yf4, yf5, yf6, yf7, yf8⟩ := id Y2
        go_wp2_with fail
        go_roundg (n - (k + 1))
        case measure => omega
        case rel => exact ⟨k + 1, by omega, rfl, by go_num, by rw [HY.out] <;> go_num, B2⟩
    · obtain rfl : k = n := by omega
      go_wp2_with fail
      go_ret
      exact ⟨rfl, B0.out.out⟩
end Go.Proofs.Ytidggmfgbcmklaa
