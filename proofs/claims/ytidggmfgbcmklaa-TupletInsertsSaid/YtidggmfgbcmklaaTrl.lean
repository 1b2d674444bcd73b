/- Tuplets: the reference Lengths. -/
import Derived.Test.YtidggmfgbcmklaaTsc
namespace Go.Proofs.Ytidggmfgbcmklaa
open Go.RowKit
set_option linter.unusedVariables false
set_option linter.unusedSimpArgs false

theorem scale0 (f : Nat → Tp) (n cap : Nat) (ad : Option Addr) (x t : Int) (w : World) (hnb : n ≤ 1048576) (hg : Gd f n) (t0 : 0 ≤ t) (t1 : t ≤ 7741440) (h : TsAt w ad n f) :
    Calls Try.prog 29 #[.slice ad n cap, .int .i64 0, .int .i64 x, .int .i64 t] w fun e w' => e = .returned (.tuple #[.int .i64 (scV f x t n), .bool (scB f x t n)]) ∧ Below w.heap.size w w' := by
  have h0 := scale_ok f 0 n n cap ad x t w (by omega) hnb hg t0 t1 h
  rw [sh_zero] at h0
  exact h0
theorem lenE_zero {f : Nat → Tp} {n : Nat} {x t : Int} (h : lenE f n x t = 0) : 0 ≤ t ∧ t ≤ 7741440 := by
  unfold lenE at h
  by_cases e : t < 0 ∨ 7741440 < t
  · rw [if_pos e] at h; cases h
  · omega
def intsF (h : Nat → Int) : Nat → List Value
  | 0 => []
  | k + 1 => intsF h k ++ [.int .i64 (h k)]
theorem intsF_len (h : Nat → Int) (k : Nat) : (intsF h k).length = k := by
  induction k with
  | zero => rfl
  | succ k ih => show (intsF h k ++ _).length = _; rw [List.length_append, ih]; rfl
theorem intsF_at (h : Nat → Int) (n k : Nat) (hk : k < n) : (intsF h n)[k]? = some (.int .i64 (h k)) := by
  induction n with
  | zero => omega
  | succ n ih =>
    show (intsF h n ++ [.int .i64 (h n)])[k]? = _
    by_cases e : k < n
    · rw [List.getElem?_append_left (by rw [intsF_len]; omega)]; exact ih e
    · obtain rfl : k = n := by omega
      rw [List.getElem?_append_right (by rw [intsF_len]; omega), intsF_len]; simp
theorem IsAt.own {wr : World} {base n e : Nat} {v : Value} {f : Nat → Int} (h : wr.ownsRow base e 1 v n (intsF f n)) : ∃ ad cap, v = .slice ad n cap ∧ IsAt wr ad n f ∧ n ≤ cap := by
  obtain ⟨hl, hr⟩ := h
  rcases hr with ⟨rfl, h0⟩ | ⟨g, cap, cur, rfl, hg, hc, hn, _, hs, ht⟩
  · subst h0
    exact ⟨none, 0, rfl, fun k hk => by omega, by omega⟩
  · refine ⟨_, cap, rfl, fun k hk => ⟨g, 0, rfl, ?_⟩, hn⟩
    have := intsF_at f n k hk
    rw [← ht, List.getElem?_take] at this
    split at this
    · rw [Nat.zero_add]
      simp at this
      simp [World.cell?, hc, this]
    · cases this
theorem Fil.is {w : World} {b m : Nat} {vs : Nat → Int} (h : Fil w b m vs) : IsAt w (some ⟨b, 0, none⟩) m vs := fun k hk => ⟨b, 0, rfl, by rw [Nat.zero_add]; exact (h k hk).1⟩
/-- what the reference's Lengths hands back -/
def rlR (f : Nat → Tp) (n : Nat) (g : Nat → Int) (m : Nat) (E : Int) (w : World) (v : Value) : Prop := (E = 0 → ∃ ad c, v = .slice ad m c ∧ IsAt w ad m (lsV f n g)) ∧ (E ≠ 0 → v = .slice none 0 0)
set_option maxRecDepth 100000 in
set_option maxHeartbeats 8000000 in
theorem rlengths_n (f : Nat → Tp) (n cap : Nat) (ad : Option Addr) (g : Nat → Int) (m cap2 : Nat) (aw : Option Addr) (w : World) (h : TsAt w ad n f) (hw : IsAt w aw m g) (hm : m ≤ 1048576) (E : Int) (hE : chk f n m = E) (h0 : E ≠ 0) :
    Calls Try.prog 25 #[.slice ad n cap, .slice aw m cap2] w fun e w' => ∃ v, e = .returned (.tuple #[v, .int .i64 E]) ∧ Below w.heap.size w w' ∧ rlR f n g m E w' v := by
  have he : (E != 0) = true := by simpa using h0
  have he1 : (E == 0) = false := by simpa using h0
  have hbd := chk_bd f n m
  rw [hE] at hbd
  have HT := Lib.hid h
  have HR := Lib.hid (fun u h => rcheck_ok f n cap ad m u h)
  rw [hE] at HR
  have HN := Lib.hid h0
  clear h h0 hw hE
  go_enter Try.func25, Try.ntmps25
  go_wp2_with fail
  refine (HR.out _ HT.out).mono ?_
  rintro e w1 ⟨rfl, hb⟩
  go_wp2_with fail
  go_ret2
  exact ⟨_, rfl, hb, fun e => absurd e HN.out, fun _ => rfl⟩
set_option maxRecDepth 100000 in
set_option maxHeartbeats 8000000 in
theorem rlengths_y (f : Nat → Tp) (n cap : Nat) (ad : Option Addr) (g : Nat → Int) (m cap2 : Nat) (aw : Option Addr) (w : World) (h : TsAt w ad n f) (hw : IsAt w aw m g) (hm : m ≤ 1048576) (hE : chk f n m = 0) (hz : ∀ i, i < m → lenE f n i (g i) = 0) :
    Calls Try.prog 25 #[.slice ad n cap, .slice aw m cap2] w fun e w' => ∃ v, e = .returned (.tuple #[v, .int .i64 0]) ∧ Below w.heap.size w w' ∧ rlR f n g m 0 w' v := by
  have HT := Lib.hid h
  have HW := Lib.hid hw
  have HG := Lib.hid (Gd.chk hE)
  have hn := (chk_zero hE).2.2.1
  have hmm := (chk_zero hE).2.1
  have HV := Lib.hid (fun k => lsV_bd hE g k)
  have HR := Lib.hid (fun u h => rcheck_ok f n cap ad m u h)
  rw [hE] at HR
  obtain ⟨i0, hinf, hz0, hz1, hz2⟩ := info_parts infoI
  clear h hw hE
  replace hz := Lib.hid hz
  go_enter Try.func25, Try.ntmps25
  go_wp2_with fail
  refine (HR.out _ HT.out).mono ?_
  rintro e w1 ⟨rfl, hb⟩
  have B2 := Lib.hid (show Bel w w1 from hb)
  have O2 := Lib.hid (show w1.ownsRow w.heap.size 3 1 (.slice none 0 0) 0 (intsF (lsV f n g) 0) from World.ownsRow_nil _ _ _ _)
  clear hb
  go_wp2_with fail
  go_loopg [8, 7] m (fun gm i v wr => ∃ k : Nat, k ≤ m ∧ gm = m - k ∧ i = .int .i64 (k : Int) ∧ Hid (Bel w wr) ∧ Hid (wr.ownsRow w.heap.size 3 1 v k (intsF (lsV f n g) k)))
  case atStart => exact ⟨0, by omega, by omega, rfl, B2, O2⟩
  case round =>
    clear B2 O2
    obtain ⟨k, hk, rfl, rfl, HB, HO⟩ := hrel
    obtain ⟨W0, hW0, B0, O0⟩ : ∃ W0, W0 = _ ∧ Hid (Bel w W0) ∧ Hid (W0.ownsRow w.heap.size 3 1 _ k (intsF (lsV f n g) k)) := ⟨_, rfl, HB, HO⟩
    subst hW0
    clear HB HO
    by_cases hlt : k < m
    · have h0 : lenE f n k (g k) = 0 := hz.out k hlt
      obtain ⟨b2, o2, rfl, q0⟩ := HW.out.up B0.out.out k (by omega)
      have hkn : decide ((k : Int) < (m : Int)) = true := decide_eq_true (by omega)
      obtain ⟨t0, t1⟩ := lenE_zero h0
      have hd0 : decide (g k < 0) = false := decide_eq_false (by omega)
      have hd1 : decide (7741440 < g k) = false := decide_eq_false (by omega)
      have hsb : scB f k (g k) n = true := by rw [sc_lenE HG.out t0 t1, h0]; rfl
      have hsv : scV f k (g k) n = lsV f n g k := sc_lenV HG.out t0 h0
      have hvb := HV.out k
      have HX := Lib.hid (show intsF (lsV f n g) (k + 1) = intsF (lsV f n g) k ++ [.int .i64 (lsV f n g k)] from rfl)
      replace hsb := Lib.hid hsb
      replace hsv := Lib.hid hsv
      generalize lsV f n g k = X at *
      go_wp2_with fail
      refine (scale0 f n cap ad k (g k) _ (by omega) HG.out t0 t1 (HT.out.up B0.out.out)).mono ?_
      rintro e w3 ⟨rfl, hb⟩
      rw [hsb.out, hsv.out]
      have B3 := Lib.hid (B0.out.up hb)
      have O3 := Lib.hid (World.ownsRow.kept O0.out (grown_of_below hb) (by cases (Value.ownBlock _) <;> simp))
      have hws := B3.out.size
      clear hb B0 O0
      go_wp2_with (first | (at_builtin; refine wpList_append_own _ rfl _ _ 40 rfl w.heap.size 3 i0 (.int .i64 0) 1 8 Try.underlying40 hinf hz0 hz1 hz2 rfl (by decide) _ _ _ rfl (O3.out.alloc _) ⟨w3.heap.size, 0, none⟩ 1 1 [.int .i64 X] rfl rfl (cell1_new _ _ _ _ rfl) (by simp [Value.oneCell']) (by unfold maxLen; omega) (by omega) (by simp; omega) ?_; intro v' w9 hown' hgrow _))
      go_roundg (m - (k + 1))
      case measure => omega
      case rel => exact ⟨k + 1, by omega, rfl, by go_num, Lib.hid (Below.grown (B3.out.alloc _) hgrow (by simp; omega) (fun r hr => (O3.out.lt r hr).1)), by rw [HX.out]; exact hown'⟩
    · obtain rfl : k = m := by omega
      have hkn : decide ((k : Int) < (k : Int)) = false := decide_eq_false (by omega)
      obtain ⟨ad2, c2, rfl, hI, _⟩ := IsAt.own O0.out
      go_wp2_with fail
      go_ret2
      exact ⟨_, rfl, B0.out.out, fun _ => ⟨_, _, rfl, hI⟩, fun h => absurd rfl h⟩
set_option maxRecDepth 100000 in
set_option maxHeartbeats 8000000 in
theorem rlengths_b (f : Nat → Tp) (n cap : Nat) (ad : Option Addr) (g : Nat → Int) (m cap2 : Nat) (aw : Option Addr) (w : World) (h : TsAt w ad n f) (hw : IsAt w aw m g) (hm : m ≤ 1048576) (hE : chk f n m = 0) (j : Nat) (hj : j < m) (hz : ∀ i, i < j → lenE f n i (g i) = 0) (E : Int) (hne : lenE f n j (g j) ≠ 0) (hEE : lenE f n j (g j) = E) :
    Calls Try.prog 25 #[.slice ad n cap, .slice aw m cap2] w fun e w' => ∃ v, e = .returned (.tuple #[v, .int .i64 E]) ∧ Below w.heap.size w w' ∧ rlR f n g m E w' v := by
  have HT := Lib.hid h
  have HW := Lib.hid hw
  have HG := Lib.hid (Gd.chk hE)
  have hn := (chk_zero hE).2.2.1
  have hmm := (chk_zero hE).2.1
  have HV := Lib.hid (fun k => lsV_bd hE g k)
  have HR := Lib.hid (fun u h => rcheck_ok f n cap ad m u h)
  rw [hE] at HR
  obtain ⟨i0, hinf, hz0, hz1, hz2⟩ := info_parts infoI
  clear h hw hE
  replace hz := Lib.hid hz
  replace hne := Lib.hid hne
  replace hEE := Lib.hid hEE
  go_enter Try.func25, Try.ntmps25
  go_wp2_with fail
  refine (HR.out _ HT.out).mono ?_
  rintro e w1 ⟨rfl, hb⟩
  have B2 := Lib.hid (show Bel w w1 from hb)
  have O2 := Lib.hid (show w1.ownsRow w.heap.size 3 1 (.slice none 0 0) 0 (intsF (lsV f n g) 0) from World.ownsRow_nil _ _ _ _)
  clear hb
  go_wp2_with fail
  go_loopg [8, 7] m (fun gm i v wr => ∃ k : Nat, k ≤ j ∧ gm = m - k ∧ i = .int .i64 (k : Int) ∧ Hid (Bel w wr) ∧ Hid (wr.ownsRow w.heap.size 3 1 v k (intsF (lsV f n g) k)))
  case atStart => exact ⟨0, by omega, by omega, rfl, B2, O2⟩
  case round =>
    clear B2 O2
    obtain ⟨k, hk, rfl, rfl, HB, HO⟩ := hrel
    obtain ⟨W0, hW0, B0, O0⟩ : ∃ W0, W0 = _ ∧ Hid (Bel w W0) ∧ Hid (W0.ownsRow w.heap.size 3 1 _ k (intsF (lsV f n g) k)) := ⟨_, rfl, HB, HO⟩
    subst hW0
    clear HB HO
    by_cases hlt : k < j
    · have h0 : lenE f n k (g k) = 0 := hz.out k hlt
      clear hne hEE
      obtain ⟨b2, o2, rfl, q0⟩ := HW.out.up B0.out.out k (by omega)
      have hkn : decide ((k : Int) < (m : Int)) = true := decide_eq_true (by omega)
      obtain ⟨t0, t1⟩ := lenE_zero h0
      have hd0 : decide (g k < 0) = false := decide_eq_false (by omega)
      have hd1 : decide (7741440 < g k) = false := decide_eq_false (by omega)
      have hsb : scB f k (g k) n = true := by rw [sc_lenE HG.out t0 t1, h0]; rfl
      have hsv : scV f k (g k) n = lsV f n g k := sc_lenV HG.out t0 h0
      have hvb := HV.out k
      have HX := Lib.hid (show intsF (lsV f n g) (k + 1) = intsF (lsV f n g) k ++ [.int .i64 (lsV f n g k)] from rfl)
      replace hsb := Lib.hid hsb
      replace hsv := Lib.hid hsv
      generalize lsV f n g k = X at *
      go_wp2_with fail
      refine (scale0 f n cap ad k (g k) _ (by omega) HG.out t0 t1 (HT.out.up B0.out.out)).mono ?_
      rintro e w3 ⟨rfl, hb⟩
      rw [hsb.out, hsv.out]
      have B3 := Lib.hid (B0.out.up hb)
      have O3 := Lib.hid (World.ownsRow.kept O0.out (grown_of_below hb) (by cases (Value.ownBlock _) <;> simp))
      have hws := B3.out.size
      clear hb B0 O0
      go_wp2_with (first | (at_builtin; refine wpList_append_own _ rfl _ _ 40 rfl w.heap.size 3 i0 (.int .i64 0) 1 8 Try.underlying40 hinf hz0 hz1 hz2 rfl (by decide) _ _ _ rfl (O3.out.alloc _) ⟨w3.heap.size, 0, none⟩ 1 1 [.int .i64 X] rfl rfl (cell1_new _ _ _ _ rfl) (by simp [Value.oneCell']) (by unfold maxLen; omega) (by omega) (by simp; omega) ?_; intro v' w9 hown' hgrow _))
      go_roundg (m - (k + 1))
      case measure => omega
      case rel => exact ⟨k + 1, by omega, rfl, by go_num, Lib.hid (Below.grown (B3.out.alloc _) hgrow (by simp; omega) (fun r hr => (O3.out.lt r hr).1)), by rw [HX.out]; exact hown'⟩
    · obtain rfl : k = j := by omega
      obtain ⟨b2, o2, rfl, q0⟩ := HW.out.up B0.out.out k (by omega)
      have hkn : decide ((k : Int) < (m : Int)) = true := decide_eq_true (by omega)
      by_cases t0 : g k < 0
      · have hd0 : decide (g k < 0) = true := decide_eq_true t0
        obtain rfl : E = 2 := by rw [← hEE.out]; unfold lenE; rw [if_pos (.inl t0)]
        go_wp2_with fail
        go_ret2
        exact ⟨_, rfl, B0.out.out, fun e => absurd e (by decide), fun _ => rfl⟩
      · have hd0 : decide (g k < 0) = false := decide_eq_false t0
        by_cases t1 : 7741440 < g k
        · have hd1 : decide (7741440 < g k) = true := decide_eq_true t1
          obtain rfl : E = 2 := by rw [← hEE.out]; unfold lenE; rw [if_pos (.inr t1)]
          go_wp2_with fail
          go_ret2
          exact ⟨_, rfl, B0.out.out, fun e => absurd e (by decide), fun _ => rfl⟩
        · have hd1 : decide (7741440 < g k) = false := decide_eq_false t1
          obtain rfl : E = 16 := by
            rw [← hEE.out]
            rcases lenE_bd f n k (g k) with h | h | h
            · exact absurd h hne.out
            · unfold lenE at h; rw [if_neg (by omega)] at h; split at h <;> cases h
            · exact h
          have hsb := Lib.hid (show scB f k (g k) n = false by rw [sc_lenE HG.out (by omega) (by omega), hEE.out]; rfl)
          have hcv : scV f k (g k) n = scV f k (g k) n := rfl
          go_wp2_with fail
          refine (scale0 f n cap ad k (g k) _ (by omega) HG.out (by omega) (by omega) (HT.out.up B0.out.out)).mono ?_
          rintro e w3 ⟨rfl, hb⟩
          rw [hsb.out]
          have B3 := Lib.hid (B0.out.up hb)
          clear hb B0 O0
          go_wp2_with fail
          go_ret2
          exact ⟨_, rfl, B3.out.out, fun e => absurd e (by decide), fun _ => rfl⟩
theorem rlengths_ok (f : Nat → Tp) (n cap : Nat) (ad : Option Addr) (g : Nat → Int) (m cap2 : Nat) (aw : Option Addr) (w : World) (h : TsAt w ad n f) (hw : IsAt w aw m g) (hm : m ≤ 1048576) : Calls Try.prog 25 #[.slice ad n cap, .slice aw m cap2] w fun e w' => ∃ v, e = .returned (.tuple #[v, .int .i64 (lsE f n g m)]) ∧ Below w.heap.size w w' ∧ rlR f n g m (lsE f n g m) w' v := by
  by_cases hE : chk f n m = 0
  · rw [lsE_zero hE]
    rcases fnz_cases (fun k => lenE f n k (g k)) m with ⟨hz, e⟩ | ⟨j, hj, hz, hne, e⟩
    · rw [e]; exact rlengths_y f n cap ad g m cap2 aw w h hw hm hE hz
    · rw [e]; exact rlengths_b f n cap ad g m cap2 aw w h hw hm hE j hj hz _ hne rfl
  · rw [lsE_chk hE]; exact rlengths_n f n cap ad g m cap2 aw w h hw hm _ rfl hE
end Go.Proofs.Ytidggmfgbcmklaa
