/- Tuplets: Lengths. -/
import Derived.Test.YtidggmfgbcmklaaTp
namespace Go.Proofs.Ytidggmfgbcmklaa
open Go.RowKit
set_option linter.unusedVariables false
set_option linter.unusedSimpArgs false

/-- the error of the lengths, and the lengths -/
def lsE (f : Nat → Tp) (n : Nat) (g : Nat → Int) (m : Nat) : Int := if chk f n m ≠ 0 then chk f n m else fnz (fun k => lenE f n k (g k)) m 0
def lsV (f : Nat → Tp) (n : Nat) (g : Nat → Int) (k : Nat) : Int := lenV f n k (g k)
theorem lsE_chk {f : Nat → Tp} {n m : Nat} {g : Nat → Int} (h : chk f n m ≠ 0) : lsE f n g m = chk f n m := if_pos h
theorem lsE_zero {f : Nat → Tp} {n m : Nat} {g : Nat → Int} (h : chk f n m = 0) : lsE f n g m = fnz (fun k => lenE f n k (g k)) m 0 := if_neg (fun e => e h)
theorem lsE_bd (f : Nat → Tp) (n m : Nat) (g : Nat → Int) : 0 ≤ lsE f n g m ∧ lsE f n g m ≤ 25 := by
  have := chk_bd f n m
  by_cases h : chk f n m = 0
  · rw [lsE_zero h]
    rcases fnz_cases (fun k => lenE f n k (g k)) m with ⟨_, e⟩ | ⟨j, _, _, _, e⟩
    · omega
    · rw [e]; have := lenE_bd f n j (g j); show 0 ≤ lenE f n j (g j) ∧ lenE f n j (g j) ≤ 25; omega
  · rw [lsE_chk h]; exact this
theorem lsV_bd {f : Nat → Tp} {n m : Nat} (h : chk f n m = 0) (g : Nat → Int) (k : Nat) : 0 ≤ lsV f n g k ∧ lsV f n g k ≤ 253671505920 := lenV_bd (Gd.chk h)
/-- what Lengths hands back -/
def lsR (f : Nat → Tp) (n : Nat) (g : Nat → Int) (m : Nat) (E : Int) (w0 : Nat) (w : World) (v : Value) : Prop := (E = 0 → ∃ b, v = .slice (some ⟨b, 0, none⟩) m m ∧ w0 ≤ b ∧ Fil w b m (lsV f n g)) ∧ (E ≠ 0 → v = .slice none 0 0)
set_option maxRecDepth 100000 in
set_option maxHeartbeats 8000000 in
theorem lengths_n (f : Nat → Tp) (n cap : Nat) (ad : Option Addr) (g : Nat → Int) (m cap2 : Nat) (aw : Option Addr) (w : World) (h : TsAt w ad n f) (hw : IsAt w aw m g) (hm : m ≤ 1048576) (E : Int) (hE : chk f n m = E) (h0 : E ≠ 0) :
    Calls Try.prog 24 #[.slice ad n cap, .slice aw m cap2] w fun e w' => ∃ v, e = .returned (.tuple #[v, .int .i64 E]) ∧ Below w.heap.size w w' ∧ lsR f n g m E w.heap.size w' v := by
  have he : (E != 0) = true := by simpa using h0
  have he1 : (E == 0) = false := by simpa using h0
  have hbd := chk_bd f n m
  rw [hE] at hbd
  have HT := Lib.hid h
  replace hE := Lib.hid hE
  have HN := Lib.hid h0
  clear h h0 hw
  go_enter Try.func24, Try.ntmps24
  go_wp2_with fail
  refine (check_v f n cap ad m E _ HT.out hE.out).mono ?_
  rintro e w1 ⟨rfl, hb⟩
  go_wp2_with fail
  go_ret2
  exact ⟨_, rfl, hb, fun e => absurd e HN.out, fun _ => rfl⟩
set_option maxRecDepth 100000 in
set_option maxHeartbeats 8000000 in
theorem lengths_y (f : Nat → Tp) (n cap : Nat) (ad : Option Addr) (g : Nat → Int) (m cap2 : Nat) (aw : Option Addr) (w : World) (h : TsAt w ad n f) (hw : IsAt w aw m g) (hm : m ≤ 1048576) (hE : chk f n m = 0) (hz : ∀ i, i < m → lenE f n i (g i) = 0) :
    Calls Try.prog 24 #[.slice ad n cap, .slice aw m cap2] w fun e w' => ∃ v, e = .returned (.tuple #[v, .int .i64 0]) ∧ Below w.heap.size w w' ∧ lsR f n g m 0 w.heap.size w' v := by
  have HT := Lib.hid h
  have HW := Lib.hid hw
  have HG := Lib.hid (Gd.chk hE)
  have hn := (chk_zero hE).2.2.1
  have hmm := (chk_zero hE).2.1
  have HV := Lib.hid (fun k => lsV_bd hE g k)
  replace hE := Lib.hid hE
  have hmk := make_int m (by omega)
  clear h hw
  replace hz := Lib.hid hz
  go_enter Try.func24, Try.ntmps24
  go_wp2_with fail
  refine (check_v f n cap ad m 0 _ HT.out hE.out).mono ?_
  rintro e w1 ⟨rfl, hb⟩
  have B1 := Lib.hid (show Bel w w1 from hb)
  have B2 := Lib.hid (B1.out.alloc (.cells (madeCells #[.int .i64 0] m) 3))
  have F2 := Lib.hid (fil_made w1 m 3 w1.heap.size rfl)
  have hsz := B1.out.size
  clear hb B1
  generalize hgb : w1.heap.size = gb at *
  go_wp2_with fail
  try rw [hgb]
  go_loopg [24] m (fun gm i wr => ∃ k : Nat, k ≤ m ∧ gm = m - k ∧ i = .int .i64 (k : Int) ∧ Hid (Bel w wr) ∧ Hid (Fil wr gb m (fun j => if j < k then lsV f n g j else 0)))
  case atStart => exact ⟨0, by omega, by omega, rfl, B2, F2.out.eq (fun j hj => by simp)⟩
  case round =>
    clear B2 F2 hmk
    obtain ⟨k, hk, rfl, rfl, HB, HF⟩ := hrel
    obtain ⟨W0, hW0, B0, G0⟩ : ∃ W0, W0 = _ ∧ Hid (Bel w W0) ∧ Hid (Fil W0 gb m (fun j => if j < k then lsV f n g j else 0)) := ⟨_, rfl, HB, HF⟩
    subst hW0
    clear HB HF
    by_cases hlt : k < m
    · have h0 : lenE f n k (g k) = 0 := hz.out k hlt
      obtain ⟨b2, o2, rfl, q0⟩ := HW.out.up B0.out.out k (by omega)
      have hkn : decide ((k : Int) < (m : Int)) = true := decide_eq_true (by omega)
      have HL := Lib.hid (show lsV f n g k = lenV f n k (g k) from rfl)
      have hvb := HV.out k
      rw [HL.out] at hvb
      generalize hX : lenV f n k (g k) = X at *
      replace hX := Lib.hid hX
      go_wp2_with fail
      refine (length_ok f n cap ad k (g k) _ (by omega) HG.out (HT.out.up B0.out.out)).mono ?_
      rintro e w1 ⟨rfl, hb⟩
      rw [hX.out, h0]
      have B1 := Lib.hid (B0.out.up hb)
      have G1 := Lib.hid (G0.out.up hb)
      clear hb B0 G0 
      obtain ⟨gk1, gk2⟩ := G1.out k (by omega)
      have hB := Lib.hid (B1.out.set (b := gb) (by omega) k (.int .i64 X))
      have hF := Lib.hid (G1.out.nextF (k := k) (h := lsV f n g) (by omega) HL.out)
      go_wp2_with fail
      go_roundg (m - (k + 1))
      case measure => omega
      case rel => exact ⟨k + 1, by omega, rfl, by go_num, hB, hF⟩
    · obtain rfl : k = m := by omega
      have hkn : decide ((k : Int) < (k : Int)) = false := decide_eq_false (by omega)
      go_wp2_with fail
      go_ret2
      exact ⟨_, rfl, B0.out.out, fun _ => ⟨_, rfl, by omega, G0.out.eq (fun j hj => by simp [hj])⟩, fun h => absurd rfl h⟩
set_option maxRecDepth 100000 in
set_option maxHeartbeats 8000000 in
theorem lengths_b (f : Nat → Tp) (n cap : Nat) (ad : Option Addr) (g : Nat → Int) (m cap2 : Nat) (aw : Option Addr) (w : World) (h : TsAt w ad n f) (hw : IsAt w aw m g) (hm : m ≤ 1048576) (hE : chk f n m = 0) (j : Nat) (hj : j < m) (hz : ∀ i, i < j → lenE f n i (g i) = 0) (E : Int) (hne : lenE f n j (g j) ≠ 0) (hEE : lenE f n j (g j) = E) :
    Calls Try.prog 24 #[.slice ad n cap, .slice aw m cap2] w fun e w' => ∃ v, e = .returned (.tuple #[v, .int .i64 E]) ∧ Below w.heap.size w w' ∧ lsR f n g m E w.heap.size w' v := by
  have HT := Lib.hid h
  have HW := Lib.hid hw
  have HG := Lib.hid (Gd.chk hE)
  have hn := (chk_zero hE).2.2.1
  have hmm := (chk_zero hE).2.1
  have HV := Lib.hid (fun k => lsV_bd hE g k)
  replace hE := Lib.hid hE
  have hmk := make_int m (by omega)
  clear h hw
  replace hz := Lib.hid hz
  replace hne := Lib.hid hne
  replace hEE := Lib.hid hEE
  go_enter Try.func24, Try.ntmps24
  go_wp2_with fail
  refine (check_v f n cap ad m 0 _ HT.out hE.out).mono ?_
  rintro e w1 ⟨rfl, hb⟩
  have B1 := Lib.hid (show Bel w w1 from hb)
  have B2 := Lib.hid (B1.out.alloc (.cells (madeCells #[.int .i64 0] m) 3))
  have F2 := Lib.hid (fil_made w1 m 3 w1.heap.size rfl)
  have hsz := B1.out.size
  clear hb B1
  generalize hgb : w1.heap.size = gb at *
  go_wp2_with fail
  try rw [hgb]
  go_loopg [24] m (fun gm i wr => ∃ k : Nat, k ≤ j ∧ gm = m - k ∧ i = .int .i64 (k : Int) ∧ Hid (Bel w wr) ∧ Hid (Fil wr gb m (fun j => if j < k then lsV f n g j else 0)))
  case atStart => exact ⟨0, by omega, by omega, rfl, B2, F2.out.eq (fun j hj => by simp)⟩
  case round =>
    clear B2 F2 hmk
    obtain ⟨k, hk, rfl, rfl, HB, HF⟩ := hrel
    obtain ⟨W0, hW0, B0, G0⟩ : ∃ W0, W0 = _ ∧ Hid (Bel w W0) ∧ Hid (Fil W0 gb m (fun j => if j < k then lsV f n g j else 0)) := ⟨_, rfl, HB, HF⟩
    subst hW0
    clear HB HF
    by_cases hlt : k < j
    · have h0 : lenE f n k (g k) = 0 := hz.out k hlt
      clear hne hEE
      obtain ⟨b2, o2, rfl, q0⟩ := HW.out.up B0.out.out k (by omega)
      have hkn : decide ((k : Int) < (m : Int)) = true := decide_eq_true (by omega)
      have HL := Lib.hid (show lsV f n g k = lenV f n k (g k) from rfl)
      have hvb := HV.out k
      rw [HL.out] at hvb
      generalize hX : lenV f n k (g k) = X at *
      replace hX := Lib.hid hX
      go_wp2_with fail
      refine (length_ok f n cap ad k (g k) _ (by omega) HG.out (HT.out.up B0.out.out)).mono ?_
      rintro e w1 ⟨rfl, hb⟩
      rw [hX.out, h0]
      have B1 := Lib.hid (B0.out.up hb)
      have G1 := Lib.hid (G0.out.up hb)
      clear hb B0 G0 
      obtain ⟨gk1, gk2⟩ := G1.out k (by omega)
      have hB := Lib.hid (B1.out.set (b := gb) (by omega) k (.int .i64 X))
      have hF := Lib.hid (G1.out.nextF (k := k) (h := lsV f n g) (by omega) HL.out)
      go_wp2_with fail
      go_roundg (m - (k + 1))
      case measure => omega
      case rel => exact ⟨k + 1, by omega, rfl, by go_num, hB, hF⟩
    · obtain rfl : k = j := by omega
      obtain ⟨b2, o2, rfl, q0⟩ := HW.out.up B0.out.out k (by omega)
      have hkn : decide ((k : Int) < (m : Int)) = true := decide_eq_true (by omega)
      have hX : lenV f n k (g k) = 0 := by unfold lenV; rw [if_neg hne.out]
      replace hX := Lib.hid hX
      generalize hT : g k = T at *
      replace hT := Lib.hid hT
      generalize hE2 : lenE f n k T = E2 at *
      replace hE2 := Lib.hid hE2
      have hbd : E2 = 2 ∨ E2 = 16 := by have := lenE_bd f n k T; rw [hE2.out] at this; have := hne.out; omega
      have hq1 : (E2 != 0) = true := by have := hne.out; simpa using this
      have hq2 : (E2 == 0) = false := by have := hne.out; simpa using this
      go_wp2_with fail
      refine (length_ok f n cap ad k T _ (by omega) HG.out (HT.out.up B0.out.out)).mono ?_
      rintro e w1 ⟨rfl, hb⟩
      rw [hX.out, hE2.out]
      have B1 := Lib.hid (B0.out.up hb)
      have G1 := Lib.hid (G0.out.up hb)
      clear hb B0 G0 
      go_wp2_with fail
      go_ret2
      exact ⟨_, by rw [← hEE.out]; rfl, B1.out.out, fun e => absurd (hEE.out.trans e) hne.out, fun _ => rfl⟩
theorem lengths_ok (f : Nat → Tp) (n cap : Nat) (ad : Option Addr) (g : Nat → Int) (m cap2 : Nat) (aw : Option Addr) (w : World) (h : TsAt w ad n f) (hw : IsAt w aw m g) (hm : m ≤ 1048576) : Calls Try.prog 24 #[.slice ad n cap, .slice aw m cap2] w fun e w' => ∃ v, e = .returned (.tuple #[v, .int .i64 (lsE f n g m)]) ∧ Below w.heap.size w w' ∧ lsR f n g m (lsE f n g m) w.heap.size w' v := by
  by_cases hE : chk f n m = 0
  · rw [lsE_zero hE]
    rcases fnz_cases (fun k => lenE f n k (g k)) m with ⟨hz, e⟩ | ⟨j, hj, hz, hne, e⟩
    · rw [e]; exact lengths_y f n cap ad g m cap2 aw w h hw hm hE hz
    · rw [e]; exact lengths_b f n cap ad g m cap2 aw w h hw hm hE j hj hz _ hne rfl
  · rw [lsE_chk hE]; exact lengths_n f n cap ad g m cap2 aw w h hw hm _ rfl hE
end Go.Proofs.Ytidggmfgbcmklaa
