/- Keys: law KeyScales. -/
import Derived.Test.YthdkfeehabpikaaDoorMo
import Derived.Test.YthdkfeehabpikaaDoorKn
import Derived.Test.YthdkfeehabpikaaDoorMr
namespace Go.Proofs.YthdkfeehabpikaaDoor
open Go.RowKit
set_option linter.unusedVariables false
set_option linter.unusedSimpArgs false

theorem scale_yes (f T o : Int) (w : World) (h : Sg f) (hT : shI ((f + 1) % 7) = T) (ho : -1 ≤ o ∧ (o ≤ 8 ∨ o = 9 ∧ T ≤ 0)) (hk : KT w) :
    Calls Tryd.prog 7 #[.int .i64 f, .bool false, .int .i64 o] w fun e w' => ∃ b, e = .returned (.tuple #[.slice (some ⟨b, 0, none⟩) 7 7, .int .i64 0]) ∧ Cel w' b (tgt f T o) ∧ Below w.heap.size w w' := by
  rcases ho with ⟨o0, h1 | ⟨rfl, h2⟩⟩
  · exact scale_in f T o w h hT o0 h1 hk
  · exact scale_top f T w h hT h2 hk
theorem scale_no (f T o : Int) (w : World) (h : Sg f) (hT : shI ((f + 1) % 7) = T) (ho : ¬ (-1 ≤ o ∧ (o ≤ 8 ∨ o = 9 ∧ T ≤ 0))) (hk : KT w) :
    Calls Tryd.prog 7 #[.int .i64 f, .bool false, .int .i64 o] w fun e w' => e = .returned (.tuple #[.slice none 0 0, .int .i64 18]) ∧ Below w.heap.size w w' := by
  by_cases h1 : o < -1
  · exact scale_b1 f T o w h hT h1 hk
  · by_cases h2 : 9 < o
    · exact scale_b2 f T o w h hT h2 hk
    · exact scale_b3 f T o w h hT (by omega) (by omega) hk
theorem mscale_yes (f T o : Int) (w : World) (h : Sg f) (hT : shI ((f + 3 + 1) % 7) = T) (ho : -1 ≤ o ∧ (o ≤ 8 ∨ o = 9 ∧ T ≤ 0)) (hk : KT w) :
    Calls Tryd.prog 7 #[.int .i64 f, .bool true, .int .i64 o] w fun e w' => ∃ b, e = .returned (.tuple #[.slice (some ⟨b, 0, none⟩) 7 7, .int .i64 0]) ∧ Cel w' b (tgt f T o) ∧ Below w.heap.size w w' := by
  rcases ho with ⟨o0, h1 | ⟨rfl, h2⟩⟩
  · exact mscale_in f T o w h hT o0 h1 hk
  · exact mscale_top f T w h hT h2 hk
theorem mscale_no (f T o : Int) (w : World) (h : Sg f) (hT : shI ((f + 3 + 1) % 7) = T) (ho : ¬ (-1 ≤ o ∧ (o ≤ 8 ∨ o = 9 ∧ T ≤ 0))) (hk : KT w) :
    Calls Tryd.prog 7 #[.int .i64 f, .bool true, .int .i64 o] w fun e w' => e = .returned (.tuple #[.slice none 0 0, .int .i64 18]) ∧ Below w.heap.size w w' := by
  by_cases h1 : o < -1
  · exact mscale_b1 f T o w h hT h1 hk
  · by_cases h2 : 9 < o
    · exact mscale_b2 f T o w h hT h2 hk
    · exact mscale_b3 f T o w h hT (by omega) (by omega) hk
/-- the steps of a scale are those of a major or of a minor one -/
def mjI (k : Nat) : Int := ([2, 2, 1, 2, 2, 2] : List Int).getD k 0
def mnI (k : Nat) : Int := ([2, 1, 2, 2, 1, 2] : List Int).getD k 0
theorem mj_all : ∀ (f : Fin 15) (k : Fin 6), (let F := (f.val : Int) - 7; let T := shI ((F + 1) % 7); nmI ((T + ((k.val + 1 : Nat) : Int)) % 7) (alI F ((T + ((k.val + 1 : Nat) : Int)) % 7)) (0 + (T + ((k.val + 1 : Nat) : Int)) / 7) - nmI ((T + (k.val : Int)) % 7) (alI F ((T + (k.val : Int)) % 7)) (0 + (T + (k.val : Int)) / 7) = mjI k.val) := by decide +kernel
theorem mn_all : ∀ (f : Fin 15) (k : Fin 6), (let F := (f.val : Int) - 7; let T := shI ((F + 3 + 1) % 7); nmI ((T + ((k.val + 1 : Nat) : Int)) % 7) (alI F ((T + ((k.val + 1 : Nat) : Int)) % 7)) (0 + (T + ((k.val + 1 : Nat) : Int)) / 7) - nmI ((T + (k.val : Int)) % 7) (alI F ((T + (k.val : Int)) % 7)) (0 + (T + (k.val : Int)) / 7) = mnI k.val) := by decide +kernel
theorem nmI_oct (s a o x : Int) : nmI s a (o + x) = nmI s a (0 + x) + 12 * o := by unfold nmI; omega
theorem mj_at {f o : Int} {k : Nat} (h : Sg f) (hk : k < 6) (T : Int) (hT : shI ((f + 1) % 7) = T) : nmI ((T + ((k + 1 : Nat) : Int)) % 7) (alI f ((T + ((k + 1 : Nat) : Int)) % 7)) (o + (T + ((k + 1 : Nat) : Int)) / 7) - nmI ((T + (k : Int)) % 7) (alI f ((T + (k : Int)) % 7)) (o + (T + (k : Int)) / 7) = mjI k := by
  have h0 := h.f0; have h1 := h.f1
  have e : (((f + 7).toNat : Nat) : Int) - 7 = f := by omega
  have := mj_all ⟨(f + 7).toNat, by omega⟩ ⟨k, hk⟩
  simp only [e, hT] at this
  rw [nmI_oct, nmI_oct _ _ o ((T + (k : Int)) / 7)]
  omega
theorem mn_at {f o : Int} {k : Nat} (h : Sg f) (hk : k < 6) (T : Int) (hT : shI ((f + 3 + 1) % 7) = T) : nmI ((T + ((k + 1 : Nat) : Int)) % 7) (alI f ((T + ((k + 1 : Nat) : Int)) % 7)) (o + (T + ((k + 1 : Nat) : Int)) / 7) - nmI ((T + (k : Int)) % 7) (alI f ((T + (k : Int)) % 7)) (o + (T + (k : Int)) / 7) = mnI k := by
  have h0 := h.f0; have h1 := h.f1
  have e : (((f + 7).toNat : Nat) : Int) - 7 = f := by omega
  have := mn_all ⟨(f + 7).toNat, by omega⟩ ⟨k, hk⟩
  simp only [e, hT] at this
  rw [nmI_oct, nmI_oct _ _ o ((T + (k : Int)) / 7)]
  omega
theorem cels_row {w : World} {b : Nat} {f T o : Int} (h : Cel w b (tgt f T o)) : ∀ k : Nat, k < 7 → w.cell? ⟨b, k * 3, none⟩ = some (.int .i64 ((T + (k : Int)) % 7)) ∧ w.cell? ⟨b, k * 3 + 1, none⟩ = some (.int .i64 (alI f ((T + (k : Int)) % 7))) ∧ w.cell? ⟨b, k * 3 + 2, none⟩ = some (.int .i64 (o + (T + (k : Int)) / 7)) := fun k hk =>
  ⟨by rw [(h (k * 3) (by omega)).1, tgt0], by rw [(h (k * 3 + 1) (by omega)).1, tgt1], by rw [(h (k * 3 + 2) (by omega)).1, tgt2]⟩
/-- seven triples in a row of a block -/
def Tri7 (w : World) (b : Nat) (f T o : Int) : Prop := ∀ k : Nat, k < 7 → w.cell? ⟨b, k * 3, none⟩ = some (.int .i64 ((T + (k : Int)) % 7)) ∧ w.cell? ⟨b, k * 3 + 1, none⟩ = some (.int .i64 (alI f ((T + (k : Int)) % 7))) ∧ w.cell? ⟨b, k * 3 + 2, none⟩ = some (.int .i64 (o + (T + (k : Int)) / 7))
theorem Tri7.up {w w' : World} {b : Nat} {f T o : Int} (h : Tri7 w b f T o) (hb : Below w.heap.size w w') : Tri7 w' b f T o := fun k hk => ⟨cell_up hb (h k hk).1, cell_up hb (h k hk).2.1, cell_up hb (h k hk).2.2⟩
theorem tri7_own {w : World} {base : Nat} {v : Value} {f T o : Int} (h : w.ownsRow base 32 3 v (scL f T o 7).length (cells3 (scL f T o 7))) : ∃ g cap, v = .slice (some ⟨g, 0, none⟩) 7 cap ∧ Tri7 w g f T o := by
  have own := h
  rcases h.2 with ⟨h1, h0⟩ | ⟨g, cap, cur, rfl, hg, _, _⟩
  · rw [scL_len] at h0; cases h0
  · refine ⟨g, cap, by rw [scL_len], fun k hk => ?_⟩
    obtain ⟨c1, c2, c3⟩ := cells3_at (scL f T o 7) k _ (scL_at f T o hk)
    have hlen : (cells3 (scL f T o 7)).length = 21 := by simp [cells3, scL, List.range_succ]
    refine ⟨?_, ?_, ?_⟩
    · rw [own.cellAt (k * 3) (by rw [scL_len]; omega), c1]
    · rw [own.cellAt (k * 3 + 1) (by rw [scL_len]; omega), c2]
    · rw [own.cellAt (k * 3 + 2) (by rw [scL_len]; omega), c3]
def mjL : List Int := [2, 2, 1, 2, 2, 2]
def mnL : List Int := [2, 1, 2, 2, 1, 2]
theorem mj_tab {k : Nat} (h : k < 6) : mjL[k]? = some (mjI k) := by
  match k, h with
  | 0, _ => rfl
  | 1, _ => rfl
  | 2, _ => rfl
  | 3, _ => rfl
  | 4, _ => rfl
  | 5, _ => rfl
theorem mn_tab {k : Nat} (h : k < 6) : mnL[k]? = some (mnI k) := by
  match k, h with
  | 0, _ => rfl
  | 1, _ => rfl
  | 2, _ => rfl
  | 3, _ => rfl
  | 4, _ => rfl
  | 5, _ => rfl
theorem row6 (w : World) (n : Nat) (hn : n = w.heap.size) (L : List Int) : Row1 (w.alloc (.cells (L.map (Value.int .i64)).toArray 3)) n L := by
  intro k x hx
  subst hn
  simp [hx]
set_option maxRecDepth 100000 in
set_option maxHeartbeats 2000000 in
theorem scale_bad_n (f o : Int) (w : World) (h : ¬ Sg f) (hk : KT w) :
    Calls Tryd.prog 7 #[.int .i64 f, .bool false, .int .i64 o] w fun e w' => e = .returned (.tuple #[.slice none 0 0, .int .i64 2]) ∧ Below w.heap.size w w' := by
  have HP := Lib.hid h
  have B0 := Lib.hid (Bel.refl w)
  have K0 := Lib.hid hk
  go_enter Tryd.func7, Tryd.ntmps7
  go_wp2_with fail
  refine (checkK_bad f _ HP.out).mono ?_
  rintro e w1 ⟨rfl, hb⟩
  have B1 := Lib.hid (B0.out.up hb)
  have K1 := Lib.hid (K0.out.below hb)
  clear hb B0 K0 
  go_wp2_with fail
  go_ret2
  exact ⟨rfl, B1.out.out⟩
set_option maxRecDepth 100000 in
set_option maxHeartbeats 2000000 in
theorem scLaw1n (f o : Int) (w : World) (h : ¬ Sg f) (hk : KT w) :
    Calls Tryd.prog 3 #[.int .i64 f, .bool false, .int .i64 o] w fun e w' => e = .returned (.bool true) ∧ Below w.heap.size w w' := by
  have HP := Lib.hid h
  have B0 := Lib.hid (Bel.refl w)
  have K0 := Lib.hid hk
  go_enter Tryd.func3, Tryd.ntmps3
  go_wp2_with fail
  refine (scale_bad_n f o _ HP.out K0.out).mono ?_
  rintro e w1 ⟨rfl, hb⟩
  have B1 := Lib.hid (B0.out.up hb)
  have K1 := Lib.hid (K0.out.below hb)
  clear hb B0 K0 
  go_wp2_with fail
  refine (known_any _ K1.out).mono ?_
  rintro e w2 ⟨rfl, hb⟩
  have B2 := Lib.hid (B1.out.up hb)
  have K2 := Lib.hid (K1.out.below hb)
  clear hb B1 K1 
  go_wp2_with fail
  refine (isK_bad f _ HP.out).mono ?_
  rintro e w3 ⟨rfl, hb⟩
  have B3 := Lib.hid (B2.out.up hb)
  have K3 := Lib.hid (K2.out.below hb)
  clear hb B2 K2 
  go_wp2_with fail
  go_ret
  exact ⟨rfl, B3.out.out⟩
set_option maxRecDepth 100000 in
set_option maxHeartbeats 2000000 in
theorem scLaw2n (f T o : Int) (w : World) (h : Sg f) (hT : shI ((f + 1) % 7) = T) (ho : ¬ (-1 ≤ o ∧ (o ≤ 8 ∨ o = 9 ∧ T ≤ 0))) (b0 : -9223372036854775808 ≤ o) (b1 : o ≤ 9223372036854775807) (hk : KT w) :
    Calls Tryd.prog 3 #[.int .i64 f, .bool false, .int .i64 o] w fun e w' => e = .returned (.bool true) ∧ Below w.heap.size w w' := by
  have HP := Lib.hid h
  obtain ⟨T0, T6⟩ := shI_bd ((f + 1) % 7)
  rw [hT] at T0 T6
  have KS := Lib.hid (fun v hv => scale_no f T o v h hT ho hv)
  obtain ⟨Kx, hK, hin, hout⟩ : ∃ Kx : Nat, Kx < 7 ∧ (∀ k : Nat, k < Kx → -1 ≤ o + (T + (k : Int)) / 7 ∧ o + (T + (k : Int)) / 7 ≤ 9) ∧ (o + (T + (Kx : Int)) / 7 < -1 ∨ 9 < o + (T + (Kx : Int)) / 7) := by
    by_cases h9 : o = 9
    · exact ⟨(7 - T).toNat, by omega, fun k hk => by omega, by omega⟩
    · exact ⟨0, by omega, fun k hk => absurd hk (by omega), by omega⟩
  have KR := Lib.hid (fun v => rscno_n f T o Kx v h hT hK hin hout b0 b1)
  clear hin hout hK ho hT
  have B0 := Lib.hid (Bel.refl w)
  have K0 := Lib.hid hk
  go_enter Tryd.func3, Tryd.ntmps3
  go_wp2_with fail
  refine (KS.out _ K0.out).mono ?_
  rintro e w1 ⟨rfl, hb⟩
  have B1 := Lib.hid (B0.out.up hb)
  have K1 := Lib.hid (K0.out.below hb)
  clear hb B0 K0 
  go_wp2_with fail
  refine (known_any _ K1.out).mono ?_
  rintro e w2 ⟨rfl, hb⟩
  have B2 := Lib.hid (B1.out.up hb)
  have K2 := Lib.hid (K1.out.below hb)
  clear hb B1 K1 
  go_wp2_with fail
  refine (isK_ok f _ HP.out).mono ?_
  rintro e w3 ⟨rfl, hb⟩
  have B3 := Lib.hid (B2.out.up hb)
  have K3 := Lib.hid (K2.out.below hb)
  clear hb B2 K2 
  go_wp2_with fail
  refine (KR.out _).mono ?_
  rintro e w4 ⟨rfl, hb⟩
  have B4 := Lib.hid (B3.out.up hb)
  have K4 := Lib.hid (K3.out.below hb)
  clear hb B3 K3 
  go_wp2_with fail
  refine wp_loop_rounds 1 ?_
  rw [rounds_succ]
  go_wp2
  refine wp_loop_rounds 1 ?_
  rw [rounds_succ]
  go_wp2
  go_ret
  exact ⟨rfl, by first | exact B4.out.out | exact B4.out.alloc _ | exact (B4.out.alloc _).alloc _⟩
set_option maxRecDepth 100000 in
set_option maxHeartbeats 2000000 in
theorem scLaw3n (f T o : Int) (w : World) (h : Sg f) (hT : shI ((f + 1) % 7) = T) (ho : -1 ≤ o ∧ (o ≤ 8 ∨ o = 9 ∧ T ≤ 0)) (hk : KT w) :
    Calls Tryd.prog 3 #[.int .i64 f, .bool false, .int .i64 o] w fun e w' => e = .returned (.bool true) ∧ Below w.heap.size w w' := by
  have HP := Lib.hid h
  obtain ⟨T0, T6⟩ := shI_bd ((f + 1) % 7)
  rw [hT] at T0 T6
  have KS := Lib.hid (fun v hv => scale_yes f T o v h hT ho hv)
  have KR := Lib.hid (fun v => rsc_n f T o v h hT ho)
  have KD := Lib.hid (fun (k : Nat) (hk : k < 6) => mj_at (o := o) h hk T hT)
  have HO := Lib.hid ho
  clear ho hT
  have B0 := Lib.hid (Bel.refl w)
  have K0 := Lib.hid hk
  go_enter Tryd.func3, Tryd.ntmps3
  go_wp2_with fail
  refine (KS.out _ K0.out).mono ?_
  rintro e w1 ⟨b1, rfl, hcel, hb⟩
  have G1 := Lib.hid (show Tri7 _ b1 f T o from cels_row hcel)
  clear hcel
  have B1 := Lib.hid (B0.out.up hb)
  have K1 := Lib.hid (K0.out.below hb)
  clear hb B0 K0 
  go_wp2_with fail
  refine (known_any _ K1.out).mono ?_
  rintro e w2 ⟨rfl, hb⟩
  have B2 := Lib.hid (B1.out.up hb)
  have K2 := Lib.hid (K1.out.below hb)
  have G2 := Lib.hid (G1.out.up hb)
  clear hb B1 K1 G1 
  go_wp2_with fail
  refine (isK_ok f _ HP.out).mono ?_
  rintro e w3 ⟨rfl, hb⟩
  have B3 := Lib.hid (B2.out.up hb)
  have K3 := Lib.hid (K2.out.below hb)
  have G3 := Lib.hid (G2.out.up hb)
  clear hb B2 K2 G2 
  go_wp2_with fail
  refine (KR.out _).mono ?_
  rintro e w4 ⟨v4, rfl, hown, hb⟩
  obtain ⟨g4, cap4, rfl, ht4⟩ := tri7_own hown
  have J4 := Lib.hid ht4
  clear hown ht4
  have B4 := Lib.hid (B3.out.up hb)
  have K4 := Lib.hid (K3.out.below hb)
  have G4 := Lib.hid (G3.out.up hb)
  clear hb B3 K3 G3 
  go_wp2_with fail
  go_loopg [11] 7 (fun gm i wr => ∃ k : Nat, k ≤ 7 ∧ gm = 7 - k ∧ i = .int .i64 (k : Int) ∧ Hid (Below w4.heap.size w4 wr))
  case atStart => exact ⟨0, by omega, by omega, rfl, Lib.hid (Below.refl _ _)⟩
  case round =>
    obtain ⟨k, hk7, rfl, rfl, HB⟩ := hrel
    by_cases hlt : k < 7
    · obtain ⟨c0, c1, c2⟩ := (G4.out.up HB.out) k hlt
      obtain ⟨d0, d1, d2⟩ := (J4.out.up HB.out) k hlt
      generalize (T + (k : Int)) % 7 = x0 at *
      generalize alI f x0 = x1 at *
      generalize o + (T + (k : Int)) / 7 = x2 at *
      go_wp2_with fail
      go_quiet (fail)
      go_wp2_with fail
      go_roundg (7 - (k + 1))
      case measure => omega
      case rel => exact ⟨k + 1, by omega, rfl, by go_num, by first | exact HB | exact Lib.hid (below_drewN HB.out _)⟩
    · obtain rfl : k = 7 := by omega
      have G5 := Lib.hid (G4.out.up HB.out)
      have J5 := Lib.hid (J4.out.up HB.out)
      have B5 := Lib.hid (B4.out.up HB.out)
      clear G4 J4 B4 HB
      go_wp2_with fail
      have WUP := Lib.hid ((Below.refl _ wr).alloc (Nat.le_refl _) (.cells #[.int .i64 2, .int .i64 2, .int .i64 1, .int .i64 2, .int .i64 2, .int .i64 2] 3))
      have ST : Hid (Row1 (wr.alloc (.cells #[.int .i64 2, .int .i64 2, .int .i64 1, .int .i64 2, .int .i64 2, .int .i64 2] 3)) wr.heap.size mjL) := Lib.hid (row6 wr wr.heap.size rfl mjL)
      have hWs := WUP.out.size
      have G6 := Lib.hid (G5.out.up WUP.out)
      have B6 := Lib.hid (B5.out.up WUP.out)
      clear G5 J5 B5 WUP
      generalize (wr.alloc (.cells #[.int .i64 2, .int .i64 2, .int .i64 1, .int .i64 2, .int .i64 2, .int .i64 2] 3)) = WW at *
      go_loopg [13] 6 (fun gm i wr => ∃ m : Nat, m ≤ 6 ∧ gm = 6 - m ∧ i = .int .i64 ((m : Int) + 1) ∧ Hid (Below WW.heap.size WW wr))
      case atStart => exact ⟨0, by omega, by omega, rfl, Lib.hid (Below.refl _ _)⟩
      case round =>
        obtain ⟨m, hm6, rfl, rfl, HB⟩ := hrel
        by_cases hlt : m < 6
        · obtain ⟨c0, c1, c2⟩ := (G6.out.up HB.out) (m + 1) (by omega)
          obtain ⟨d0, d1, d2⟩ := (G6.out.up HB.out) m (by omega)
          have e0 := (ST.out.up HB.out) m _ (mj_tab hlt)
          have hkd := KD.out m hlt
          have o9 : -1 ≤ o + (T + ((m + 1 : Nat) : Int)) / 7 ∧ o + (T + ((m + 1 : Nat) : Int)) / 7 ≤ 10 := by have := HO.out; omega
          have o8 : -1 ≤ o + (T + (m : Int)) / 7 ∧ o + (T + (m : Int)) / 7 ≤ 10 := by have := HO.out; omega
          have s9 : 0 ≤ (T + ((m + 1 : Nat) : Int)) % 7 ∧ (T + ((m + 1 : Nat) : Int)) % 7 ≤ 6 := by omega
          have s8 : 0 ≤ (T + (m : Int)) % 7 ∧ (T + (m : Int)) % 7 ≤ 6 := by omega
          generalize (T + ((m + 1 : Nat) : Int)) % 7 = x0 at *
          generalize (T + (m : Int)) % 7 = y0 at *
          have a9 := alI_bd f x0
          have a8 := alI_bd f y0
          generalize alI f x0 = x1 at *
          generalize alI f y0 = y1 at *
          generalize o + (T + ((m + 1 : Nat) : Int)) / 7 = x2 at *
          generalize o + (T + (m : Int)) / 7 = y2 at *
          have KX := Lib.hid (fun v => refNumK x0 x1 x2 v s9.1 s9.2 (by omega) (by omega) o9.1 o9.2)
          have KY := Lib.hid (fun v => refNumK y0 y1 y2 v s8.1 s8.2 (by omega) (by omega) o8.1 o8.2)
          have nx : -100 ≤ nmI x0 x1 x2 ∧ nmI x0 x1 x2 ≤ 1000 := by have := stI_bd x0; unfold nmI; omega
          have ny : -100 ≤ nmI y0 y1 y2 ∧ nmI y0 y1 y2 ≤ 1000 := by have := stI_bd y0; unfold nmI; omega
          obtain ⟨nx0, nx1⟩ := nx
          obtain ⟨ny0, ny1⟩ := ny
          generalize nmI x0 x1 x2 = NX at *
          generalize nmI y0 y1 y2 = NY at *
          clear o9 o8 s9 s8 a9 a8
          go_wp2_with fail
          refine Qt.regionAll (by kernel_rfl) (by kernel_rfl) ?_
          intro TT ff F hne
          have F0 := fun g => cell_up (F.below g) c0
          have F1 := fun g => cell_up (F.below g) c1
          have F2 := fun g => cell_up (F.below g) c2
          have E0 := fun g => cell_up (F.below g) d0
          have E1 := fun g => cell_up (F.below g) d1
          have E2 := fun g => cell_up (F.below g) d2
          have S0 := fun g => cell_up (F.below g) e0
          clear c0 c1 c2 d0 d1 d2 e0
          have hm7 : m + 1 < 7 := by omega
          repeat (go_big_quiet_step (first | (go_at_call 11; with_reducible exact F.call (KX.out _)) | (go_at_call 11; with_reducible exact F.call (KY.out _))))
          refine wpQuiet_nil ?_
          rintro _ ⟨g, rfl⟩
          have HB2 := Lib.hid (HB.out.trans ((F.below g).mono HB.out.size))
          clear F0 F1 F2 E0 E1 E2 S0 F hne HB
          generalize ff g = w9 at *
          clear ff
          have hq : (NX - NY != mjI m) = false := by rw [← hkd]; simp
          have hw : IntKind.i64.wrap (NX - NY) = NX - NY := (IntWalk.i64_left _).trans (IntWalk.wrap64_in _ ⟨by omega, by omega⟩)
          generalize mjI m = TM at *
          go_wp2_with fail
          go_roundg (6 - (m + 1))
          case measure => omega
          case rel => exact ⟨m + 1, by omega, rfl, by go_num, HB2⟩
        · obtain rfl : m = 6 := by omega
          go_wp2_with fail
          go_ret
          exact ⟨rfl, B6.out.out.trans (HB.out.mono B6.out.out.size)⟩
set_option maxRecDepth 100000 in
set_option maxHeartbeats 2000000 in
theorem scale_bad_y (f o : Int) (w : World) (h : ¬ Sg f) (hk : KT w) :
    Calls Tryd.prog 7 #[.int .i64 f, .bool true, .int .i64 o] w fun e w' => e = .returned (.tuple #[.slice none 0 0, .int .i64 2]) ∧ Below w.heap.size w w' := by
  have HP := Lib.hid h
  have B0 := Lib.hid (Bel.refl w)
  have K0 := Lib.hid hk
  go_enter Tryd.func7, Tryd.ntmps7
  go_wp2_with fail
  refine (checkK_bad f _ HP.out).mono ?_
  rintro e w1 ⟨rfl, hb⟩
  have B1 := Lib.hid (B0.out.up hb)
  have K1 := Lib.hid (K0.out.below hb)
  clear hb B0 K0 
  go_wp2_with fail
  go_ret2
  exact ⟨rfl, B1.out.out⟩
set_option maxRecDepth 100000 in
set_option maxHeartbeats 2000000 in
theorem scLaw1y (f o : Int) (w : World) (h : ¬ Sg f) (hk : KT w) :
    Calls Tryd.prog 3 #[.int .i64 f, .bool true, .int .i64 o] w fun e w' => e = .returned (.bool true) ∧ Below w.heap.size w w' := by
  have HP := Lib.hid h
  have B0 := Lib.hid (Bel.refl w)
  have K0 := Lib.hid hk
  go_enter Tryd.func3, Tryd.ntmps3
  go_wp2_with fail
  refine (scale_bad_y f o _ HP.out K0.out).mono ?_
  rintro e w1 ⟨rfl, hb⟩
  have B1 := Lib.hid (B0.out.up hb)
  have K1 := Lib.hid (K0.out.below hb)
  clear hb B0 K0 
  go_wp2_with fail
  refine (known_any _ K1.out).mono ?_
  rintro e w2 ⟨rfl, hb⟩
  have B2 := Lib.hid (B1.out.up hb)
  have K2 := Lib.hid (K1.out.below hb)
  clear hb B1 K1 
  go_wp2_with fail
  refine (isK_bad f _ HP.out).mono ?_
  rintro e w3 ⟨rfl, hb⟩
  have B3 := Lib.hid (B2.out.up hb)
  have K3 := Lib.hid (K2.out.below hb)
  clear hb B2 K2 
  go_wp2_with fail
  go_ret
  exact ⟨rfl, B3.out.out⟩
set_option maxRecDepth 100000 in
set_option maxHeartbeats 2000000 in
theorem scLaw2y (f T o : Int) (w : World) (h : Sg f) (hT : shI ((f + 3 + 1) % 7) = T) (ho : ¬ (-1 ≤ o ∧ (o ≤ 8 ∨ o = 9 ∧ T ≤ 0))) (b0 : -9223372036854775808 ≤ o) (b1 : o ≤ 9223372036854775807) (hk : KT w) :
    Calls Tryd.prog 3 #[.int .i64 f, .bool true, .int .i64 o] w fun e w' => e = .returned (.bool true) ∧ Below w.heap.size w w' := by
  have HP := Lib.hid h
  obtain ⟨T0, T6⟩ := shI_bd ((f + 3 + 1) % 7)
  rw [hT] at T0 T6
  have KS := Lib.hid (fun v hv => mscale_no f T o v h hT ho hv)
  obtain ⟨Kx, hK, hin, hout⟩ : ∃ Kx : Nat, Kx < 7 ∧ (∀ k : Nat, k < Kx → -1 ≤ o + (T + (k : Int)) / 7 ∧ o + (T + (k : Int)) / 7 ≤ 9) ∧ (o + (T + (Kx : Int)) / 7 < -1 ∨ 9 < o + (T + (Kx : Int)) / 7) := by
    by_cases h9 : o = 9
    · exact ⟨(7 - T).toNat, by omega, fun k hk => by omega, by omega⟩
    · exact ⟨0, by omega, fun k hk => absurd hk (by omega), by omega⟩
  have KR := Lib.hid (fun v => rscno_y f T o Kx v h hT hK hin hout b0 b1)
  clear hin hout hK ho hT
  have B0 := Lib.hid (Bel.refl w)
  have K0 := Lib.hid hk
  go_enter Tryd.func3, Tryd.ntmps3
  go_wp2_with fail
  refine (KS.out _ K0.out).mono ?_
  rintro e w1 ⟨rfl, hb⟩
  have B1 := Lib.hid (B0.out.up hb)
  have K1 := Lib.hid (K0.out.below hb)
  clear hb B0 K0 
  go_wp2_with fail
  refine (known_any _ K1.out).mono ?_
  rintro e w2 ⟨rfl, hb⟩
  have B2 := Lib.hid (B1.out.up hb)
  have K2 := Lib.hid (K1.out.below hb)
  clear hb B1 K1 
  go_wp2_with fail
  refine (isK_ok f _ HP.out).mono ?_
  rintro e w3 ⟨rfl, hb⟩
  have B3 := Lib.hid (B2.out.up hb)
  have K3 := Lib.hid (K2.out.below hb)
  clear hb B2 K2 
  go_wp2_with fail
  refine (KR.out _).mono ?_
  rintro e w4 ⟨rfl, hb⟩
  have B4 := Lib.hid (B3.out.up hb)
  have K4 := Lib.hid (K3.out.below hb)
  clear hb B3 K3 
  go_wp2_with fail
  refine wp_loop_rounds 1 ?_
  rw [rounds_succ]
  go_wp2
  refine wp_loop_rounds 1 ?_
  rw [rounds_succ]
  go_wp2
  go_ret
  exact ⟨rfl, by first | exact B4.out.out | exact B4.out.alloc _ | exact (B4.out.alloc _).alloc _⟩
set_option maxRecDepth 100000 in
set_option maxHeartbeats 2000000 in
theorem scLaw3y (f T o : Int) (w : World) (h : Sg f) (hT : shI ((f + 3 + 1) % 7) = T) (ho : -1 ≤ o ∧ (o ≤ 8 ∨ o = 9 ∧ T ≤ 0)) (hk : KT w) :
    Calls Tryd.prog 3 #[.int .i64 f, .bool true, .int .i64 o] w fun e w' => e = .returned (.bool true) ∧ Below w.heap.size w w' := by
  have HP := Lib.hid h
  obtain ⟨T0, T6⟩ := shI_bd ((f + 3 + 1) % 7)
  rw [hT] at T0 T6
  have KS := Lib.hid (fun v hv => mscale_yes f T o v h hT ho hv)
  have KR := Lib.hid (fun v => rsc_y f T o v h hT ho)
  have KD := Lib.hid (fun (k : Nat) (hk : k < 6) => mn_at (o := o) h hk T hT)
  have HO := Lib.hid ho
  clear ho hT
  have B0 := Lib.hid (Bel.refl w)
  have K0 := Lib.hid hk
  go_enter Tryd.func3, Tryd.ntmps3
  go_wp2_with fail
  refine (KS.out _ K0.out).mono ?_
  rintro e w1 ⟨b1, rfl, hcel, hb⟩
  have G1 := Lib.hid (show Tri7 _ b1 f T o from cels_row hcel)
  clear hcel
  have B1 := Lib.hid (B0.out.up hb)
  have K1 := Lib.hid (K0.out.below hb)
  clear hb B0 K0 
  go_wp2_with fail
  refine (known_any _ K1.out).mono ?_
  rintro e w2 ⟨rfl, hb⟩
  have B2 := Lib.hid (B1.out.up hb)
  have K2 := Lib.hid (K1.out.below hb)
  have G2 := Lib.hid (G1.out.up hb)
  clear hb B1 K1 G1 
  go_wp2_with fail
  refine (isK_ok f _ HP.out).mono ?_
  rintro e w3 ⟨rfl, hb⟩
  have B3 := Lib.hid (B2.out.up hb)
  have K3 := Lib.hid (K2.out.below hb)
  have G3 := Lib.hid (G2.out.up hb)
  clear hb B2 K2 G2 
  go_wp2_with fail
  refine (KR.out _).mono ?_
  rintro e w4 ⟨v4, rfl, hown, hb⟩
  obtain ⟨g4, cap4, rfl, ht4⟩ := tri7_own hown
  have J4 := Lib.hid ht4
  clear hown ht4
  have B4 := Lib.hid (B3.out.up hb)
  have K4 := Lib.hid (K3.out.below hb)
  have G4 := Lib.hid (G3.out.up hb)
  clear hb B3 K3 G3 
  go_wp2_with fail
  go_loopg [11] 7 (fun gm i wr => ∃ k : Nat, k ≤ 7 ∧ gm = 7 - k ∧ i = .int .i64 (k : Int) ∧ Hid (Below w4.heap.size w4 wr))
  case atStart => exact ⟨0, by omega, by omega, rfl, Lib.hid (Below.refl _ _)⟩
  case round =>
    obtain ⟨k, hk7, rfl, rfl, HB⟩ := hrel
    by_cases hlt : k < 7
    · obtain ⟨c0, c1, c2⟩ := (G4.out.up HB.out) k hlt
      obtain ⟨d0, d1, d2⟩ := (J4.out.up HB.out) k hlt
      generalize (T + (k : Int)) % 7 = x0 at *
      generalize alI f x0 = x1 at *
      generalize o + (T + (k : Int)) / 7 = x2 at *
      go_wp2_with fail
      go_quiet (fail)
      go_wp2_with fail
      go_roundg (7 - (k + 1))
      case measure => omega
      case rel => exact ⟨k + 1, by omega, rfl, by go_num, by first | exact HB | exact Lib.hid (below_drewN HB.out _)⟩
    · obtain rfl : k = 7 := by omega
      have G5 := Lib.hid (G4.out.up HB.out)
      have J5 := Lib.hid (J4.out.up HB.out)
      have B5 := Lib.hid (B4.out.up HB.out)
      clear G4 J4 B4 HB
      go_wp2_with fail
      have WUP := Lib.hid (((Below.refl _ wr).alloc (Nat.le_refl _) (.cells #[.int .i64 2, .int .i64 2, .int .i64 1, .int .i64 2, .int .i64 2, .int .i64 2] 3)).alloc (by simp) (.cells #[.int .i64 2, .int .i64 1, .int .i64 2, .int .i64 2, .int .i64 1, .int .i64 2] 3))
      have ST : Hid (Row1 ((wr.alloc (.cells #[.int .i64 2, .int .i64 2, .int .i64 1, .int .i64 2, .int .i64 2, .int .i64 2] 3)).alloc (.cells #[.int .i64 2, .int .i64 1, .int .i64 2, .int .i64 2, .int .i64 1, .int .i64 2] 3)) (wr.heap.size + 1) mnL) := Lib.hid (row6 (wr.alloc (.cells #[.int .i64 2, .int .i64 2, .int .i64 1, .int .i64 2, .int .i64 2, .int .i64 2] 3)) (wr.heap.size + 1) (by simp) mnL)
      have hWs := WUP.out.size
      have G6 := Lib.hid (G5.out.up WUP.out)
      have B6 := Lib.hid (B5.out.up WUP.out)
      clear G5 J5 B5 WUP
      generalize ((wr.alloc (.cells #[.int .i64 2, .int .i64 2, .int .i64 1, .int .i64 2, .int .i64 2, .int .i64 2] 3)).alloc (.cells #[.int .i64 2, .int .i64 1, .int .i64 2, .int .i64 2, .int .i64 1, .int .i64 2] 3)) = WW at *
      go_loopg [13] 6 (fun gm i wr => ∃ m : Nat, m ≤ 6 ∧ gm = 6 - m ∧ i = .int .i64 ((m : Int) + 1) ∧ Hid (Below WW.heap.size WW wr))
      case atStart => exact ⟨0, by omega, by omega, rfl, Lib.hid (Below.refl _ _)⟩
      case round =>
        obtain ⟨m, hm6, rfl, rfl, HB⟩ := hrel
        by_cases hlt : m < 6
        · obtain ⟨c0, c1, c2⟩ := (G6.out.up HB.out) (m + 1) (by omega)
          obtain ⟨d0, d1, d2⟩ := (G6.out.up HB.out) m (by omega)
          have e0 := (ST.out.up HB.out) m _ (mn_tab hlt)
          have hkd := KD.out m hlt
          have o9 : -1 ≤ o + (T + ((m + 1 : Nat) : Int)) / 7 ∧ o + (T + ((m + 1 : Nat) : Int)) / 7 ≤ 10 := by have := HO.out; omega
          have o8 : -1 ≤ o + (T + (m : Int)) / 7 ∧ o + (T + (m : Int)) / 7 ≤ 10 := by have := HO.out; omega
          have s9 : 0 ≤ (T + ((m + 1 : Nat) : Int)) % 7 ∧ (T + ((m + 1 : Nat) : Int)) % 7 ≤ 6 := by omega
          have s8 : 0 ≤ (T + (m : Int)) % 7 ∧ (T + (m : Int)) % 7 ≤ 6 := by omega
          generalize (T + ((m + 1 : Nat) : Int)) % 7 = x0 at *
          generalize (T + (m : Int)) % 7 = y0 at *
          have a9 := alI_bd f x0
          have a8 := alI_bd f y0
          generalize alI f x0 = x1 at *
          generalize alI f y0 = y1 at *
          generalize o + (T + ((m + 1 : Nat) : Int)) / 7 = x2 at *
          generalize o + (T + (m : Int)) / 7 = y2 at *
          have KX := Lib.hid (fun v => refNumK x0 x1 x2 v s9.1 s9.2 (by omega) (by omega) o9.1 o9.2)
          have KY := Lib.hid (fun v => refNumK y0 y1 y2 v s8.1 s8.2 (by omega) (by omega) o8.1 o8.2)
          have nx : -100 ≤ nmI x0 x1 x2 ∧ nmI x0 x1 x2 ≤ 1000 := by have := stI_bd x0; unfold nmI; omega
          have ny : -100 ≤ nmI y0 y1 y2 ∧ nmI y0 y1 y2 ≤ 1000 := by have := stI_bd y0; unfold nmI; omega
          obtain ⟨nx0, nx1⟩ := nx
          obtain ⟨ny0, ny1⟩ := ny
          generalize nmI x0 x1 x2 = NX at *
          generalize nmI y0 y1 y2 = NY at *
          clear o9 o8 s9 s8 a9 a8
          go_wp2_with fail
          refine Qt.regionAll (by kernel_rfl) (by kernel_rfl) ?_
          intro TT ff F hne
          have F0 := fun g => cell_up (F.below g) c0
          have F1 := fun g => cell_up (F.below g) c1
          have F2 := fun g => cell_up (F.below g) c2
          have E0 := fun g => cell_up (F.below g) d0
          have E1 := fun g => cell_up (F.below g) d1
          have E2 := fun g => cell_up (F.below g) d2
          have S0 := fun g => cell_up (F.below g) e0
          clear c0 c1 c2 d0 d1 d2 e0
          have hm7 : m + 1 < 7 := by omega
          repeat (go_big_quiet_step (first | (go_at_call 11; with_reducible exact F.call (KX.out _)) | (go_at_call 11; with_reducible exact F.call (KY.out _))))
          refine wpQuiet_nil ?_
          rintro _ ⟨g, rfl⟩
          have HB2 := Lib.hid (HB.out.trans ((F.below g).mono HB.out.size))
          clear F0 F1 F2 E0 E1 E2 S0 F hne HB
          generalize ff g = w9 at *
          clear ff
          have hq : (NX - NY != mnI m) = false := by rw [← hkd]; simp
          have hw : IntKind.i64.wrap (NX - NY) = NX - NY := (IntWalk.i64_left _).trans (IntWalk.wrap64_in _ ⟨by omega, by omega⟩)
          generalize mnI m = TM at *
          go_wp2_with fail
          go_roundg (6 - (m + 1))
          case measure => omega
          case rel => exact ⟨m + 1, by omega, rfl, by go_num, HB2⟩
        · obtain rfl : m = 6 := by omega
          go_wp2_with fail
          go_ret
          exact ⟨rfl, B6.out.out.trans (HB.out.mono B6.out.out.size)⟩
theorem law_KeyScales (f : Int) (c : Bool) (o : Int) (w : World) (b0 : -9223372036854775808 ≤ o) (b1 : o ≤ 9223372036854775807) (hk : KT w) : Calls Tryd.prog 3 #[.int .i64 f, .bool c, .int .i64 o] w fun e w' => e = .returned (.bool true) ∧ Below w.heap.size w w' := by
  cases c
  · by_cases h : Sg f
    · by_cases ho : -1 ≤ o ∧ (o ≤ 8 ∨ o = 9 ∧ shI ((f + 1) % 7) ≤ 0)
      · exact scLaw3n f _ o w h rfl ho hk
      · exact scLaw2n f _ o w h rfl ho b0 b1 hk
    · exact scLaw1n f o w h hk
  · by_cases h : Sg f
    · by_cases ho : -1 ≤ o ∧ (o ≤ 8 ∨ o = 9 ∧ shI ((f + 3 + 1) % 7) ≤ 0)
      · exact scLaw3y f _ o w h rfl ho hk
      · exact scLaw2y f _ o w h rfl ho b0 b1 hk
    · exact scLaw1y f o w h hk
end Go.Proofs.YthdkfeehabpikaaDoor
