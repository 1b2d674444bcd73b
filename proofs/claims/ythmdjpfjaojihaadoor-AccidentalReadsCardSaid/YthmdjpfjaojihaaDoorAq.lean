/- Accidentals: errors of display. -/
import Derived.Test.YthmdjpfjaojihaaDoorAp
import Derived.Deep.Cut
namespace Go.Proofs.YthmdjpfjaojihaaDoor
open Go.RowKit
set_option linter.unusedVariables false
set_option linter.unusedSimpArgs false

set_option maxRecDepth 100000 in
set_option maxHeartbeats 400000 in
theorem sigA_bad (f : Int) (w : World) (h : ¬ Sg f) (hk : KT w) :
    Calls Tryd.prog 25 #[.int .i64 f] w fun e w' => e = .returned (.tuple #[.agg z77, .int .i64 2]) ∧ Below w.heap.size w w' := by
  have HP := Lib.hid h
  have HK := Lib.hid hk
  have hz := zero77
  have R0 := Lib.hid (((Fil.new w 58 w.heap.size rfl).up ((Below.refl _ _).alloc (Nat.le_refl _) (.cells z77 58))))
  have B0 := Lib.hid (((Bel.refl w).alloc (.cells z77 58)).alloc (.cells z77 58))
  clear h hk
  go_enter Tryd.func25, Tryd.ntmps25
  go_wp2_with fail
  generalize ((w.alloc (.cells z77 58)).alloc (.cells z77 58)) = W at *
  go_loopg [9] 7 (fun gm i wr => gm = 7 ∧ i = .int .i64 0 ∧ Hid (Fil wr w.heap.size 77 fun _ => 0) ∧ Hid (Bel w wr))
  case atStart => exact ⟨rfl, rfl, R0, B0⟩
  case round =>
    obtain ⟨rfl, rfl, HR, HB⟩ := hrel
    clear R0 B0
    go_wp2_with fail
    refine (alterK_b1 f 0 _ HP.out (HK.out.below HB.out.out)).mono ?_
    rintro e w1 ⟨rfl, hb⟩
    have R1 := Lib.hid (HR.out.up hb)
    have B1 := Lib.hid (HB.out.up hb)
    clear hb HR HB
    have HS := Lib.hid (R1.out.stored (us := fun _ => 0))
    have HB2 := Lib.hid (below_setCells (Nat.le_refl _) w (arL fun _ => 0).toArray.toList 0 _ B1.out.out)
    go_wp2_with (refine wpList_store_mid rfl 58 _ _ rfl w.heap.size 0 (arL fun _ => 0).toArray rfl rfl (R1.out.there _) (by rw [size77]; simp [arL_len]) (arL_one _) ?_; generalize (w1.setCells w.heap.size 0 (arL fun _ => 0).toArray.toList) = w2 at *)
    have hl := run_loadVar_mid (P := Tryd.prog) w2 w.heap.size 0 58 (arL fun _ => 0) _ HS.out.range Tryd.underlying58 rfl (by rw [size77, arL_len])
    exact bodyPost_ret (v := .tuple #[.agg z77, .int .i64 2]) (by rw [results_cell_tmp Tryd.results25]; simp [asAddr, hl, Result.andThen, z77]) rfl ⟨rfl, by simpa using HB2.out⟩
set_option maxRecDepth 100000 in
set_option maxHeartbeats 1000000 in
theorem display_bad1 (f : Int) (L : List Nt) (ad : Option Addr) (cap : Nat) (w : World) (hf : ¬ Sg f) (hl : L.length ≤ 2560) (h : NtAt w ad L) (hk : KT w) :
    Calls Tryd.prog 22 #[.int .i64 f, .slice ad L.length cap] w fun e w' => e = .returned (.tuple #[.slice none 0 0, .agg z77, .int .i64 2]) ∧ Below w.heap.size w w' := by
  have HK := Lib.hid hk
  have HA := Lib.hid h
  have hz := zero77
  have HF := Lib.hid hf
  clear hf
  have R0 := Lib.hid (Fil.new w 58 w.heap.size rfl)
  have B0 := Lib.hid ((Bel.refl w).alloc (.cells z77 58))
  clear h hk
  go_enter Tryd.func22, Tryd.ntmps22
  go_wp2_with fail
  refine (sigA_bad f _ HF.out (HK.out.below B0.out.out)).mono ?_
  rintro e w1 ⟨rfl, hb⟩
  have hup : Below w1.heap.size w1 (w1.alloc (.cells z77 58)) := (Below.refl _ w1).alloc (Nat.le_refl _) _
  have R1 := Lib.hid ((R0.out.up hb).up hup)
  have B1 := Lib.hid ((B0.out.up hb).alloc (.cells z77 58))
  have F1 := Lib.hid (Fil.new w1 58 w1.heap.size rfl)
  have hr1 : w.heap.size < w1.heap.size := (R0.out.up hb).lt (by omega)
  have B2 := Lib.hid (below_setCells (Nat.le_of_lt hr1) w (arL (fun _ => 0)).toArray.toList 0 _ B1.out.out)
  have R2 := Lib.hid (Fil.asideN (L := (arL (fun _ => 0)).toArray.toList) (c := w1.heap.size) R1.out hr1)
  clear hb hup R0 B0 R1
  have HS := Lib.hid (R2.out.stored (us := fun _ => 0))
  have HB9 := Lib.hid (below_setCells (Nat.le_refl _) w (arL fun _ => 0).toArray.toList 0 _ B2.out)
  clear B1
  go_upto_region 2 with (refine wpList_store_mid rfl 58 _ _ rfl w1.heap.size 0 (arL (fun _ => 0)).toArray rfl rfl (F1.out.there _) (by rw [size77]; simp [arL_len]) (arL_one _) ?_; generalize ((w1.alloc (.cells z77 58)).setCells w1.heap.size 0 (arL (fun _ => 0)).toArray.toList) = W2 at *)
  clear F1
  go_wp2_with (refine wpList_store_mid rfl 58 _ _ rfl w.heap.size 0 (arL fun _ => 0).toArray rfl rfl (R2.out.there _) (by rw [size77]; simp [arL_len]) (arL_one _) ?_; generalize (W2.setCells w.heap.size 0 (arL fun _ => 0).toArray.toList) = w9 at *)
  have hl9 := run_loadVar_mid (P := Tryd.prog) w9 w.heap.size 0 58 (arL fun _ => 0) _ HS.out.range Tryd.underlying58 rfl (by rw [size77, arL_len])
  exact bodyPost_ret (v := .tuple #[.slice none 0 0, .agg z77, .int .i64 2]) (by rw [results_tct Tryd.results22]; simp [asAddr, hl9, Result.andThen, z77]) rfl ⟨rfl, HB9.out⟩
set_option maxRecDepth 100000 in
set_option maxHeartbeats 1000000 in
theorem display_bad2 (f : Int) (L : List Nt) (ad : Option Addr) (cap : Nat) (w : World) (hf : Sg f) (he : errL 0 L ≠ 0) (hl : L.length ≤ 2560) (h : NtAt w ad L) (hk : KT w) :
    Calls Tryd.prog 22 #[.int .i64 f, .slice ad L.length cap] w fun e w' => e = .returned (.tuple #[.slice none 0 0, .agg z77, .int .i64 (errL 0 L)]) ∧ Below w.heap.size w w' := by
  have HK := Lib.hid hk
  have HA := Lib.hid h
  have hz := zero77
  have HF := Lib.hid hf
  have KC := Lib.hid (fun wz (hz : NtAt wz ad L) => checkN_ok L ad cap wz hl hz)
  obtain ⟨E, hE⟩ : ∃ E, errL 0 L = E := ⟨_, rfl⟩
  rw [hE] at KC he
  rw [hE]
  have he2 : (E != 0) = true := by simpa using he
  clear hf hE he
  have R0 := Lib.hid (Fil.new w 58 w.heap.size rfl)
  have B0 := Lib.hid ((Bel.refl w).alloc (.cells z77 58))
  clear h hk
  go_enter Tryd.func22, Tryd.ntmps22
  go_wp2_with fail
  refine (sigA_ok f _ HF.out (HK.out.below B0.out.out)).mono ?_
  rintro e w1 ⟨rfl, hb⟩
  have hup : Below w1.heap.size w1 (w1.alloc (.cells z77 58)) := (Below.refl _ w1).alloc (Nat.le_refl _) _
  have R1 := Lib.hid ((R0.out.up hb).up hup)
  have B1 := Lib.hid ((B0.out.up hb).alloc (.cells z77 58))
  have F1 := Lib.hid (Fil.new w1 58 w1.heap.size rfl)
  have hr1 : w.heap.size < w1.heap.size := (R0.out.up hb).lt (by omega)
  have B2 := Lib.hid (below_setCells (Nat.le_of_lt hr1) w (arL (frI f)).toArray.toList 0 _ B1.out.out)
  have R2 := Lib.hid (Fil.asideN (L := (arL (frI f)).toArray.toList) (c := w1.heap.size) R1.out hr1)
  clear hb hup R0 B0 R1
  go_wp2_with (refine wpList_store_mid rfl 58 _ _ rfl w1.heap.size 0 (arL (frI f)).toArray rfl rfl (F1.out.there _) (by rw [size77]; simp [arL_len]) (arL_one _) ?_; generalize ((w1.alloc (.cells z77 58)).setCells w1.heap.size 0 (arL (frI f)).toArray.toList) = W2 at *)
  clear F1 B1
  refine (KC.out _ (HA.out.up B2.out)).mono ?_
  rintro e w3 ⟨rfl, hb⟩
  have R3 := Lib.hid (R2.out.up hb)
  have B3 := Lib.hid (Bel.up B2.out hb)
  clear hb R2 B2
  have HS := Lib.hid (R3.out.stored (us := fun _ => 0))
  have HB9 := Lib.hid (below_setCells (Nat.le_refl _) w (arL fun _ => 0).toArray.toList 0 _ B3.out)
  go_wp2_with (refine wpList_store_mid rfl 58 _ _ rfl w.heap.size 0 (arL fun _ => 0).toArray rfl rfl (R3.out.there _) (by rw [size77]; simp [arL_len]) (arL_one _) ?_; generalize (w3.setCells w.heap.size 0 (arL fun _ => 0).toArray.toList) = w9 at *)
  have hl9 := run_loadVar_mid (P := Tryd.prog) w9 w.heap.size 0 58 (arL fun _ => 0) _ HS.out.range Tryd.underlying58 rfl (by rw [size77, arL_len])
  exact bodyPost_ret (v := .tuple #[.slice none 0 0, .agg z77, .int .i64 E]) (by rw [results_tct Tryd.results22]; simp [asAddr, hl9, Result.andThen, z77]) rfl ⟨rfl, HB9.out⟩
theorem display_bad (f E : Int) (L : List Nt) (ad : Option Addr) (cap : Nat) (w : World) (hl : L.length ≤ 2560) (hE : (if Sg f then errL 0 L else 2) = E) (h0 : E ≠ 0) (h : NtAt w ad L) (hk : KT w) :
    Calls Tryd.prog 22 #[.int .i64 f, .slice ad L.length cap] w fun e w' => e = .returned (.tuple #[.slice none 0 0, .agg (arL (fun _ => 0)).toArray, .int .i64 E]) ∧ Below w.heap.size w w' := by
  subst hE
  by_cases hf : Sg f
  · rw [if_pos hf] at h0 ⊢
    exact display_bad2 f L ad cap w hf h0 hl h hk
  · rw [if_neg hf]
    exact display_bad1 f L ad cap w hf hl h hk
set_option maxRecDepth 100000 in
set_option maxHeartbeats 2000000 in
theorem Display_bad (f E : Int) (L : List Nt) (ad : Option Addr) (cap : Nat) (w : World) (hl : L.length ≤ 2560) (hE : (if Sg f then errL 0 L else 2) = E) (h0 : E ≠ 0) (h : NtAt w ad L) (hk : KT w) :
    Calls Tryd.prog 11 #[.int .i64 f, .slice ad L.length cap] w fun e w' => e = .returned (.tuple #[.slice none 0 0, .int .i64 E]) ∧ Below w.heap.size w w' := by
  have K : Calls Tryd.prog 22 #[.int .i64 f, .slice ad L.length cap] w fun e w' => e = .returned (.tuple #[.slice none 0 0, .agg (arL (fun _ => 0)).toArray, .int .i64 E]) ∧ Below w.heap.size w w' := by
    subst hE
    by_cases hf : Sg f
    · rw [if_pos hf] at h0 ⊢
      exact display_bad2 f L ad cap w hf h0 hl h hk
    · rw [if_neg hf]
      exact display_bad1 f L ad cap w hf hl h hk
  have KK := Lib.hid K
  clear h hk hE h0 K
  go_enter Tryd.func11, Tryd.ntmps11
  go_wp2_with fail
  refine KK.out.mono ?_
  rintro e w1 ⟨rfl, hb⟩
  obtain ⟨G, hG⟩ : ∃ G : Nat → Int, (fun _ => 0) = G := ⟨_, rfl⟩
  rw [hG]
  clear hG
  have hup : Below w1.heap.size w1 (w1.alloc (.cells z77 58)) := (Below.refl _ w1).alloc (Nat.le_refl _) _
  have F2 := Lib.hid (Fil.new w1 58 w1.heap.size rfl)
  have B2 := Lib.hid (below_setCells hb.size w (arL G).toArray.toList 0 _ (Bel.alloc hb (.cells z77 58)))
  clear hb hup
  have hz := zero77
  go_wp2_with (refine wpList_store_mid rfl 58 _ _ rfl w1.heap.size 0 (arL G).toArray rfl rfl (F2.out.there _) (by rw [size77]; simp [arL_len]) (arL_one _) ?_; generalize ((w1.alloc (.cells z77 58)).setCells w1.heap.size 0 (arL G).toArray.toList) = w10 at *)
  exact bodyPost_ret (v := .tuple #[.slice none 0 0, .int .i64 E]) (by first | (simp [results, Tryd.results11, go_sem]; done) | (simp [results, Tryd.results11, go_sem]; omega)) rfl ⟨rfl, B2.out⟩
end Go.Proofs.YthmdjpfjaojihaaDoor
