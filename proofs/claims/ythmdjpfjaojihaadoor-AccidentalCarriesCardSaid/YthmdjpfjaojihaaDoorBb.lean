/- Accidentals: Carry. -/
import Derived.Test.YthmdjpfjaojihaaDoorAv
import Derived.Test.YthmdjpfjaojihaaDoorAq
import Derived.Outline
namespace Go.Proofs.YthmdjpfjaojihaaDoor
open Go.RowKit
set_option linter.unusedVariables false
set_option linter.unusedSimpArgs false

set_option maxRecDepth 100000 in
set_option maxHeartbeats 2000000 in
theorem carry_any (f E : Int) (G : Nat → Int) (n cap : Nat) (ad : Option Addr) (w : World) (K : Calls Tryd.prog 22 #[.int .i64 f, .slice ad n cap] (w.alloc (.cells z77 58)) fun e w' => ∃ mv, e = .returned (.tuple #[mv, .agg (arL G).toArray, .int .i64 E]) ∧ Below (w.alloc (.cells z77 58)).heap.size (w.alloc (.cells z77 58)) w') :
    Calls Tryd.prog 21 #[.int .i64 f, .slice ad n cap] w fun e w' => e = .returned (.tuple #[.agg (arL G).toArray, .int .i64 E]) ∧ Below w.heap.size w w' := by
  have KK := Lib.hid K
  have hz := zero77
  have R0 := Lib.hid (Fil.new w 58 w.heap.size rfl)
  have B0 := Lib.hid ((Bel.refl w).alloc (.cells z77 58))
  clear K
  go_enter Tryd.func21, Tryd.ntmps21
  go_wp2_with fail
  refine KK.out.mono ?_
  rintro e w1 ⟨mv, rfl, hb⟩
  have hup : Below w1.heap.size w1 (w1.alloc (.cells z77 58)) := (Below.refl _ w1).alloc (Nat.le_refl _) _
  have R1 := Lib.hid ((R0.out.up hb).up hup)
  have B1 := Lib.hid ((B0.out.up hb).alloc (.cells z77 58))
  have F1 := Lib.hid (Fil.new w1 58 w1.heap.size rfl)
  have hr1 : w.heap.size < w1.heap.size := (R0.out.up hb).lt (by omega)
  have F2 := Lib.hid (F1.out.stored (us := G))
  have B2 := Lib.hid (below_setCells (Nat.le_of_lt hr1) w (arL G).toArray.toList 0 _ B1.out.out)
  have R2 := Lib.hid (Fil.asideN (L := (arL G).toArray.toList) (c := w1.heap.size) R1.out hr1)
  clear hb hup R0 B0 R1
  go_upto_region 2 with (refine wpList_store_mid rfl 58 _ _ rfl w1.heap.size 0 (arL G).toArray rfl rfl (F1.out.there _) (by rw [size77]; simp [arL_len]) (arL_one _) ?_; generalize ((w1.alloc (.cells z77 58)).setCells w1.heap.size 0 (arL G).toArray.toList) = W2 at *)
  clear F1 B1
  generalize w1.heap.size = fb at *
  have HS := Lib.hid (R2.out.stored (us := G))
  have HB9 := Lib.hid (below_setCells (Nat.le_refl _) w (arL G).toArray.toList 0 _ B2.out)
  go_wp2_with (first
    | (refine wpList_load_mid rfl 58 _ rfl fb 0 rfl (arL G) _ F2.out.range Tryd.underlying58 rfl (by rw [size77, arL_len]) ?_)
    | (refine wpList_store_mid rfl 58 _ _ rfl w.heap.size 0 (arL G).toArray rfl rfl (R2.out.there _) (by rw [size77]; simp [arL_len]) (arL_one _) ?_; generalize (W2.setCells w.heap.size 0 (arL G).toArray.toList) = w9 at *))
  have hl9 := run_loadVar_mid (P := Tryd.prog) w9 w.heap.size 0 58 (arL G) _ HS.out.range Tryd.underlying58 rfl (by rw [size77, arL_len])
  exact bodyPost_ret (v := .tuple #[.agg (arL G).toArray, .int .i64 E]) (by rw [results_cell_tmp Tryd.results21]; simp [asAddr, hl9, Result.andThen]) rfl ⟨rfl, HB9.out⟩
theorem eq77 (w : World) : (Op.equalIn 10000 58 (.agg (arL fun _ => 0).toArray) (.agg z77)).run Tryd.prog w = .ok true w := by kernel_rfl
theorem wpList_load_mid_w {P : Program} {ops : Array Oper} {rest : List Oper} {op : Oper} {a : Act} {w : World} {Q : Exit → Act → World → Prop} (hw : Region.wanted op (yielded ops a.tmps) = true) (ty : TypeId) (x : Operand) (ho : op.op = .load ty x)
    (b o : Nat) (hx : a.eval x = .pointer (some ⟨b, o, none⟩)) (cs : List Value) (d : TypeDesc) (hc : w.rangeAt b o cs)
    (hu : P.underlying ty = some d) (hd : d.isRow = true) (hi : (P.info? ty).map (·.size) = some cs.length)
    (h : wpList P ops Q rest (a.put op.dst (.agg cs.toArray)) w) : wpList P ops Q (op :: rest) a w :=
  wpList_step fun K hK => by
    simp only [hw, if_true]
    exact wp_load_mid ty x ho b o hx cs d hc hu hd hi (hK _ _ h)
set_option maxRecDepth 100000 in
set_option maxHeartbeats 8000000 in
theorem carries_long (f : Int) (L : List Nt) (ad : Option Addr) (cap : Nat) (w : World) (hl : 30 < L.length) (hm : L.length ≤ 9223372036854775807) (hk : KT w) :
    Calls Tryd.prog 8 #[.int .i64 f, .slice ad L.length cap] w fun e w' => e = .returned (.bool true) ∧ Below w.heap.size w w' := by
  have HK := Lib.hid hk
  have B0 := Lib.hid (Bel.refl w)
  clear hk
  have hl2 : decide (30 < L.length) = true := by simpa using hl
  go_enter Tryd.func8, Tryd.ntmps8
  go_wp2_with fail
  refine (known_ok _ HK.out).mono ?_
  rintro e w1 ⟨rfl, hb⟩
  have B1 := Lib.hid (B0.out.up hb)
  clear hb
  go_wp2_with fail
  refine (known_ok _ (HK.out.below B1.out)).mono ?_
  rintro e w2 ⟨rfl, hb⟩
  have B2 := Lib.hid (B1.out.up hb)
  clear hb
  go_wp2_with fail
  go_ret
  exact ⟨rfl, B2.out.out⟩
set_option maxRecDepth 100000 in
set_option maxHeartbeats 8000000 in
theorem carries_bad (f : Int) (L : List Nt) (ad : Option Addr) (cap : Nat) (w : World) (hl : L.length ≤ 30) (hE : (if Sg f then errL 0 L else 2) ≠ 0) (h : NtAt w ad L) (hk : KT w) :
    Calls Tryd.prog 8 #[.int .i64 f, .slice ad L.length cap] w fun e w' => e = .returned (.bool true) ∧ Below w.heap.size w w' := by
  have HK := Lib.hid hk
  have B0 := Lib.hid (Bel.refl w)
  clear hk
  have hl2 : decide (30 < L.length) = false := by simpa using hl
  have KC := Lib.hid (fun wz (hz : NtAt wz ad L) => checkR_ok f L ad cap wz hl hz)
  have KD := fun ad2 cap2 (wz : World) (hz : NtAt wz ad2 L) (hkk : KT wz) => carry_any f _ (fun _ => 0) L.length cap2 ad2 wz ((display_bad f _ L ad2 cap2 (wz.alloc (.cells z77 58)) (by omega) rfl hE (hz.up ((Below.refl _ wz).alloc (Nat.le_refl _) _)) (hkk.below ((Below.refl _ wz).alloc (Nat.le_refl _) _))).mono fun e w' h => ⟨_, h.1, h.2⟩)
  generalize (if Sg f then errL 0 L else 2) = E at *
  obtain ⟨G, hG⟩ : ∃ G : Nat → Int, (fun _ => 0) = G := ⟨_, rfl⟩
  rw [hG] at KD
  have KD := Lib.hid KD
  have HG0 := Lib.hid hG
  have hE2 : (E != 0) = true := by simpa using hE
  have hE3 : (E == 0) = false := by simpa using hE
  have HA := Lib.hid h
  have hz := zero77
  clear h hE hG
  go_enter Tryd.func8, Tryd.ntmps8
  go_wp2_with fail
  refine (known_ok _ HK.out).mono ?_
  rintro e w1 ⟨rfl, hb⟩
  have B1 := Lib.hid (B0.out.up hb)
  clear hb
  go_wp2_with fail
  refine (own_ok L ad cap _ hl (HA.out.up B1.out)).mono ?_
  rintro e w2 ⟨v, rfl, hO⟩
  obtain ⟨ad2, cap2, rfl, hA2⟩ := hO.at
  have A2 := Lib.hid hA2
  have B2 := Lib.hid (B1.out.up hO.bel)
  clear hO hA2
  go_wp2_with fail
  refine (KD.out _ _ _ A2.out (HK.out.below B2.out)).mono ?_
  rintro e w3 ⟨rfl, hb⟩
  have hup : Below w3.heap.size w3 (w3.alloc (.cells z77 58)) := (Below.refl _ w3).alloc (Nat.le_refl _) _
  have B3 := Lib.hid ((B2.out.up hb).alloc (.cells z77 58))
  have F3 := Lib.hid (Fil.new w3 58 w3.heap.size rfl)
  have hw3 : w.heap.size ≤ w3.heap.size := (B2.out.up hb).size
  have F4 := Lib.hid (F3.out.stored (us := G))
  have B4 := Lib.hid (below_setCells hw3 w (arL G).toArray.toList 0 _ B3.out.out)
  clear hb hup
  go_upto_region 4 with (refine wpList_store_mid rfl 58 _ _ rfl w3.heap.size 0 (arL G).toArray rfl rfl (F3.out.there _) (by rw [size77]; simp [arL_len]) (arL_one _) ?_; generalize ((w3.alloc (.cells z77 58)).setCells w3.heap.size 0 (arL G).toArray.toList) = W4 at *)
  clear F3 B3
  generalize w3.heap.size = cb at *
  go_wp2_with fail
  refine (KC.out _ (HA.out.up B4.out)).mono ?_
  rintro e w5 ⟨rfl, hb⟩
  have F5 := Lib.hid (F4.out.up hb)
  have B5 := Lib.hid (Bel.up B4.out hb)
  clear hb F4 B4
  have hG := HG0.out
  subst hG
  have hq := fun wz => eq77 wz
  go_wp2_with (first
    | (refine wpList_load_mid_w rfl 58 _ rfl cb 0 rfl (arL fun _ => 0) _ F5.out.range Tryd.underlying58 rfl (by rw [size77, arL_len]) ?_))
  go_ret
  exact ⟨by first | rfl | (simp; done), B5.out.out⟩
set_option maxRecDepth 100000 in
set_option maxHeartbeats 8000000 in
theorem carries_ok (f : Int) (L : List Nt) (ad : Option Addr) (cap : Nat) (w : World) (hl : L.length ≤ 30) (hf : Sg f) (hE : errL 0 L = 0) (h : NtAt w ad L) (hk : KT w) :
    Calls Tryd.prog 8 #[.int .i64 f, .slice ad L.length cap] w fun e w' => e = .returned (.bool true) ∧ Below w.heap.size w w' := by
  have HK := Lib.hid hk
  have B0 := Lib.hid (Bel.refl w)
  clear hk
  have hl2 : decide (30 < L.length) = false := by simpa using hl
  have KC := Lib.hid (fun wz (hz : NtAt wz ad L) => checkR_ok f L ad cap wz hl hz)
  rw [if_pos hf, hE] at KC
  have KD := fun ad2 cap2 (wz : World) (hz : NtAt wz ad2 L) (hkk : KT wz) => carry_any f _ (disF L f L.length) L.length cap2 ad2 wz ((display_ok f L ad2 cap2 (wz.alloc (.cells z77 58)) hf (by omega) hE (errL_good L 0 hE).2 (hz.up ((Below.refl _ wz).alloc (Nat.le_refl _) _)) (hkk.below ((Below.refl _ wz).alloc (Nat.le_refl _) _))).mono fun e w' ⟨g, h1, h2, h3⟩ => ⟨_, h1, h3⟩)
  have HG := Lib.hid (errL_good L 0 hE).2
  have HF := Lib.hid hf
  have HA := Lib.hid h
  have hz := zero77
  have KR := fun (wz : World) (hz : NtAt wz ad L) => dispR_ok f L ad cap wz hf hl HG.out hz
  obtain ⟨G, hG⟩ : ∃ G : Nat → Int, disF L f L.length = G := ⟨_, rfl⟩
  rw [hG] at KD KR
  have KD := Lib.hid KD
  have KR := Lib.hid KR
  clear h hE hf hG
  go_enter Tryd.func8, Tryd.ntmps8
  go_wp2_with fail
  refine (known_ok _ HK.out).mono ?_
  rintro e w1 ⟨rfl, hb⟩
  have B1 := Lib.hid (B0.out.up hb)
  clear hb
  go_wp2_with fail
  refine (own_ok L ad cap _ hl (HA.out.up B1.out)).mono ?_
  rintro e w2 ⟨v, rfl, hO⟩
  obtain ⟨ad2, cap2, rfl, hA2⟩ := hO.at
  have A2 := Lib.hid hA2
  have B2 := Lib.hid (B1.out.up hO.bel)
  clear hO hA2
  go_wp2_with fail
  refine (KD.out _ _ _ A2.out (HK.out.below B2.out)).mono ?_
  rintro e w3 ⟨rfl, hb⟩
  have hup : Below w3.heap.size w3 (w3.alloc (.cells z77 58)) := (Below.refl _ w3).alloc (Nat.le_refl _) _
  have B3 := Lib.hid ((B2.out.up hb).alloc (.cells z77 58))
  have F3 := Lib.hid (Fil.new w3 58 w3.heap.size rfl)
  have hw3 : w.heap.size ≤ w3.heap.size := (B2.out.up hb).size
  have F4 := Lib.hid (F3.out.stored (us := G))
  have B4 := Lib.hid (below_setCells hw3 w (arL G).toArray.toList 0 _ B3.out.out)
  clear hb hup
  go_upto_region 4 with (refine wpList_store_mid rfl 58 _ _ rfl w3.heap.size 0 (arL G).toArray rfl rfl (F3.out.there _) (by rw [size77]; simp [arL_len]) (arL_one _) ?_; generalize ((w3.alloc (.cells z77 58)).setCells w3.heap.size 0 (arL G).toArray.toList) = W4 at *)
  clear F3 B3
  generalize w3.heap.size = cb at *
  go_wp2_with fail
  refine (KC.out _ (HA.out.up B4.out)).mono ?_
  rintro e w5 ⟨rfl, hb⟩
  have F5 := Lib.hid (F4.out.up hb)
  have B5 := Lib.hid (Bel.up B4.out hb)
  clear hb F4 B4
  go_wp2_with fail
  refine (KR.out _ (HA.out.up B5.out)).mono ?_
  rintro e w6 ⟨ad6, cap6, g6, cap7, rfl, hk6, hf6, hb⟩
  have F6 := Lib.hid (F5.out.up hb)
  have B6 := Lib.hid (Bel.up B5.out hb)
  have W6 := Lib.hid hf6
  clear hb hk6 hf6 F5 B5
  go_wp2_with fail
  go_loopg [10] 77 (fun gm i wr => ∃ (j : Nat), j ≤ 77 ∧ gm = 77 - j ∧ i = .int .i64 (j : Int) ∧ Hid (Fil wr cb 77 G) ∧ Hid (Fil wr g6 77 G) ∧ Hid (Bel w wr))
  case atStart => exact ⟨0, by omega, by omega, rfl, F6, W6, B6⟩
  case round =>
    obtain ⟨j, hj, rfl, rfl, HM, HW, HB⟩ := hrel
    clear F6 W6 B6
    by_cases hjk : j < 77
    · obtain ⟨m0, _⟩ := HM.out j hjk
      obtain ⟨p0, _⟩ := HW.out j hjk
      generalize G j = D at m0 p0
      go_wp2_with fail
      try (go_quiet (fail); go_wp2_with fail)
      go_roundg (77 - (j + 1))
      case measure => omega
      case rel => exact ⟨j + 1, by omega, rfl, by go_num, by first | exact HM | exact Lib.hid (HM.out.up (below_drewN (Below.refl _ _) _)), by first | exact HW | exact Lib.hid (HW.out.up (below_drewN (Below.refl _ _) _)), by first | exact HB | exact Lib.hid (Bel.drewN HB.out _)⟩
    · obtain rfl : j = 77 := by omega
      go_wp2_with fail
      go_ret
      exact ⟨by first | rfl | (simp; done), HB.out.out⟩
theorem law_AccidentalCarries (f : Int) (L : List Nt) (ad : Option Addr) (cap : Nat) (w : World) (hc : L.length ≤ cap) (hm : cap ≤ maxLen) (h : NtAt w ad L) (hk : KT w) :
    Calls Tryd.prog 8 #[.int .i64 f, .slice ad L.length cap] w fun e w' => e = .returned (.bool true) ∧ Below w.heap.size w w' := by
  unfold maxLen at hm
  by_cases hl : 30 < L.length
  · exact carries_long f L ad cap w hl (by omega) hk
  · by_cases hE : (if Sg f then errL 0 L else 2) = 0
    · by_cases hf : Sg f
      · rw [if_pos hf] at hE
        exact carries_ok f L ad cap w (by omega) hf hE h hk
      · rw [if_neg hf] at hE
        exact absurd hE (by omega)
    · exact carries_bad f L ad cap w (by omega) hE h hk
end Go.Proofs.YthmdjpfjaojihaaDoor
