/- Accidentals: law Limit. -/
import Derived.Test.YthmdjpfjaojihaaDoorBc
namespace Go.Proofs.YthmdjpfjaojihaaDoor
open Go.RowKit
set_option linter.unusedVariables false
set_option linter.unusedSimpArgs false

set_option maxRecDepth 100000 in
set_option maxHeartbeats 1000000 in
theorem display_badK (f E : Int) (n cap : Nat) (ad : Option Addr) (w : World) (hf : Sg f) (he : E ≠ 0) (hk : KT w) (KC0 : ∀ wz, Bel w wz → Calls Tryd.prog 29 #[.slice ad n cap] wz fun e w' => e = .returned (.int .i64 E) ∧ Below wz.heap.size wz w') :
    Calls Tryd.prog 22 #[.int .i64 f, .slice ad n cap] w fun e w' => e = .returned (.tuple #[.slice none 0 0, .agg z77, .int .i64 E]) ∧ Below w.heap.size w w' := by
  have HK := Lib.hid hk
  have hz := zero77
  have HF := Lib.hid hf
  have KC := Lib.hid KC0
  have he2 : (E != 0) = true := by simpa using he
  clear hf he KC0
  have R0 := Lib.hid (Fil.new w 58 w.heap.size rfl)
  have B0 := Lib.hid ((Bel.refl w).alloc (.cells z77 58))
  clear hk
  go_enter Tryd.func22, Tryd.ntmps22
  go_wp2_with fail
  refine (sigA_ok f _ HF.out (HK.out.below B0.out.out)).mono ?_
  rintro e w1 ⟨rfl, hb⟩
  have hup : Below w1.heap.size w1 (w1.alloc (.cells z77 58)) := (Below.refl _ w1).alloc (Nat.le_refl _) _
  have R1 := Lib.hid ((R0.out.up hb).up hup)
  have B1 := Lib.hid ((B0.out.up hb).alloc (.cells z77 58))
  have F1 := Lib.hid (Fil.new w1 58 w1.heap.size rfl)
  have hr1 : w.heap.size < w1.heap.size := (R0.out.up hb).lt (by omega)
  have B2 := Lib.hid (below_setCells (Nat.le_of_lt hr1) w (arL (frI f)).toArray.toList 0 _ B1.out.out)
  have R2 := Lib.hid (Fil.asideN (L := (arL (frI f)).toArray.toList) (c := w1.heap.size) R1.out hr1)
  clear hb hup R0 B0 R1
  go_wp2_with (refine wpList_store_mid rfl 58 _ _ rfl w1.heap.size 0 (arL (frI f)).toArray rfl rfl (F1.out.there _) (by rw [size77]; simp [arL_len]) (arL_one _) ?_; generalize ((w1.alloc (.cells z77 58)).setCells w1.heap.size 0 (arL (frI f)).toArray.toList) = W2 at *)
  clear F1 B1
  refine (KC.out _ B2.out).mono ?_
  rintro e w3 ⟨rfl, hb⟩
  have R3 := Lib.hid (R2.out.up hb)
  have B3 := Lib.hid (Bel.up B2.out hb)
  clear hb R2 B2
  have HS := Lib.hid (R3.out.stored (us := fun _ => 0))
  have HB9 := Lib.hid (below_setCells (Nat.le_refl _) w (arL fun _ => 0).toArray.toList 0 _ B3.out)
  go_wp2_with (refine wpList_store_mid rfl 58 _ _ rfl w.heap.size 0 (arL fun _ => 0).toArray rfl rfl (R3.out.there _) (by rw [size77]; simp [arL_len]) (arL_one _) ?_; generalize (w3.setCells w.heap.size 0 (arL fun _ => 0).toArray.toList) = w9 at *)
  have hl9 := run_loadVar_mid (P := Tryd.prog) w9 w.heap.size 0 58 (arL fun _ => 0) _ HS.out.range Tryd.underlying58 rfl (by rw [size77, arL_len])
  exact bodyPost_ret (v := .tuple #[.slice none 0 0, .agg z77, .int .i64 E]) (by rw [results_tct Tryd.results22]; simp [asAddr, hl9, Result.andThen, z77]) rfl ⟨rfl, HB9.out⟩
set_option maxRecDepth 100000 in
set_option maxHeartbeats 2000000 in
theorem Display_wrap (f E : Int) (n cap : Nat) (ad : Option Addr) (w : World) (K : Calls Tryd.prog 22 #[.int .i64 f, .slice ad n cap] w fun e w' => e = .returned (.tuple #[.slice none 0 0, .agg (arL (fun _ => 0)).toArray, .int .i64 E]) ∧ Below w.heap.size w w') :
    Calls Tryd.prog 11 #[.int .i64 f, .slice ad n cap] w fun e w' => e = .returned (.tuple #[.slice none 0 0, .int .i64 E]) ∧ Below w.heap.size w w' := by
  have KK := Lib.hid K
  clear K
  go_enter Tryd.func11, Tryd.ntmps11
  go_wp2_with fail
  refine KK.out.mono ?_
  rintro e w1 ⟨rfl, hb⟩
  obtain ⟨G, hG⟩ : ∃ G : Nat → Int, (fun _ => 0) = G := ⟨_, rfl⟩
  rw [hG]
  clear hG
  have hup : Below w1.heap.size w1 (w1.alloc (.cells z77 58)) := (Below.refl _ w1).alloc (Nat.le_refl _) _
  have F2 := Lib.hid (Fil.new w1 58 w1.heap.size rfl)
  have B2 := Lib.hid (below_setCells hb.size w (arL G).toArray.toList 0 _ (Bel.alloc hb (.cells z77 58)))
  clear hb hup
  have hz := zero77
  go_wp2_with (refine wpList_store_mid rfl 58 _ _ rfl w1.heap.size 0 (arL G).toArray rfl rfl (F2.out.there _) (by rw [size77]; simp [arL_len]) (arL_one _) ?_; generalize ((w1.alloc (.cells z77 58)).setCells w1.heap.size 0 (arL G).toArray.toList) = w10 at *)
  exact bodyPost_ret (v := .tuple #[.slice none 0 0, .int .i64 E]) (by first | (simp [results, Tryd.results11, go_sem]; done) | (simp [results, Tryd.results11, go_sem]; omega)) rfl ⟨rfl, B2.out⟩
theorem errL_rep {z : Int} (N : Nat) : ∀ last : Int, last ≤ z → errL last (List.replicate N ⟨z, 0, 0, 0, false, 0⟩) = 0 := by
  induction N with
  | zero => intro _ _; rfl
  | succ N ih =>
    intro last hl
    have hz : errN last ⟨z, 0, 0, 0, false, 0⟩ = 0 := by
      unfold errN
      simp only
      rw [if_neg (by omega), if_neg (Decidable.not_not.2 ⟨by omega, by omega, by omega, by omega⟩), if_neg (by omega), if_neg (by omega)]
    show (if errN last ⟨z, 0, 0, 0, false, 0⟩ = 0 then errL z (List.replicate N ⟨z, 0, 0, 0, false, 0⟩) else errN last ⟨z, 0, 0, 0, false, 0⟩) = 0
    rw [if_pos hz]
    exact ih z (Int.le_refl _)
theorem errPL_rep {z : Int} (N : Nat) : ∀ last : Int, last ≤ z → errPL last (List.replicate N ⟨z, 0, 0, 0, false, false, 0⟩) = 0 := by
  induction N with
  | zero => intro _ _; rfl
  | succ N ih =>
    intro last hl
    have hz : errP last ⟨z, 0, 0, 0, false, false, 0⟩ = 0 := by
      unfold errP
      simp only
      rw [if_neg (by omega), if_neg (Decidable.not_not.2 ⟨by omega, by omega, by omega, by omega⟩), if_neg (by omega), if_neg (by simp)]
    show (if errP last ⟨z, 0, 0, 0, false, false, 0⟩ = 0 then errPL z (List.replicate N ⟨z, 0, 0, 0, false, false, 0⟩) else errP last ⟨z, 0, 0, 0, false, false, 0⟩) = 0
    rw [if_pos hz]
    exact ih z (Int.le_refl _)
/-- notes and places of a made row: the first k have the tick z -/
def MN (w : World) (g N : Nat) (z : Int) (k : Nat) : Prop := ∀ j : Nat, j < N → N6 w g (j * 6) ⟨if j < k then z else 0, 0, 0, 0, false, 0⟩ ∧ w.frozen? ⟨g, j * 6, none⟩ = false
def MP (w : World) (g N : Nat) (z : Int) (k : Nat) : Prop := ∀ j : Nat, j < N → N7 w g (j * 7) ⟨if j < k then z else 0, 0, 0, 0, false, false, 0⟩ ∧ w.frozen? ⟨g, j * 7, none⟩ = false
theorem MN.up {w w' : World} {g N k : Nat} {z : Int} (h : MN w g N z k) (hb : Below w.heap.size w w') : MN w' g N z k := fun j hj => by
  obtain ⟨h0, h1⟩ := h j hj
  exact ⟨h0.up hb, (hb.frozen (p := ⟨g, j * 6, none⟩) (lt_of_cell h0.c0)).trans h1⟩
theorem MP.up {w w' : World} {g N k : Nat} {z : Int} (h : MP w g N z k) (hb : Below w.heap.size w w') : MP w' g N z k := fun j hj => by
  obtain ⟨h0, h1⟩ := h j hj
  exact ⟨h0.up hb, (hb.frozen (p := ⟨g, j * 7, none⟩) (lt_of_cell h0.c0)).trans h1⟩
theorem MN.next {w : World} {g N k : Nat} {z : Int} (h : MN w g N z k) (hk : k < N) : MN (w.setCell ⟨g, k * 6, none⟩ (.int .i64 z)) g N z (k + 1) := by
  intro j hj
  obtain ⟨⟨c0, c1, c2, c3, c4, c5⟩, d0⟩ := h j hj
  by_cases e : j = k
  · subst e
    simp only at c0 c1 c2 c3 c4 c5
    refine ⟨⟨?_, ?_, ?_, ?_, ?_, ?_⟩, ?_⟩ <;> simp [go_sem, *]
  · have e2 : (if j < k + 1 then z else 0) = (if j < k then z else 0) := by
      by_cases h1 : j < k
      · rw [if_pos h1, if_pos (by omega)]
      · rw [if_neg h1, if_neg (by omega)]
    rw [e2]
    have n0 : k * 6 ≠ j * 6 := by omega
    have n1 : k * 6 ≠ j * 6 + 1 := by omega
    have n2 : k * 6 ≠ j * 6 + 2 := by omega
    have n3 : k * 6 ≠ j * 6 + 3 := by omega
    have n4 : k * 6 ≠ j * 6 + 4 := by omega
    have n5 : k * 6 ≠ j * 6 + 5 := by omega
    have n6 : k ≠ j := fun h => e h.symm
    clear e2 h
    refine ⟨⟨?_, ?_, ?_, ?_, ?_, ?_⟩, ?_⟩ <;> simp [go_sem, *]
theorem MP.next {w : World} {g N k : Nat} {z : Int} (h : MP w g N z k) (hk : k < N) : MP (w.setCell ⟨g, k * 7, none⟩ (.int .i64 z)) g N z (k + 1) := by
  intro j hj
  obtain ⟨⟨c0, c1, c2, c3, c4, c5, c6⟩, d0⟩ := h j hj
  by_cases e : j = k
  · subst e
    simp only at c0 c1 c2 c3 c4 c5 c6
    refine ⟨⟨?_, ?_, ?_, ?_, ?_, ?_, ?_⟩, ?_⟩ <;> simp [go_sem, *]
  · have e2 : (if j < k + 1 then z else 0) = (if j < k then z else 0) := by
      by_cases h1 : j < k
      · rw [if_pos h1, if_pos (by omega)]
      · rw [if_neg h1, if_neg (by omega)]
    rw [e2]
    have n0 : k * 7 ≠ j * 7 := by omega
    have n1 : k * 7 ≠ j * 7 + 1 := by omega
    have n2 : k * 7 ≠ j * 7 + 2 := by omega
    have n3 : k * 7 ≠ j * 7 + 3 := by omega
    have n4 : k * 7 ≠ j * 7 + 4 := by omega
    have n5 : k * 7 ≠ j * 7 + 5 := by omega
    have n7 : k * 7 ≠ j * 7 + 6 := by omega
    have n6 : k ≠ j := fun h => e h.symm
    clear e2 h
    refine ⟨⟨?_, ?_, ?_, ?_, ?_, ?_, ?_⟩, ?_⟩ <;> simp [go_sem, *]
theorem MN.other {w : World} {g c i N k : Nat} {z : Int} {u : Value} (h : MN w g N z k) (hn : c ≠ g) : MN (w.setCell ⟨c, i, none⟩ u) g N z k := fun j hj => by
  obtain ⟨⟨c0, c1, c2, c3, c4, c5⟩, d0⟩ := h j hj
  have hn' : g ≠ c := fun e => hn e.symm
  clear h
  refine ⟨⟨?_, ?_, ?_, ?_, ?_, ?_⟩, ?_⟩ <;> simp [go_sem, *]
theorem MP.other {w : World} {g c i N k : Nat} {z : Int} {u : Value} (h : MP w g N z k) (hn : c ≠ g) : MP (w.setCell ⟨c, i, none⟩ u) g N z k := fun j hj => by
  obtain ⟨⟨c0, c1, c2, c3, c4, c5, c6⟩, d0⟩ := h j hj
  have hn' : g ≠ c := fun e => hn e.symm
  clear h
  refine ⟨⟨?_, ?_, ?_, ?_, ?_, ?_, ?_⟩, ?_⟩ <;> simp [go_sem, *]
theorem MN.rep {w : World} {g N : Nat} {z : Int} (h : MN w g N z N) : NtAt w (some ⟨g, 0, none⟩) (List.replicate N ⟨z, 0, 0, 0, false, 0⟩) := fun k n hn => by
  rw [List.getElem?_replicate] at hn
  split at hn
  · rename_i hk
    cases hn
    have := (h k hk).1
    rw [if_pos hk] at this
    exact ⟨g, 0, rfl, by rwa [Nat.zero_add]⟩
  · cases hn
theorem MP.rep {w : World} {g N : Nat} {z : Int} (h : MP w g N z N) : PlAt w (some ⟨g, 0, none⟩) (List.replicate N ⟨z, 0, 0, 0, false, false, 0⟩) := fun k n hn => by
  rw [List.getElem?_replicate] at hn
  split at hn
  · rename_i hk
    cases hn
    have := (h k hk).1
    rw [if_pos hk] at this
    exact ⟨g, 0, rfl, by rwa [Nat.zero_add]⟩
  · cases hn
theorem make_note (n : Nat) (hn : n ≤ 100000) (w : World) : (Instr.makeSlice 28 (.int .i64 (n : Int)) (.int .i64 (n : Int))).run Tryd.prog w = .ok (.slice (some ⟨w.heap.size, 0, none⟩) n n) (w.alloc (.cells (madeCells #[.int .i64 0, .int .i64 0, .int .i64 0, .int .i64 0, .bool false, .int .i64 0] (n * 6)) 61)) := by
  obtain ⟨i, hi, hzz⟩ := Option.map_eq_some_iff.1 infoN
  simp only [Prod.mk.injEq] at hzz
  obtain ⟨hz, hs, hb⟩ := hzz
  have hr := run_make (P := Tryd.prog) w 28 61 i _ Tryd.underlying28 hi hz .i64 .i64 n n (by omega) (Int.le_refl _) (by rw [hb]; omega) (by omega)
  simp only [Int.toNat_natCast, hs] at hr
  exact hr
theorem make_place (n : Nat) (hn : n ≤ 100000) (w : World) : (Instr.makeSlice 38 (.int .i64 (n : Int)) (.int .i64 (n : Int))).run Tryd.prog w = .ok (.slice (some ⟨w.heap.size, 0, none⟩) n n) (w.alloc (.cells (madeCells #[.int .i64 0, .int .i64 0, .int .i64 0, .int .i64 0, .bool false, .bool false, .int .i64 0] (n * 7)) 45)) := by
  obtain ⟨i, hi, hzz⟩ := Option.map_eq_some_iff.1 infoPl
  simp only [Prod.mk.injEq] at hzz
  obtain ⟨hz, hs, hb⟩ := hzz
  have hr := run_make (P := Tryd.prog) w 38 45 i _ Tryd.underlying38 hi hz .i64 .i64 n n (by omega) (Int.le_refl _) (by rw [hb]; omega) (by omega)
  simp only [Int.toNat_natCast, hs] at hr
  exact hr
theorem mn_made (w : World) (N : Nat) (z : Int) (t : TypeId) (g : Nat) (hg : g = w.heap.size) : MN (w.alloc (.cells (madeCells #[.int .i64 0, .int .i64 0, .int .i64 0, .int .i64 0, .bool false, .int .i64 0] (N * 6)) t)) g N z 0 := by
  intro j hj
  subst hg
  have hm : ∀ r, r < 6 → (j * 6 + r) % 6 = r := fun r hr => by omega
  have hl : ∀ r, r < 6 → j * 6 + r < N * 6 := fun r hr => by omega
  have h0 := hl 0 (by omega)
  have h1 := hl 1 (by omega)
  have h2 := hl 2 (by omega)
  have h3 := hl 3 (by omega)
  have h4 := hl 4 (by omega)
  have h5 := hl 5 (by omega)
  have m1 := hm 1 (by omega)
  have m2 := hm 2 (by omega)
  have m3 := hm 3 (by omega)
  have m4 := hm 4 (by omega)
  have m5 := hm 5 (by omega)
  simp only [Nat.add_zero] at h0
  refine ⟨⟨tab_new w _ t _ rfl _ _ ?_, tab_new w _ t _ rfl _ _ ?_, tab_new w _ t _ rfl _ _ ?_, tab_new w _ t _ rfl _ _ ?_, tab_new w _ t _ rfl _ _ ?_, tab_new w _ t _ rfl _ _ ?_⟩, by simp [go_sem]⟩
  · simp [madeCells, h0]
  · simp [madeCells, h1, m1]
  · simp [madeCells, h2, m2]
  · simp [madeCells, h3, m3]
  · simp [madeCells, h4, m4]
  · simp [madeCells, h5, m5]
theorem mp_made (w : World) (N : Nat) (z : Int) (t : TypeId) (g : Nat) (hg : g = w.heap.size) : MP (w.alloc (.cells (madeCells #[.int .i64 0, .int .i64 0, .int .i64 0, .int .i64 0, .bool false, .bool false, .int .i64 0] (N * 7)) t)) g N z 0 := by
  intro j hj
  subst hg
  have hm : ∀ r, r < 7 → (j * 7 + r) % 7 = r := fun r hr => by omega
  have hl : ∀ r, r < 7 → j * 7 + r < N * 7 := fun r hr => by omega
  have h0 := hl 0 (by omega)
  have h1 := hl 1 (by omega)
  have h2 := hl 2 (by omega)
  have h3 := hl 3 (by omega)
  have h4 := hl 4 (by omega)
  have h5 := hl 5 (by omega)
  have h6 := hl 6 (by omega)
  have m1 := hm 1 (by omega)
  have m2 := hm 2 (by omega)
  have m3 := hm 3 (by omega)
  have m4 := hm 4 (by omega)
  have m5 := hm 5 (by omega)
  have m6 := hm 6 (by omega)
  simp only [Nat.add_zero] at h0
  refine ⟨⟨tab_new w _ t _ rfl _ _ ?_, tab_new w _ t _ rfl _ _ ?_, tab_new w _ t _ rfl _ _ ?_, tab_new w _ t _ rfl _ _ ?_, tab_new w _ t _ rfl _ _ ?_, tab_new w _ t _ rfl _ _ ?_, tab_new w _ t _ rfl _ _ ?_⟩, by simp [go_sem]⟩
  · simp [madeCells, h0]
  · simp [madeCells, h1, m1]
  · simp [madeCells, h2, m2]
  · simp [madeCells, h3, m3]
  · simp [madeCells, h4, m4]
  · simp [madeCells, h5, m5]
  · simp [madeCells, h6, m6]
set_option maxRecDepth 100000 in
set_option maxHeartbeats 8000000 in
theorem limit_false (z : Int) (w : World) (z0 : 0 ≤ z) (z1 : z ≤ 255) (hk : KT w) :
    Calls Tryd.prog 9 #[.bool false, .int .u8 z] w fun e w' => e = .returned (.bool true) ∧ Below w.heap.size w w' := by
  have HK := Lib.hid hk
  clear hk
  obtain ⟨N, hN⟩ : ∃ N : Nat, N = 2560 := ⟨_, rfl⟩
  have hm1 := fun wz => make_note N (by omega) wz
  have hm2 := fun wz => make_place N (by omega) wz
  have hNi : (N : Int) = 2560 := by omega
  rw [hNi] at hm1 hm2
  have HB0 := Lib.hid (((Bel.refl w).alloc (.cells (madeCells #[.int .i64 0, .int .i64 0, .int .i64 0, .int .i64 0, .bool false, .int .i64 0] (N * 6)) 61)).alloc (.cells (madeCells #[.int .i64 0, .int .i64 0, .int .i64 0, .int .i64 0, .bool false, .bool false, .int .i64 0] (N * 7)) 45))
  have HN0 := Lib.hid ((mn_made w N z 61 w.heap.size rfl).up ((Below.refl _ (w.alloc (.cells (madeCells #[.int .i64 0, .int .i64 0, .int .i64 0, .int .i64 0, .bool false, .int .i64 0] (N * 6)) 61))).alloc (Nat.le_refl _) (.cells (madeCells #[.int .i64 0, .int .i64 0, .int .i64 0, .int .i64 0, .bool false, .bool false, .int .i64 0] (N * 7)) 45)))
  have HP0 := Lib.hid (mp_made (w.alloc (.cells (madeCells #[.int .i64 0, .int .i64 0, .int .i64 0, .int .i64 0, .bool false, .int .i64 0] (N * 6)) 61)) N z 45 (w.heap.size + 1) (by simp))
  have HNN := Lib.hid hN
  clear hN hNi
  go_enter Tryd.func9, Tryd.ntmps9
  go_wp2_with fail
  generalize ((w.alloc (.cells (madeCells #[.int .i64 0, .int .i64 0, .int .i64 0, .int .i64 0, .bool false, .int .i64 0] (N * 6)) 61)).alloc (.cells (madeCells #[.int .i64 0, .int .i64 0, .int .i64 0, .int .i64 0, .bool false, .bool false, .int .i64 0] (N * 7)) 45)) = W0 at *
  go_loopg [8] 2560 (fun gm i wr => ∃ (k : Nat), k ≤ 2560 ∧ gm = 2560 - k ∧ i = .int .i64 (k : Int) ∧ Hid (MN wr w.heap.size N z k) ∧ Hid (MP wr (w.heap.size + 1) N z k) ∧ Hid (Bel w wr))
  case atStart => exact ⟨0, by omega, by omega, rfl, HN0, HP0, HB0⟩
  case round =>
    obtain ⟨k, hk, rfl, rfl, HN, HP, HB⟩ := hrel
    clear HN0 HP0 HB0
    by_cases hlt : k < 2560
    · have hkN : k < N := by have := HNN.out; omega
      obtain ⟨hc, hf⟩ := HN.out k hkN
      obtain ⟨hd, hg⟩ := HP.out k hkN
      have c0 := hc.c0
      have d0 := hd.c0
      simp only [Nat.lt_irrefl, if_false] at c0 d0
      have HN1 := Lib.hid ((HN.out.next hkN).other (c := w.heap.size + 1) (i := k * 7) (u := .int .i64 z) (by omega))
      have HP1 := Lib.hid ((HP.out.other (c := w.heap.size) (i := k * 6) (u := .int .i64 z) (by omega)).next hkN)
      have HB1 := Lib.hid ((HB.out.set (b := w.heap.size) (by omega) (k * 6) (.int .i64 z)).set (b := w.heap.size + 1) (by omega) (k * 7) (.int .i64 z))
      clear hc hd HN HP HB
      go_wp2_with fail
      go_roundg (2560 - (k + 1))
      case measure => omega
      case rel => exact ⟨k + 1, by omega, rfl, by go_num, HN1, HP1, HB1⟩
    · obtain rfl : k = 2560 := by omega
      have HNR := Lib.hid HN.out
      have hNe := HNN.out
      subst hNe
      clear hm1 hm2
      have HNA := Lib.hid HN.out.rep
      have HPA := Lib.hid HP.out.rep
      have KE := Lib.hid (errL_rep (z := z) 2560 0 z0)
      have KPE := Lib.hid (errPL_rep (z := z) 2560 0 z0)
      have KD := fun wz (hz : NtAt wz (some ⟨w.heap.size, 0, none⟩) (List.replicate 2560 ⟨z, 0, 0, 0, false, 0⟩)) (hkk : KT wz) => Display_ok 0 (List.replicate 2560 ⟨z, 0, 0, 0, false, 0⟩) (some ⟨w.heap.size, 0, none⟩) 2560 wz ⟨by omega, by omega⟩ (by simp) KE.out hz hkk
      have KR := fun wz (hz : PlAt wz (some ⟨w.heap.size + 1, 0, none⟩) (List.replicate 2560 ⟨z, 0, 0, 0, false, false, 0⟩)) (hkk : KT wz) => Read_ok 0 (List.replicate 2560 ⟨z, 0, 0, 0, false, false, 0⟩) (some ⟨w.heap.size + 1, 0, none⟩) 2560 wz ⟨by omega, by omega⟩ (by simp) KPE.out hz hkk
      simp only [List.length_replicate] at KD KR
      have KD := Lib.hid KD
      have KR := Lib.hid KR
      generalize List.replicate 2560 (⟨z, 0, 0, 0, false, 0⟩ : Nt) = LN at *
      generalize List.replicate 2560 (⟨z, 0, 0, 0, false, false, 0⟩ : Pl) = LP at *
      clear HN HP HNR
      go_wp2_with fail
      refine (KD.out _ HNA.out (HK.out.below HB.out)).mono ?_
      rintro e w2 ⟨g2, rfl, _, hb⟩
      have B2 := Lib.hid (HB.out.up hb)
      have P2 := Lib.hid (HPA.out.up hb)
      clear hb HB HPA HNA
      go_wp2_with fail
      refine (KR.out _ P2.out (HK.out.below B2.out)).mono ?_
      rintro e w3 ⟨g3, rfl, _, hb⟩
      have B3 := Lib.hid (B2.out.up hb)
      clear hb B2 P2
      go_wp2_with fail
      refine (known_ok _ (HK.out.below B3.out)).mono ?_
      rintro e w4 ⟨rfl, hb⟩
      have B4 := Lib.hid (B3.out.up hb)
      clear hb B3
      go_wp2_with fail
      go_ret
      exact ⟨rfl, B4.out.out⟩
set_option maxRecDepth 100000 in
set_option maxHeartbeats 8000000 in
theorem limit_true (z : Int) (w : World) (z0 : 0 ≤ z) (z1 : z ≤ 255) (hk : KT w) :
    Calls Tryd.prog 9 #[.bool true, .int .u8 z] w fun e w' => e = .returned (.bool true) ∧ Below w.heap.size w w' := by
  have HK := Lib.hid hk
  clear hk
  obtain ⟨N, hN⟩ : ∃ N : Nat, N = 2561 := ⟨_, rfl⟩
  have hm1 := fun wz => make_note N (by omega) wz
  have hm2 := fun wz => make_place N (by omega) wz
  have hNi : (N : Int) = 2561 := by omega
  rw [hNi] at hm1 hm2
  have HB0 := Lib.hid (((Bel.refl w).alloc (.cells (madeCells #[.int .i64 0, .int .i64 0, .int .i64 0, .int .i64 0, .bool false, .int .i64 0] (N * 6)) 61)).alloc (.cells (madeCells #[.int .i64 0, .int .i64 0, .int .i64 0, .int .i64 0, .bool false, .bool false, .int .i64 0] (N * 7)) 45))
  have HN0 := Lib.hid ((mn_made w N z 61 w.heap.size rfl).up ((Below.refl _ (w.alloc (.cells (madeCells #[.int .i64 0, .int .i64 0, .int .i64 0, .int .i64 0, .bool false, .int .i64 0] (N * 6)) 61))).alloc (Nat.le_refl _) (.cells (madeCells #[.int .i64 0, .int .i64 0, .int .i64 0, .int .i64 0, .bool false, .bool false, .int .i64 0] (N * 7)) 45)))
  have HP0 := Lib.hid (mp_made (w.alloc (.cells (madeCells #[.int .i64 0, .int .i64 0, .int .i64 0, .int .i64 0, .bool false, .int .i64 0] (N * 6)) 61)) N z 45 (w.heap.size + 1) (by simp))
  have HNN := Lib.hid hN
  clear hN hNi
  go_enter Tryd.func9, Tryd.ntmps9
  go_wp2_with fail
  generalize ((w.alloc (.cells (madeCells #[.int .i64 0, .int .i64 0, .int .i64 0, .int .i64 0, .bool false, .int .i64 0] (N * 6)) 61)).alloc (.cells (madeCells #[.int .i64 0, .int .i64 0, .int .i64 0, .int .i64 0, .bool false, .bool false, .int .i64 0] (N * 7)) 45)) = W0 at *
  go_loopg [8] 2561 (fun gm i wr => ∃ (k : Nat), k ≤ 2561 ∧ gm = 2561 - k ∧ i = .int .i64 (k : Int) ∧ Hid (MN wr w.heap.size N z k) ∧ Hid (MP wr (w.heap.size + 1) N z k) ∧ Hid (Bel w wr))
  case atStart => exact ⟨0, by omega, by omega, rfl, HN0, HP0, HB0⟩
  case round =>
    obtain ⟨k, hk, rfl, rfl, HN, HP, HB⟩ := hrel
    clear HN0 HP0 HB0
    by_cases hlt : k < 2561
    · have hkN : k < N := by have := HNN.out; omega
      obtain ⟨hc, hf⟩ := HN.out k hkN
      obtain ⟨hd, hg⟩ := HP.out k hkN
      have c0 := hc.c0
      have d0 := hd.c0
      simp only [Nat.lt_irrefl, if_false] at c0 d0
      have HN1 := Lib.hid ((HN.out.next hkN).other (c := w.heap.size + 1) (i := k * 7) (u := .int .i64 z) (by omega))
      have HP1 := Lib.hid ((HP.out.other (c := w.heap.size) (i := k * 6) (u := .int .i64 z) (by omega)).next hkN)
      have HB1 := Lib.hid ((HB.out.set (b := w.heap.size) (by omega) (k * 6) (.int .i64 z)).set (b := w.heap.size + 1) (by omega) (k * 7) (.int .i64 z))
      clear hc hd HN HP HB
      go_wp2_with fail
      go_roundg (2561 - (k + 1))
      case measure => omega
      case rel => exact ⟨k + 1, by omega, rfl, by go_num, HN1, HP1, HB1⟩
    · obtain rfl : k = 2561 := by omega
      have HNR := Lib.hid HN.out
      have hNe := HNN.out
      subst hNe
      clear hm1 hm2
      have KCN := fun wz => checkN_many (List.replicate 2561 ⟨z, 0, 0, 0, false, 0⟩) (some ⟨w.heap.size, 0, none⟩) 2561 wz (by simp)
      have KCP := fun wz => checkP_many (List.replicate 2561 ⟨z, 0, 0, 0, false, false, 0⟩) (some ⟨w.heap.size + 1, 0, none⟩) 2561 wz (by simp)
      simp only [List.length_replicate] at KCN KCP
      have KD := Lib.hid (fun wz (hkk : KT wz) => Display_wrap 0 9 2561 2561 (some ⟨w.heap.size, 0, none⟩) wz (display_badK 0 9 2561 2561 (some ⟨w.heap.size, 0, none⟩) wz ⟨by omega, by omega⟩ (by omega) hkk (fun wy _ => KCN wy)))
      have KR := Lib.hid (fun wz (hkk : KT wz) => Read_bad2 0 9 2561 2561 (some ⟨w.heap.size + 1, 0, none⟩) wz ⟨by omega, by omega⟩ (by omega) hkk (fun wy _ => KCP wy))
      clear HN HP HNR KCN KCP
      go_wp2_with fail
      refine (KD.out _ (HK.out.below HB.out)).mono ?_
      rintro e w2 ⟨rfl, hb⟩
      have B2 := Lib.hid (HB.out.up hb)
      clear hb HB
      go_wp2_with fail
      refine (KR.out _ (HK.out.below B2.out)).mono ?_
      rintro e w3 ⟨rfl, hb⟩
      have B3 := Lib.hid (B2.out.up hb)
      clear hb B2
      go_wp2_with fail
      refine (known_ok _ (HK.out.below B3.out)).mono ?_
      rintro e w4 ⟨rfl, hb⟩
      have B4 := Lib.hid (B3.out.up hb)
      clear hb B3
      go_wp2_with fail
      go_ret
      exact ⟨rfl, B4.out.out⟩
theorem law_AccidentalLimit (m : Bool) (z : Int) (w : World) (z0 : 0 ≤ z) (z1 : z ≤ 255) (hk : KT w) :
    Calls Tryd.prog 9 #[.bool m, .int .u8 z] w fun e w' => e = .returned (.bool true) ∧ Below w.heap.size w w' := by
  cases m
  · exact limit_false z w z0 z1 hk
  · exact limit_true z w z0 z1 hk
end Go.Proofs.YthmdjpfjaojihaaDoor
