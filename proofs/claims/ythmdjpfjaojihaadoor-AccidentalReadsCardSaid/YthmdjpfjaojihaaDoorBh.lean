/- Accidentals: law Reads. -/
import Derived.Test.YthmdjpfjaojihaaDoorBg
import Derived.Test.YthmdjpfjaojihaaDoorQu
import Derived.OwnWalk
import Derived.Laws.AppendOwn
import Derived.Deep.Cut
namespace Go.Proofs.YthmdjpfjaojihaaDoor
open Go.RowKit
set_option linter.unusedVariables false
set_option linter.unusedSimpArgs false

theorem Read_any (f E : Int) (L : List Pl) (ad : Option Addr) (cap : Nat) (w : World) (hl : L.length ≤ 2560) (hE : (if Sg f then errPL 0 L else 2) = E) (h0 : E ≠ 0) (h : PlAt w ad L) (hk : KT w) :
    Calls Tryd.prog 16 #[.int .i64 f, .slice ad L.length cap] w fun e w' => e = .returned (.tuple #[.slice none 0 0, .int .i64 E]) ∧ Below w.heap.size w w' := by
  subst hE
  by_cases hf : Sg f
  · rw [if_pos hf] at h0 ⊢
    exact Read_bad2 f _ L.length cap ad w hf h0 hk (fun wz hz => checkP_ok L ad cap wz hl (h.up hz.out))
  · rw [if_neg hf]
    exact Read_bad1 f L.length cap ad w hf hk
set_option maxRecDepth 100000 in
set_option maxHeartbeats 8000000 in
theorem reads_long (f : Int) (L : List Pl) (ad : Option Addr) (cap : Nat) (w : World) (hl : 30 < L.length) (hm : L.length ≤ 9223372036854775807) (hk : KT w) :
    Calls Tryd.prog 4 #[.int .i64 f, .slice ad L.length cap] w fun e w' => e = .returned (.bool true) ∧ Below w.heap.size w w' := by
  have HK := Lib.hid hk
  have B0 := Lib.hid (Bel.refl w)
  clear hk
  have hl2 : decide (30 < L.length) = true := by simpa using hl
  go_enter Tryd.func4, Tryd.ntmps4
  go_wp2_with fail
  refine (known_ok _ HK.out).mono ?_
  rintro e w1 ⟨rfl, hb⟩
  have B1 := Lib.hid (B0.out.up hb)
  clear hb
  go_wp2_with fail
  refine (known_ok _ (HK.out.below B1.out)).mono ?_
  rintro e w2 ⟨rfl, hb⟩
  have B2 := Lib.hid (B1.out.up hb)
  clear hb
  go_wp2_with fail
  go_ret
  exact ⟨rfl, B2.out.out⟩
set_option maxRecDepth 100000 in
set_option maxHeartbeats 8000000 in
theorem reads_bad (f : Int) (L : List Pl) (ad : Option Addr) (cap : Nat) (w : World) (E : Int) (hl : L.length ≤ 30) (hE : (if Sg f then errPL 0 L else 2) = E) (h0 : E ≠ 0) (h : PlAt w ad L) (hk : KT w) :
    Calls Tryd.prog 4 #[.int .i64 f, .slice ad L.length cap] w fun e w' => e = .returned (.bool true) ∧ Below w.heap.size w w' := by
  have HK := Lib.hid hk
  have B0 := Lib.hid (Bel.refl w)
  clear hk
  have hl2 : decide (30 < L.length) = false := by simpa using hl
  obtain ⟨i0, hi, hz0, hz1, hz2⟩ := info_parts infoPl
  have KC := Lib.hid (fun wz (hz : PlAt wz ad L) => readR_ok f L ad cap wz hl hz)
  rw [hE] at KC
  have KD := Lib.hid (fun ad2 cap2 wz (hz : PlAt wz ad2 L) (hkk : KT wz) => Read_any f E L ad2 cap2 wz (by omega) hE h0 hz hkk)
  have H0 := Lib.hid h0
  have hE2 : (E != 0) = true := by simpa using h0
  have hE3 : (E == 0) = false := by simpa using h0
  have HA := Lib.hid h
  clear h hE h0
  go_enter Tryd.func4, Tryd.ntmps4
  go_wp2_with fail
  refine (known_ok _ HK.out).mono ?_
  rintro e w1 ⟨rfl, hb⟩
  have B1 := Lib.hid (B0.out.up hb)
  clear hb
  go_wp2_with fail
  have HA' := Lib.hid (show OP w w1 (.slice none 0 0) (L.take 0) from ⟨B1.out, World.ownsRow_nil _ _ _ _⟩)
  go_loopg [5, 6] L.length (fun gm out i wr => ∃ k : Nat, k ≤ L.length ∧ gm = L.length - k ∧ i = .int .i64 (k : Int) ∧ Hid (OP w wr out (L.take k)))
  case atStart => exact ⟨0, by omega, by omega, rfl, HA'⟩
  case round =>
    obtain ⟨k, hk, rfl, rfl, HS⟩ := hrel
    clear HA'
    by_cases hlt : k < L.length
    · obtain ⟨n, hn⟩ : ∃ n, L[k]? = some n := ⟨_, List.getElem?_eq_getElem hlt⟩
      obtain ⟨b, off, rfl, hc6⟩ := (HA.out.up HS.out.bel.out) k n hn
      have HT := Lib.hid (take_succ_pl hn)
      have hl2' := Lib.hid (show (L.take k).length ≤ 30 by rw [List.length_take]; omega)
      have hw : w.heap.size ≤ wr.heap.size := HS.out.bel.size
      clear hn
      rcases n with ⟨t, s, o, K, p, hd, v⟩
      obtain ⟨c0, c1, c2, c3, c4, c5, c6⟩ := hc6
      simp only at c0 c1 c2 c3 c4 c5 c6
      go_wp2_with fail
      refine Qt.region1 40 _ _ (by kernel_rfl) (by kernel_rfl) rfl (fun _ _ _ h => h) (.inl ⟨rfl, fun _ => rfl⟩) ?_
      intro TT ff F hne
      have RS := Lib.hid (fun g => HS.out.up (F.below g))
      have R0 := fun g => cell_up (F.below g) c0
      have R1 := fun g => cell_up (F.below g) c1
      have R2 := fun g => cell_up (F.below g) c2
      have R3 := fun g => cell_up (F.below g) c3
      have R4 := fun g => cell_up (F.below g) c4
      have R5 := fun g => cell_up (F.below g) c5
      have R6 := fun g => cell_up (F.below g) c6
      simp only [List.take_succ_cons, List.take_zero, List.drop_succ_cons, List.drop_zero]
      go_simp
      repeat (go_big_quiet_step (fail))
      refine wpQuiet_nil ?_
      intro g
      have HS2 := Lib.hid (RS.out g)
      clear RS R0 R1 R2 R3 R4 R5 R6 F hne HS c0 c1 c2 c3 c4 c5 c6
      generalize ff g = w2 at *
      clear ff
      have hw2 : w.heap.size ≤ w2.heap.size := HS2.out.bel.size
      go_wp2_with (first | (at_builtin; refine wpList_append_own _ rfl _ _ 38 rfl w.heap.size 45 i0 (.agg #[.int .i64 0, .int .i64 0, .int .i64 0, .int .i64 0, .bool false, .bool false, .int .i64 0]) 7 56 Tryd.underlying38 hi hz0 hz1 hz2 rfl (by decide) _ _ _ rfl (HS2.out.own.alloc _) ⟨w2.heap.size, 0, none⟩ 1 1 (plC ⟨t, s, o, K, p, hd, v⟩) rfl rfl (cellP_new _ _ _ _ rfl) (by simp [Value.oneCell', plC]) (by have := hl2'.out; unfold maxLen; omega) (by have := hl2'.out; omega) (by simp; omega) ?_; intro v' w9 hown' hgrow _))
      go_roundg (L.length - (k + 1))
      case measure => omega
      case rel =>
        refine ⟨k + 1, by omega, rfl, by go_num, Lib.hid ⟨Below.grown (HS2.out.bel.alloc _) hgrow (by simp; omega) (fun r hr => (HS2.out.own.lt r hr).1), ?_⟩⟩
        rw [HT.out, List.length_append, cellsP_snoc]
        exact hown'
    · obtain rfl : k = L.length := by omega
      have HF' := HS.out
      rw [List.take_length] at HF'
      obtain ⟨ad2, cap2, rfl, hA2⟩ := HF'.at
      have A2 := Lib.hid hA2
      have B2 := Lib.hid HF'.bel
      clear HS HF' hA2
      go_wp2_with fail
      refine (KD.out _ _ _ A2.out (HK.out.below B2.out)).mono ?_
      rintro e w3 ⟨rfl, hb⟩
      have B3 := Lib.hid (B2.out.up hb)
      clear hb
      go_wp2_with fail
      refine (KC.out _ (HA.out.up B3.out)).mono ?_
      rintro e w4 ⟨h1, _, hb⟩
      have h1' := h1 H0.out
      subst h1'
      have B4 := Lib.hid (B3.out.up hb)
      clear hb h1
      go_wp2_with fail
      try (go_loopg [11] 0 (fun gm i wr => gm = 0 ∧ i = .int .i64 0 ∧ Hid (Bel w wr)))
      case atStart => exact ⟨rfl, rfl, B4⟩
      case round =>
        obtain ⟨rfl, rfl, HB⟩ := hrel
        go_wp2_with fail
        go_ret
        exact ⟨by first | rfl | (simp; done), HB.out.out⟩
set_option maxRecDepth 100000 in
set_option maxHeartbeats 8000000 in
theorem reads_ok (f : Int) (L : List Pl) (ad : Option Addr) (cap : Nat) (w : World) (hl : L.length ≤ 30) (hf : Sg f) (hE : errPL 0 L = 0) (h : PlAt w ad L) (hk : KT w) :
    Calls Tryd.prog 4 #[.int .i64 f, .slice ad L.length cap] w fun e w' => e = .returned (.bool true) ∧ Below w.heap.size w w' := by
  have HK := Lib.hid hk
  have B0 := Lib.hid (Bel.refl w)
  clear hk
  have hl2 : decide (30 < L.length) = false := by simpa using hl
  obtain ⟨i0, hi, hz0, hz1, hz2⟩ := info_parts infoPl
  have KC := Lib.hid (fun wz (hz : PlAt wz ad L) => readR_ok f L ad cap wz hl hz)
  rw [if_pos hf, hE] at KC
  have KD := Lib.hid (fun ad2 cap2 wz (hz : PlAt wz ad2 L) (hkk : KT wz) => Read_ok f L ad2 cap2 wz hf (by omega) hE hz hkk)
  have HA := Lib.hid h
  clear h hE hf
  go_enter Tryd.func4, Tryd.ntmps4
  go_wp2_with fail
  refine (known_ok _ HK.out).mono ?_
  rintro e w1 ⟨rfl, hb⟩
  have B1 := Lib.hid (B0.out.up hb)
  clear hb
  go_wp2_with fail
  have HA' := Lib.hid (show OP w w1 (.slice none 0 0) (L.take 0) from ⟨B1.out, World.ownsRow_nil _ _ _ _⟩)
  go_loopg [5, 6] L.length (fun gm out i wr => ∃ k : Nat, k ≤ L.length ∧ gm = L.length - k ∧ i = .int .i64 (k : Int) ∧ Hid (OP w wr out (L.take k)))
  case atStart => exact ⟨0, by omega, by omega, rfl, HA'⟩
  case round =>
    obtain ⟨k, hk, rfl, rfl, HS⟩ := hrel
    clear HA'
    by_cases hlt : k < L.length
    · obtain ⟨n, hn⟩ : ∃ n, L[k]? = some n := ⟨_, List.getElem?_eq_getElem hlt⟩
      obtain ⟨b, off, rfl, hc6⟩ := (HA.out.up HS.out.bel.out) k n hn
      have HT := Lib.hid (take_succ_pl hn)
      have hl2' := Lib.hid (show (L.take k).length ≤ 30 by rw [List.length_take]; omega)
      have hw : w.heap.size ≤ wr.heap.size := HS.out.bel.size
      clear hn
      rcases n with ⟨t, s, o, K, p, hd, v⟩
      obtain ⟨c0, c1, c2, c3, c4, c5, c6⟩ := hc6
      simp only at c0 c1 c2 c3 c4 c5 c6
      go_wp2_with fail
      refine Qt.region1 40 _ _ (by kernel_rfl) (by kernel_rfl) rfl (fun _ _ _ h => h) (.inl ⟨rfl, fun _ => rfl⟩) ?_
      intro TT ff F hne
      have RS := Lib.hid (fun g => HS.out.up (F.below g))
      have R0 := fun g => cell_up (F.below g) c0
      have R1 := fun g => cell_up (F.below g) c1
      have R2 := fun g => cell_up (F.below g) c2
      have R3 := fun g => cell_up (F.below g) c3
      have R4 := fun g => cell_up (F.below g) c4
      have R5 := fun g => cell_up (F.below g) c5
      have R6 := fun g => cell_up (F.below g) c6
      simp only [List.take_succ_cons, List.take_zero, List.drop_succ_cons, List.drop_zero]
      go_simp
      repeat (go_big_quiet_step (fail))
      refine wpQuiet_nil ?_
      intro g
      have HS2 := Lib.hid (RS.out g)
      clear RS R0 R1 R2 R3 R4 R5 R6 F hne HS c0 c1 c2 c3 c4 c5 c6
      generalize ff g = w2 at *
      clear ff
      have hw2 : w.heap.size ≤ w2.heap.size := HS2.out.bel.size
      go_wp2_with (first | (at_builtin; refine wpList_append_own _ rfl _ _ 38 rfl w.heap.size 45 i0 (.agg #[.int .i64 0, .int .i64 0, .int .i64 0, .int .i64 0, .bool false, .bool false, .int .i64 0]) 7 56 Tryd.underlying38 hi hz0 hz1 hz2 rfl (by decide) _ _ _ rfl (HS2.out.own.alloc _) ⟨w2.heap.size, 0, none⟩ 1 1 (plC ⟨t, s, o, K, p, hd, v⟩) rfl rfl (cellP_new _ _ _ _ rfl) (by simp [Value.oneCell', plC]) (by have := hl2'.out; unfold maxLen; omega) (by have := hl2'.out; omega) (by simp; omega) ?_; intro v' w9 hown' hgrow _))
      go_roundg (L.length - (k + 1))
      case measure => omega
      case rel =>
        refine ⟨k + 1, by omega, rfl, by go_num, Lib.hid ⟨Below.grown (HS2.out.bel.alloc _) hgrow (by simp; omega) (fun r hr => (HS2.out.own.lt r hr).1), ?_⟩⟩
        rw [HT.out, List.length_append, cellsP_snoc]
        exact hown'
    · obtain rfl : k = L.length := by omega
      have HF' := HS.out
      rw [List.take_length] at HF'
      obtain ⟨ad2, cap2, rfl, hA2⟩ := HF'.at
      have A2 := Lib.hid hA2
      have B2 := Lib.hid HF'.bel
      clear HS HF' hA2
      go_wp2_with fail
      refine (KD.out _ _ _ A2.out (HK.out.below B2.out)).mono ?_
      rintro e w3 ⟨g, rfl, hr, hb⟩
      have B3 := Lib.hid (B2.out.up hb)
      have R3 := Lib.hid hr
      clear hb hr
      go_wp2_with fail
      refine (KC.out _ (HA.out.up B3.out)).mono ?_
      rintro e w4 ⟨_, h1, hb⟩
      obtain ⟨ad4, cap4, h1', hI⟩ := h1 rfl
      subst h1'
      have B4 := Lib.hid (B3.out.up hb)
      have R4 := Lib.hid (R3.out.up hb)
      have I4 := Lib.hid hI
      clear hb h1 hI
      go_wp2_with fail
      go_loopg [11] L.length (fun gm i wr => ∃ (j : Nat), j ≤ L.length ∧ gm = L.length - j ∧ i = .int .i64 (j : Int) ∧ Hid (Fil wr g L.length (rdA L f)) ∧ Hid (ItAt wr ad4 (rdL L f L.length)) ∧ Hid (Bel w wr))
      case atStart => exact ⟨0, by omega, by omega, rfl, R4, I4, B4⟩
      case round =>
        obtain ⟨j, hj, rfl, rfl, HR, HI, HB⟩ := hrel
        clear R4 I4 B4
        by_cases hjk : j < L.length
        · obtain ⟨m0, _⟩ := HR.out j hjk
          obtain ⟨b9, rfl, p0⟩ := HI.out j _ (rdL_at L f hjk)
          generalize rdA L f j = D at m0 p0
          go_wp2_with fail
          try (go_quiet (fail); go_wp2_with fail)
          go_roundg (L.length - (j + 1))
          case measure => omega
          case rel => exact ⟨j + 1, by omega, rfl, by go_num, by first | exact HR | exact Lib.hid (HR.out.up (below_drewN (Below.refl _ _) _)), by first | exact HI | exact Lib.hid (HI.out.up (below_drewN (Below.refl _ _) _)), by first | exact HB | exact Lib.hid (Bel.drewN HB.out _)⟩
        · obtain rfl : j = L.length := by omega
          go_wp2_with fail
          go_ret
          exact ⟨rfl, HB.out.out⟩
theorem law_AccidentalReads (f : Int) (L : List Pl) (ad : Option Addr) (cap : Nat) (w : World) (hc : L.length ≤ cap) (hm : cap ≤ maxLen) (h : PlAt w ad L) (hk : KT w) :
    Calls Tryd.prog 4 #[.int .i64 f, .slice ad L.length cap] w fun e w' => e = .returned (.bool true) ∧ Below w.heap.size w w' := by
  unfold maxLen at hm
  by_cases hl : 30 < L.length
  · exact reads_long f L ad cap w hl (by omega) hk
  · by_cases hE : (if Sg f then errPL 0 L else 2) = 0
    · by_cases hf : Sg f
      · rw [if_pos hf] at hE
        exact reads_ok f L ad cap w (by omega) hf hE h hk
      · rw [if_neg hf] at hE
        exact absurd hE (by omega)
    · exact reads_bad f L ad cap w _ (by omega) rfl hE h hk
end Go.Proofs.YthmdjpfjaojihaaDoor
