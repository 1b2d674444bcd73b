/- Accidentals: law Scale. -/
import Derived.Test.YthmdjpfjaojihaaDoorAs
import Derived.Laws.OwnMore
namespace Go.Proofs.YthmdjpfjaojihaaDoor
open Go.RowKit
set_option linter.unusedVariables false
set_option linter.unusedSimpArgs false

theorem run_app0 {P : Program} {w : World} (t ty e : TypeId) (i : TypeInfo) (ht : P.underlying t = some (.slice e)) (hi : P.info? e = some i) (g c : Nat) :
    (Builtin.append_ #[t, t] ty #[.slice (some ⟨g, 0, none⟩) 0 0, .slice none 0 c]).run P w = .ok (.slice (some ⟨g, 0, none⟩) 0 0) w := by
  simp [Builtin.append_, run_underlying ht, sizeOf, typeInfo, hi, Builtin.lenOf, Builtin.firstCells, storeCells]
theorem wpList_app0 {P : Program} {w : World} {ops : Array Oper} {rest : List Oper} {o : Oper} {a : Act} {Q : Exit → Act → World → Prop} (hgd : o.guard = none) (s x : Operand) (t : TypeId)
    (ho : o.op = .call { callee := .builtin .append, args := #[s, x], argTypes := #[t, t] }) (e : TypeId) (i : TypeInfo) (ht : P.underlying t = some (.slice e)) (hi : P.info? e = some i) (g c : Nat)
    (hs : a.eval s = .slice (some ⟨g, 0, none⟩) 0 0) (hx : a.eval x = .slice none 0 c) (h : wpList P ops Q rest (a.put o.dst (.slice (some ⟨g, 0, none⟩) 0 0)) w) : wpList P ops Q (o :: rest) a w := by
  refine wpList_plain hgd fun K hK => ?_
  have hrun := run_app0 (P := P) (w := w) t o.type e i ht hi g c
  unfold Oper.wp
  simp [execOp, ho, resolve, invoke, builtin, hs, hx, hrun, Result.andThen]
  exact hK _ _ h
theorem infoRN : (Tryd.prog.info? 54).map (fun i => (i.zero, i.size, i.bytes)) = some (some (.agg #[.int .i64 0, .int .i64 0, .int .i64 0, .int .i64 0, .bool false, .int .i64 0]), 6, 48) := by kernel_rfl
theorem cellsN_len (L : List Nt) : (cellsN L).length = L.length * 6 := by
  induction L with
  | nil => rfl
  | cons n L ih =>
    rw [show cellsN (n :: L) = ntC n ++ cellsN L from rfl, List.length_append, ih]
    simp [ntC]
    omega
theorem cellsN_one (L : List Nt) : ∀ u ∈ cellsN L, u.oneCell' = true := by
  intro u hu
  unfold cellsN at hu
  rw [List.mem_flatMap] at hu
  obtain ⟨n, _, hu⟩ := hu
  simp [ntC] at hu
  rcases hu with rfl | rfl | rfl | rfl | rfl | rfl <;> rfl
theorem NtAt.cells {w : World} {a : Addr} {L : List Nt} (h : NtAt w (some a) L) : ∀ (j : Nat) (u : Value), (cellsN L)[j]? = some u → w.cell? (a.add j) = some u := by
  intro j u hj
  have hlt : j < L.length * 6 := by rw [← cellsN_len]; exact (List.getElem?_eq_some_iff.1 hj).1
  obtain ⟨n, hn⟩ : ∃ n, L[j / 6]? = some n := ⟨_, List.getElem?_eq_getElem (by omega)⟩
  obtain ⟨b, off, e, c0, c1, c2, c3, c4, c5⟩ := h _ n hn
  cases e
  obtain ⟨x0, x1, x2, x3, x4, x5⟩ := cellsN_at L _ n hn
  simp only [Addr.add]
  obtain ⟨q, hq⟩ : ∃ q, j / 6 = q := ⟨_, rfl⟩
  rw [hq] at c0 c1 c2 c3 c4 c5 x0 x1 x2 x3 x4 x5
  rcases (show j = q * 6 ∨ j = q * 6 + 1 ∨ j = q * 6 + 2 ∨ j = q * 6 + 3 ∨ j = q * 6 + 4 ∨ j = q * 6 + 5 by omega) with r | r | r | r | r | r <;> subst r
  · rw [x0] at hj
    cases hj
    by_cases z : q * 6 = 0
    · rw [if_pos z]
      rw [z] at c0
      exact c0
    · rw [if_neg z]
      exact c0
  · rw [x1] at hj; cases hj; exact c1
  · rw [x2] at hj; cases hj; exact c2
  · rw [x3] at hj; cases hj; exact c3
  · rw [x4] at hj; cases hj; exact c4
  · rw [x5] at hj; cases hj; exact c5
set_option maxRecDepth 100000 in
set_option maxHeartbeats 8000000 in
theorem scale_long (f : Int) (L : List Nt) (ad : Option Addr) (cap : Nat) (w : World) (hl : 30 < L.length) (hm : L.length ≤ 9223372036854775807) (hk : KT w) :
    Calls Tryd.prog 7 #[.int .i64 f, .slice ad L.length cap] w fun e w' => e = .returned (.bool true) ∧ Below w.heap.size w w' := by
  have HK := Lib.hid hk
  have B0 := Lib.hid (Bel.refl w)
  clear hk
  have hl2 : decide (30 < L.length) = true := by simpa using hl
  go_enter Tryd.func7, Tryd.ntmps7
  go_wp2_with fail
  refine (known_ok _ HK.out).mono ?_
  rintro e w1 ⟨rfl, hb⟩
  have B1 := Lib.hid (B0.out.up hb)
  clear hb
  go_wp2_with fail
  refine (known_ok _ (HK.out.below B1.out)).mono ?_
  rintro e w2 ⟨rfl, hb⟩
  have B2 := Lib.hid (B1.out.up hb)
  clear hb
  go_wp2_with fail
  go_ret
  exact ⟨rfl, B2.out.out⟩
set_option maxRecDepth 100000 in
set_option maxHeartbeats 8000000 in
theorem scale_bad (f : Int) (L : List Nt) (ad : Option Addr) (cap : Nat) (w : World) (hl : L.length ≤ 30) (hE : (if Sg f then errL 0 L else 2) ≠ 0) (h : NtAt w ad L) (hk : KT w) :
    Calls Tryd.prog 7 #[.int .i64 f, .slice ad L.length cap] w fun e w' => e = .returned (.bool true) ∧ Below w.heap.size w w' := by
  have HK := Lib.hid hk
  have B0 := Lib.hid (Bel.refl w)
  clear hk
  have hl2 : decide (30 < L.length) = false := by simpa using hl
  have KC := Lib.hid (fun wz (hz : NtAt wz ad L) => checkR_ok f L ad cap wz hl hz)
  generalize (if Sg f then errL 0 L else 2) = E at *
  have hE2 : (E != 0) = true := by simpa using hE
  have hE3 : (E == 0) = false := by simpa using hE
  have HA := Lib.hid h
  clear h hE
  go_enter Tryd.func7, Tryd.ntmps7
  go_wp2_with fail
  refine (known_ok _ HK.out).mono ?_
  rintro e w1 ⟨rfl, hb⟩
  have B1 := Lib.hid (B0.out.up hb)
  clear hb
  go_wp2_with fail
  refine (KC.out _ (HA.out.up B1.out)).mono ?_
  rintro e w2 ⟨rfl, hb⟩
  have B2 := Lib.hid (B1.out.up hb)
  clear hb
  go_wp2_with fail
  refine (known_ok _ (HK.out.below B2.out)).mono ?_
  rintro e w3 ⟨rfl, hb⟩
  have B3 := Lib.hid (B2.out.up hb)
  clear hb
  go_wp2_with fail
  go_ret
  exact ⟨rfl, B3.out.out⟩
set_option maxRecDepth 100000 in
set_option maxHeartbeats 8000000 in
theorem scale_ok (f : Int) (L : List Nt) (ad : Option Addr) (cap : Nat) (w : World) (adr : Addr) (had : ad = some adr) (hl : L.length ≤ 30) (hf : Sg f) (hE : errL 0 L = 0) (h : NtAt w ad L) (hk : KT w) :
    Calls Tryd.prog 7 #[.int .i64 f, .slice ad L.length cap] w fun e w' => e = .returned (.bool true) ∧ Below w.heap.size w w' := by
  have HK := Lib.hid hk
  have B0 := Lib.hid (Bel.refl w)
  clear hk
  have hl2 : decide (30 < L.length) = false := by simpa using hl
  have KC := Lib.hid (fun wz (hz : NtAt wz ad L) => checkR_ok f L ad cap wz hl hz)
  rw [if_pos hf, hE] at KC
  have HG := Lib.hid (errL_good L 0 hE).2
  have HE := Lib.hid hE
  have HF := Lib.hid hf
  have HA := Lib.hid h
  have HME := Lib.hid (modN_err (f := f) L 0 hE)
  have HMD := Lib.hid (fun j => mod_disM (f := f) (L := L) (fun n hn => ((errL_good L 0 hE).2.each n hn).1) j)
  have HML := Lib.hid (show (L.map (modN f)).length = L.length from List.length_map _)
  have KO := fun ad2 cap2 wz (hz : NtAt wz ad2 (L.map (modN f))) => own_ok (L.map (modN f)) ad2 cap2 wz (by rw [HML.out]; exact hl) hz
  have KD := fun ad3 cap3 wz (hz : NtAt wz ad3 (L.map (modN f))) (hkk : KT wz) => Display_ok f (L.map (modN f)) ad3 cap3 wz hf (by rw [HML.out]; omega) HME.out hz hkk
  rw [HML.out] at KO KD
  have KO := Lib.hid KO
  have KD := Lib.hid KD
  obtain ⟨i0, hi, hz0, hz1, hz2⟩ := info_parts infoRN
  clear h hE hf
  subst had
  go_enter Tryd.func7, Tryd.ntmps7
  go_wp2_with fail
  refine (known_ok _ HK.out).mono ?_
  rintro e w1 ⟨rfl, hb⟩
  have B1 := Lib.hid (B0.out.up hb)
  clear hb
  go_wp2_with fail
  refine (KC.out _ (HA.out.up B1.out)).mono ?_
  rintro e w2 ⟨rfl, hb⟩
  have B2 := Lib.hid (B1.out.up hb)
  have hsz := B2.out.size
  have HAC := HA.out.up (B2.out.alloc (.cells #[] 54)).out
  have HAC := Lib.hid (NtAt.cells HAC)
  have HO := Lib.hid (show (w2.alloc (.cells #[] 54)).ownsRow w.heap.size 54 6 (.slice (some ⟨w2.heap.size, 0, none⟩) 0 0) 0 [] from ⟨rfl, .inr ⟨w2.heap.size, 0, #[], rfl, hsz, by show (w2.heap.push _)[w2.heap.size]? = _; simp, by omega, by simp, rfl, rfl⟩⟩)
  clear hb
  go_wp2_with (first | (at_builtin; refine wpList_append_own _ rfl _ _ 22 rfl w.heap.size 54 i0 (.agg #[.int .i64 0, .int .i64 0, .int .i64 0, .int .i64 0, .bool false, .int .i64 0]) 6 48 Tryd.underlying22 hi hz0 hz1 hz2 rfl (by decide) _ _ _ rfl HO.out adr L.length cap (cellsN L) rfl (cellsN_len L) (HAC.out) (cellsN_one L) (by unfold maxLen; omega) (by omega) (by simp; omega) ?_; intro v3 w3 hown3 hgrow3 _; clear HAC))
  simp only [Nat.zero_add, List.nil_append] at hown3
  obtain ⟨ad3, cap3, rfl, hrow⟩ := rowN_own hown3
  have B3 := Lib.hid (Below.grown (B2.out.alloc _) hgrow3 (by simp; omega) (fun r hr => (HO.out.lt r hr).1))
  have R3 := Lib.hid (show L ≠ [] → ∃ g, ad3 = some ⟨g, 0, none⟩ ∧ w.heap.size ≤ g ∧ RowN w3 g (LM f L 0) by rw [LM_zero]; exact hrow)
  clear hown3 hgrow3 hrow HO
  go_loopg [6] L.length (fun gm i wr => ∃ k : Nat, k ≤ L.length ∧ gm = L.length - k ∧ i = .int .i64 (k : Int) ∧ Hid (L ≠ [] → ∃ g, ad3 = some ⟨g, 0, none⟩ ∧ w.heap.size ≤ g ∧ RowN wr g (LM f L k)) ∧ Hid (Bel w wr))
  case atStart => exact ⟨0, by omega, by omega, rfl, R3, B3⟩
  case round =>
    obtain ⟨k, hk, rfl, rfl, HR, HB⟩ := hrel
    clear R3 B3
    by_cases hlt : k < L.length
    · obtain ⟨g, rfl, hg, hR⟩ := HR.out (by rintro rfl; simp at hlt)
      obtain ⟨n, hn⟩ : ∃ n, L[k]? = some n := ⟨_, List.getElem?_eq_getElem hlt⟩
      obtain ⟨hp, _⟩ := HG.out.each n (List.mem_of_getElem? hn)
      have hc6 := hR k _ (LM_at (k := k) hn)
      rw [if_neg (by omega)] at hc6
      obtain ⟨c0, c1, c2, c3, c4, c5⟩ := hc6.1
      have HN := Lib.hid hn
      have HR1 := Lib.hid hR
      have s0 := hp.s0
      have s1 := hp.s1
      clear hn hR hc6 HR hp
      rcases n with ⟨t, s, a, o, hh, v⟩
      simp only at c0 c1 c2 c3 c4 c5 s0 s1
      go_wp2_with fail
      refine (keyR_ok f s _ HF.out s0 s1).mono ?_
      rintro e w4 ⟨rfl, hb⟩
      have HR2 := Lib.hid (HR1.out.up hb)
      have B4 := Lib.hid (HB.out.up hb)
      clear hb HR1 HB c0 c1 c2 c3 c4 c5
      have hc6 := HR2.out k _ (LM_at (k := k) HN.out)
      rw [if_neg (by omega)] at hc6
      obtain ⟨⟨c0, c1, c2, c3, c4, c5⟩, d1, d2⟩ := hc6
      simp only at c0 c1 c2 c3 c4 c5
      have R5 := Lib.hid (HR2.out.next HN.out)
      have B5 := Lib.hid ((B4.out.set (b := g) hg (k * 6 + 2) (.int .i64 (alI f s))).set (b := g) hg (k * 6 + 5) (.int .i64 0))
      simp only at R5
      go_wp2_with fail
      go_roundg (L.length - (k + 1))
      case measure => omega
      case rel => exact ⟨k + 1, by omega, rfl, by go_num, Lib.hid (fun _ => ⟨g, rfl, hg, R5.out⟩), B5⟩
    · obtain rfl : k = L.length := by omega
      have HNT := Lib.hid (show NtAt _ ad3 (L.map (modN f)) from fun j n hn => by
        have hne : L ≠ [] := by rintro rfl; simp at hn
        obtain ⟨g, e, _, hR⟩ := HR.out hne
        rw [LM_full] at hR
        exact ⟨g, 0, e, by have := (hR j n hn).1; rwa [Nat.zero_add]⟩)
      clear HR
      go_wp2_with fail
      refine (KO.out _ _ _ (HNT.out)).mono ?_
      rintro e w6 ⟨v6, rfl, hO⟩
      obtain ⟨ad6, cap6, hv6, hA6⟩ := hO.at
      rw [HML.out] at hv6
      subst hv6
      have A6 := Lib.hid hA6
      have B6 := Lib.hid (HB.out.up hO.bel)
      clear hO hA6 HB
      go_wp2_with fail
      refine (KD.out _ _ _ A6.out (HK.out.below B6.out)).mono ?_
      rintro e w7 ⟨g7, rfl, hm, hb⟩
      have B7 := Lib.hid (B6.out.up hb)
      have M7 := Lib.hid hm
      clear hm hb A6 B6
      go_wp2_with fail
      go_loopg [9] L.length (fun gm i wr => ∃ (j : Nat), j ≤ L.length ∧ gm = L.length - j ∧ i = .int .i64 (j : Int) ∧ Hid (FilM wr g7 L.length (disM (L.map (modN f)) f)) ∧ Hid (Bel w wr))
      case atStart => exact ⟨0, by omega, by omega, rfl, M7, B7⟩
      case round =>
        obtain ⟨j, hj, rfl, rfl, HM, HB⟩ := hrel
        clear M7 B7
        by_cases hjk : j < L.length
        · obtain ⟨⟨m0, m1⟩, _, _⟩ := HM.out j hjk
          rw [HMD.out j] at m0 m1
          simp only at m0 m1
          go_wp2_with fail
          try (go_quiet (fail); go_wp2_with fail)
          go_roundg (L.length - (j + 1))
          case measure => omega
          case rel => exact ⟨j + 1, by omega, rfl, by go_num, by first | exact HM | exact Lib.hid (HM.out.up (below_drewN (Below.refl _ _) _)), by first | exact HB | exact Lib.hid (Bel.drewN HB.out _)⟩
        · obtain rfl : j = L.length := by omega
          go_wp2_with fail
          go_ret
          exact ⟨by first | rfl | (simp; done), HB.out.out⟩
set_option maxRecDepth 100000 in
set_option maxHeartbeats 8000000 in
theorem scale_nil (f : Int) (L : List Nt) (ad : Option Addr) (cap : Nat) (w : World) (had : ad = none) (hL : L = []) (hl : L.length ≤ 30) (hf : Sg f) (hE : errL 0 L = 0) (h : NtAt w ad L) (hk : KT w) :
    Calls Tryd.prog 7 #[.int .i64 f, .slice ad L.length cap] w fun e w' => e = .returned (.bool true) ∧ Below w.heap.size w w' := by
  have HK := Lib.hid hk
  have B0 := Lib.hid (Bel.refl w)
  clear hk
  have hl2 : decide (30 < L.length) = false := by simpa using hl
  have KC := Lib.hid (fun wz (hz : NtAt wz ad L) => checkR_ok f L ad cap wz hl hz)
  rw [if_pos hf, hE] at KC
  have HG := Lib.hid (errL_good L 0 hE).2
  have HE := Lib.hid hE
  have HF := Lib.hid hf
  have HA := Lib.hid h
  have HME := Lib.hid (modN_err (f := f) L 0 hE)
  have HMD := Lib.hid (fun j => mod_disM (f := f) (L := L) (fun n hn => ((errL_good L 0 hE).2.each n hn).1) j)
  have HML := Lib.hid (show (L.map (modN f)).length = L.length from List.length_map _)
  have KO := fun ad2 cap2 wz (hz : NtAt wz ad2 (L.map (modN f))) => own_ok (L.map (modN f)) ad2 cap2 wz (by rw [HML.out]; exact hl) hz
  have KD := fun ad3 cap3 wz (hz : NtAt wz ad3 (L.map (modN f))) (hkk : KT wz) => Display_ok f (L.map (modN f)) ad3 cap3 wz hf (by rw [HML.out]; omega) HME.out hz hkk
  rw [HML.out] at KO KD
  have KO := Lib.hid KO
  have KD := Lib.hid KD
  obtain ⟨i0, hi, hz0, hz1, hz2⟩ := info_parts infoRN
  clear h hE hf
  subst had
  have hlen : L.length = 0 := by rw [hL]; rfl
  have HN0 := Lib.hid (show ∀ wz ad2, NtAt wz ad2 (L.map (modN f)) from fun wz ad2 k n hn => by subst hL; simp at hn)
  clear hL
  generalize L.map (modN f) = T at *
  generalize L.length = len at *
  subst hlen
  go_enter Tryd.func7, Tryd.ntmps7
  go_wp2_with fail
  refine (known_ok _ HK.out).mono ?_
  rintro e w1 ⟨rfl, hb⟩
  have B1 := Lib.hid (B0.out.up hb)
  clear hb
  go_wp2_with fail
  refine (KC.out _ (HA.out.up B1.out)).mono ?_
  rintro e w2 ⟨rfl, hb⟩
  have B2 := Lib.hid (B1.out.up hb)
  have B3 := Lib.hid (B2.out.alloc (.cells #[] 54))
  clear hb
  go_wp2_with (first | (at_builtin; refine wpList_app0 rfl _ _ 22 rfl 54 i0 Tryd.underlying22 hi _ _ rfl rfl ?_))
  go_loopg [6] 0 (fun gm i wr => gm = 0 ∧ i = .int .i64 0 ∧ Hid (Bel w wr))
  case atStart => exact ⟨rfl, rfl, B3⟩
  case round =>
    obtain ⟨rfl, rfl, HB⟩ := hrel
    go_wp2_with fail
    refine (KO.out _ _ _ (HN0.out _ _)).mono ?_
    rintro e w6 ⟨v6, rfl, hO⟩
    obtain ⟨ad6, cap6, hv6, hA6⟩ := hO.at
    rw [HML.out] at hv6
    subst hv6
    have A6 := Lib.hid hA6
    have B6 := Lib.hid (HB.out.up hO.bel)
    clear hO hA6 HB
    go_wp2_with fail
    refine (KD.out _ _ _ A6.out (HK.out.below B6.out)).mono ?_
    rintro e w7 ⟨g7, rfl, hm, hb⟩
    have B7 := Lib.hid (B6.out.up hb)
    have M7 := Lib.hid hm
    clear hm hb A6 B6
    go_wp2_with fail
    go_loopg [9] 0 (fun gm i wr => ∃ (j : Nat), j ≤ 0 ∧ gm = 0 - j ∧ i = .int .i64 (j : Int) ∧ Hid (FilM wr g7 0 (disM T f)) ∧ Hid (Bel w wr))
    case atStart => exact ⟨0, by omega, by omega, rfl, M7, B7⟩
    case round =>
      obtain ⟨j, hj, rfl, rfl, HM, HB⟩ := hrel
      clear M7 B7
      by_cases hjk : j < 0
      · exact absurd hjk (by omega)
      · obtain rfl : j = 0 := by omega
        go_wp2_with fail
        go_ret
        exact ⟨by first | rfl | (simp; done), HB.out.out⟩
theorem law_AccidentalScale (f : Int) (L : List Nt) (ad : Option Addr) (cap : Nat) (w : World) (hc : L.length ≤ cap) (hm : cap ≤ maxLen) (h : NtAt w ad L) (hk : KT w) :
    Calls Tryd.prog 7 #[.int .i64 f, .slice ad L.length cap] w fun e w' => e = .returned (.bool true) ∧ Below w.heap.size w w' := by
  unfold maxLen at hm
  by_cases hl : 30 < L.length
  · exact scale_long f L ad cap w hl (by omega) hk
  · by_cases hE : (if Sg f then errL 0 L else 2) = 0
    · by_cases hf : Sg f
      · rw [if_pos hf] at hE
        cases ad with
        | none =>
          have hL : L = [] := by
            cases L with
            | nil => rfl
            | cons n L =>
              obtain ⟨b, off, e, _⟩ := h 0 n rfl
              cases e
          exact scale_nil f L none cap w rfl hL (by omega) hf hE h hk
        | some a => exact scale_ok f L (some a) cap w a rfl (by omega) hf hE h hk
      · rw [if_neg hf] at hE
        exact absurd hE (by omega)
    · exact scale_bad f L ad cap w (by omega) hE h hk
end Go.Proofs.YthmdjpfjaojihaaDoor
