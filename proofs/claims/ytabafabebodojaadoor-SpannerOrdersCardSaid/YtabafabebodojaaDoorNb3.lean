/- Spans: law Orders. -/
import Derived.Test.YtabafabebodojaaDoorSq
import Derived.Test.YtabafabebodojaaDoorNb1
namespace Go.Proofs.YtabafabebodojaaDoor
open Go Go.RowKit
set_option linter.unusedVariables false
set_option linter.unusedSimpArgs false

/-- the list that is put into another order: nil if it is empty -/
def SpX (w0 w : World) (ad : Option Addr) (n : Nat) (f : Nat → Sp) : Prop := n = 0 ∨ ∃ g, ad = some ⟨g, 0, none⟩ ∧ w0.heap.size ≤ g ∧ g < w.heap.size ∧ SpW w g n f
theorem SpX.sp {w0 w : World} {ad : Option Addr} {n : Nat} {f : Nat → Sp} (h : SpX w0 w ad n f) : SpAt w ad n f := by
  rcases h with h | ⟨g, rfl, _, _, h⟩
  · exact fun k hk => by omega
  · exact h.sp
theorem SpX.up {w0 w w' : World} {ad : Option Addr} {n : Nat} {f : Nat → Sp} (h : SpX w0 w ad n f) (hb : Below w.heap.size w w') : SpX w0 w' ad n f := by
  rcases h with h | ⟨g, e, h1, h2, h⟩
  · exact .inl h
  · exact .inr ⟨g, e, h1, Nat.lt_of_lt_of_le h2 hb.size, h.up hb h2⟩
theorem SpX.of_row {w0 w : World} {v : Value} {n : Nat} {f : Nat → Sp} (h : w.ownsRow w0.heap.size 31 9 v n (spsL f n)) : ∃ ad cap, v = .slice ad n cap ∧ SpX w0 w ad n f := by
  rcases Nat.eq_zero_or_pos n with h0 | h0
  · obtain ⟨ad, cap, e, _⟩ := SpAt.of_sps h
    exact ⟨ad, cap, e, .inl h0⟩
  · obtain ⟨g, cap, e, h1, h2, h3⟩ := SpW.of_row h h0
    exact ⟨_, cap, e, .inr ⟨g, rfl, h1, h2, h3⟩⟩
theorem size_sets (b : Nat) : ∀ (vs : List Value) (o : Nat) (w : World), (w.setCells b o vs).heap.size = w.heap.size
  | [], _, _ => rfl
  | v :: vs, o, w => by rw [World.setCells, size_sets b vs]; simp
theorem below_sets {B b : Nat} {a : World} (hb : B ≤ b) : ∀ (vs : List Value) (o : Nat) (w : World), Below B a w → Below B a (w.setCells b o vs)
  | [], _, _, h => h
  | v :: vs, o, w, h => below_sets hb vs (o + 1) _ (h.setCell (p := ⟨b, o, none⟩) hb v)
theorem wpList_at {P : Program} {ops : Array Oper} {Q : Exit → Act → World → Prop} {rest : List Oper} {a : Act} {W W' : World} (e : W = W') (h : wpList P ops Q rest a W') : wpList P ops Q rest a W := e ▸ h
theorem swapped {w W0 : World} {g n i q : Nat} {f1 : Nat → Sp} (hin : i < n) (hqn : q < n) (HW : Hid (SpW W0.drew g n f1)) (hgb : w.heap.size ≤ g) (hgl : g < W0.heap.size) (B0 : Hid (Bel w W0)) :
    ∃ W9, (W0.drew.setCells g (i * 9) (spc (f1 q))).setCells g (q * 9) (spc (f1 i)) = W9 ∧ Hid (Bel w W9) ∧ Hid (SpX w W9 (some ⟨g, 0, none⟩) n (swp f1 i q)) := by
  have h1 := below_sets hgb (spc (f1 q)) (i * 9) _ (below_drew (B0.out.out))
  have h2 := below_sets hgb (spc (f1 i)) (q * 9) _ h1
  refine ⟨_, rfl, Lib.hid h2, Lib.hid (.inr ⟨g, rfl, hgb, ?_, HW.out.swap hin hqn⟩)⟩
  rw [size_sets, size_sets]
  exact hgl
theorem infoS1 : (Tryd.prog.info? 31).map (·.size) = some 9 := by kernel_rfl
theorem one9 (s : Sp) : (spc s).toArray.all (·.oneCell') = true := by simp [Value.oneCell', spc]
set_option maxRecDepth 100000 in
set_option maxHeartbeats 2000000 in
theorem orders_many (f : Nat → Sp) (n cap : Nat) (ad : Option Addr) (z : Nat → Int) (nu cu : Nat) (au : Option Addr) (w : World) (hk : KT w) (h : 12 < n) :
    Calls Tryd.prog 6 #[.slice ad n cap, .slice au nu cu] w fun e w' => e = .returned (.bool true) ∧ Below w.heap.size w w' := by
  have g0 : decide ((12 : Int) < (n : Int)) = true := decide_eq_true (by omega)
  have g1 : decide (12 < n) = true := decide_eq_true (by omega)
  have B0 := Lib.hid (Bel.refl w)
  have K0 := Lib.hid hk
  go_enter Tryd.func6, Tryd.ntmps6
  go_wp2_with fail
  refine (known_ok _ K0.out).mono ?_
  rintro e w1 ⟨rfl, hb⟩
  have B1 := Lib.hid (B0.out.up hb)
  have K1 := Lib.hid (K0.out.below hb)
  clear hb B0 K0 
  go_wp2_with fail
  refine (known_ok _ K1.out).mono ?_
  rintro e w2 ⟨rfl, hb⟩
  have B2 := Lib.hid (B1.out.up hb)
  have K2 := Lib.hid (K1.out.below hb)
  clear hb B1 K1 
  go_wp2_with fail
  go_ret
  exact ⟨rfl, B2.out.out⟩
set_option maxRecDepth 100000 in
set_option maxHeartbeats 40000000 in
theorem orders_few (f : Nat → Sp) (n cap : Nat) (ad : Option Addr) (z : Nat → Int) (nu cu : Nat) (au : Option Addr) (r1 r2 : Int) (w : World) (hk : KT w) (hn : n ≤ 12) (h : SpAt w ad n f) (hu : U8At w au nu z) (hr : fst f n 0 = (r1, r2)) (hnu : nu ≤ 9223372036854775807) :
    Calls Tryd.prog 6 #[.slice ad n cap, .slice au nu cu] w fun e w' => e = .returned (.bool true) ∧ Below w.heap.size w w' := by
  have g0 : decide ((12 : Int) < (n : Int)) = false := decide_eq_false (by omega)
  have g1 : decide (12 < n) = false := decide_eq_false (by omega)
  have HX := Lib.hid hr
  have HS := Lib.hid h
  have HU := Lib.hid hu
  have HK := Lib.hid hk
  clear hr h hu hk
  go_enter Tryd.func6, Tryd.ntmps6
  go_wp2_with fail
  refine (known_ok _ HK.out).mono ?_
  rintro e w1 ⟨rfl, hb⟩
  have B1 := Lib.hid (Bel.up (Bel.refl w) hb)
  clear hb
  go_wp2_with fail
  refine (list_ok n cap ad f _ (by omega) (HS.out.up B1.out.out)).mono ?_
  rintro e w2 ⟨v, rfl, hb, ho⟩
  obtain ⟨ad2, cap2, rfl, hx⟩ := SpX.of_row (w0 := w1) ho
  have hx' : SpX w w2 ad2 n f := hx.imp id (fun ⟨g, e, h1, h2⟩ => ⟨g, e, Nat.le_trans B1.out.size h1, h2⟩)
  have B2 := Lib.hid (B1.out.up hb)
  have X2 := Lib.hid hx'
  clear hb ho hx hx' B1
  go_wp2_with fail
  go_loopg [6] n (fun gm v wr => ∃ (i : Nat) (f1 : Nat → Sp), i ≤ n ∧ gm = n - i ∧ v = .int .i64 (i : Int) ∧ Hid (OKs f1 n ↔ OKs f n) ∧ Hid (Bel w wr) ∧ Hid (SpX w wr ad2 n f1))
  case atStart => exact ⟨0, f, by omega, by omega, rfl, Lib.hid Iff.rfl, B2, X2⟩
  case round =>
    clear B2 X2
    obtain ⟨i, f1, hi, rfl, rfl, HO, HB, HXX⟩ := hrel
    obtain ⟨W0, hW0, B0, X0⟩ : ∃ W0, W0 = _ ∧ Hid (Bel w W0) ∧ Hid (SpX w W0 ad2 n f1) := ⟨_, rfl, HB, HXX⟩
    subst hW0
    clear HB HXX
    by_cases hgo : i < n ∧ i < nu
    · obtain ⟨hin, hinu⟩ := hgo
      have hd1 : decide ((i : Int) < (n : Int)) = true := decide_eq_true (by omega)
      have hd2 : decide ((i : Int) < (nu : Int)) = true := decide_eq_true (by omega)
      rcases X0.out with h0 | ⟨g, hg, hgb, hgl, hW⟩
      · omega
      subst hg
      obtain ⟨b, off, rfl, hz, z0, z1⟩ := HU.out.up B0.out.out i hinu
      obtain ⟨q, hq⟩ : ∃ q : Nat, (z i) % (n : Int) = (q : Int) := ⟨((z i) % (n : Int)).toNat, by
        have := Int.emod_nonneg (z i) (show (n : Int) ≠ 0 by omega)
        omega⟩
      have hqn : q < n := by have := Int.emod_lt_of_pos (z i) (show (0 : Int) < (n : Int) by omega); omega
      have HW := Lib.hid (hW.up (w' := W0.drew) (below_drew (Below.refl _ _)) hgl)
      clear X0 hW
      have hn1 : (1 : Int) ≤ (n : Int) := by omega
      have hne : ((n : Int) == 0) = false := by simp; omega
      have hne' : ((n : Int) != 0) = true := by simp; omega
      go_wp2_with fail
      refine wp_region_any (by kernel_rfl) ?_
      change wpAny _ .any _ _ 16 _ _ W0.drew
      refine wpAny_take (i := 0) rfl (by kernel_rfl) (by kernel_rfl) (by kernel_rfl) (fun _ _ _ h => h) (.inl ⟨rfl, fun _ => rfl⟩) ?_
      refine wpAny_take (i := 1) rfl (by kernel_rfl) (by kernel_rfl) (by kernel_rfl) (fun _ _ _ h => h) (.inl ⟨rfl, fun _ => rfl⟩) ?_
      refine wpAny_take (i := 2) rfl (by kernel_rfl) (by kernel_rfl) (by kernel_rfl) (fun _ _ _ h => h) (.inl ⟨rfl, fun _ => rfl⟩) ?_
      refine wpAny_take (i := 3) rfl (by kernel_rfl) (by kernel_rfl) (by kernel_rfl) (fun _ _ _ h => h) (.inl ⟨rfl, fun _ => rfl⟩) ?_
      refine wpAny_take (i := 4) rfl (by kernel_rfl) (by kernel_rfl) (by kernel_rfl) (fun _ _ _ h => h) (.inl ⟨rfl, fun _ => rfl⟩) ?_
      refine wpAny_take (i := 5) rfl (by kernel_rfl) (by kernel_rfl) (by kernel_rfl) (fun _ _ _ h => h) (.inl ⟨rfl, fun _ => rfl⟩) ?_
      refine wpAny_take (i := 6) (v := .pointer (some ⟨g, q * 9, none⟩)) rfl (by kernel_rfl) (by kernel_rfl) (by kernel_rfl) (fun _ _ _ h => h) (.inl ⟨by rfl, fun _ => by go_simp⟩) ?_
      refine wpAny_take (i := 8) rfl (by kernel_rfl) (by kernel_rfl) (by kernel_rfl) (fun _ _ _ h => h) (.inl ⟨rfl, fun _ => rfl⟩) ?_
      refine wpAny_take (i := 9) rfl (by kernel_rfl) (by kernel_rfl) (by kernel_rfl) (fun _ _ _ h => h) (.inl ⟨rfl, fun _ => rfl⟩) ?_
      refine wpAny_take (i := 10) (v := .pointer (some ⟨g, i * 9, none⟩)) rfl (by kernel_rfl) (by kernel_rfl) (by kernel_rfl) (fun _ _ _ h => h) (.inl ⟨by rfl, fun _ => by go_simp⟩) ?_
      refine Qt.six 7 11 12 13 14 15 (by decide) (by decide) (by decide) (by decide) (by decide) (by decide) (by kernel_rfl) (by kernel_rfl) (by kernel_rfl) ?_
      intro oi oj ok om ok2 om2 e1 e2 e3 e4 e5 e6
      obtain rfl := Option.some.inj e5
      obtain rfl := Option.some.inj e6
      obtain rfl := Option.some.inj e1
      obtain rfl := Option.some.inj e2
      obtain rfl := Option.some.inj e3
      obtain rfl := Option.some.inj e4
      simp only [Act.put, List.setIfInBounds_toArray, List.set_cons_succ, List.set_cons_zero]
      constructor
      · refine wpList_load_mid rfl 31 _ rfl g (q * 9) (by go_simp) (spc (f1 q)) _ (HW.out.at_ q hqn) Tryd.underlying31 rfl infoS1 ?_
        refine wpList_load_mid rfl 31 _ rfl g (i * 9) (by go_simp) (spc (f1 i)) _ (HW.out.at_ i hin) Tryd.underlying31 rfl infoS1 ?_
        refine Qt.wpList_val (v := .pointer (some ⟨g, i * 9, none⟩)) rfl (by go_simp) ?_
        refine wpList_store_mid rfl 31 _ _ rfl g (i * 9) (spc (f1 q)).toArray (by go_simp) (by go_simp) (HW.out.wr i hin) infoS1 (one9 _) ?_
        refine Qt.wpList_val (v := .pointer (some ⟨g, q * 9, none⟩)) rfl (by go_simp) ?_
        refine wpList_store_mid rfl 31 _ _ rfl g (q * 9) (spc (f1 i)).toArray (by go_simp) (by go_simp) (World.there_setCells (HW.out.wr q hqn) _ _ _) infoS1 (one9 _) ?_
        have O9 := Lib.hid ((OKs.swap_iff hin hqn).trans HO.out)
        refine Exists.elim (swapped hin hqn HW hgb hgl B0) fun W9 h9 => ?_
        have B9 := h9.2.1
        have X9 := h9.2.2
        clear HW
        refine wpList_at h9.1 ?_
        clear h9
        go_wp2_with fail
        go_roundg (n - (i + 1))
        case measure => omega
        case rel => exact ⟨i + 1, swp f1 i q, by omega, rfl, by go_num, O9, B9, X9⟩
      · refine wpList_load_mid rfl 31 _ rfl g (i * 9) (by go_simp) (spc (f1 i)) _ (HW.out.at_ i hin) Tryd.underlying31 rfl infoS1 ?_
        refine wpList_load_mid rfl 31 _ rfl g (q * 9) (by go_simp) (spc (f1 q)) _ (HW.out.at_ q hqn) Tryd.underlying31 rfl infoS1 ?_
        refine Qt.wpList_val (v := .pointer (some ⟨g, i * 9, none⟩)) rfl (by go_simp) ?_
        refine wpList_store_mid rfl 31 _ _ rfl g (i * 9) (spc (f1 q)).toArray (by go_simp) (by go_simp) (HW.out.wr i hin) infoS1 (one9 _) ?_
        refine Qt.wpList_val (v := .pointer (some ⟨g, q * 9, none⟩)) rfl (by go_simp) ?_
        refine wpList_store_mid rfl 31 _ _ rfl g (q * 9) (spc (f1 i)).toArray (by go_simp) (by go_simp) (World.there_setCells (HW.out.wr q hqn) _ _ _) infoS1 (one9 _) ?_
        have O9 := Lib.hid ((OKs.swap_iff hin hqn).trans HO.out)
        refine Exists.elim (swapped hin hqn HW hgb hgl B0) fun W9 h9 => ?_
        have B9 := h9.2.1
        have X9 := h9.2.2
        clear HW
        refine wpList_at h9.1 ?_
        clear h9
        go_wp2_with fail
        go_roundg (n - (i + 1))
        case measure => omega
        case rel => exact ⟨i + 1, swp f1 i q, by omega, rfl, by go_num, O9, B9, X9⟩
    · have hOK := HO.out
      obtain ⟨p1, p2, hp⟩ : ∃ p1 p2, fst f1 n 0 = (p1, p2) := ⟨_, _, rfl⟩
      have hz : (r2 = 0 ∧ p2 = 0) ∨ (r2 ≠ 0 ∧ p2 ≠ 0) := by
        have a1 : r2 = 0 ↔ OKs f n := by rw [← okz, HX.out]
        have a2 : p2 = 0 ↔ OKs f1 n := by rw [← okz, hp]
        by_cases e : OKs f n
        · exact .inl ⟨a1.2 e, a2.2 (hOK.2 e)⟩
        · exact .inr ⟨fun h => e (a1.1 h), fun h => e (hOK.1 (a2.1 h))⟩
      have HP := Lib.hid hp
      clear hp hOK HO
      have key : ∀ (s1 s2 : Bool), (r2 == 0) = s1 → (p2 == 0) = s2 → s1 = s2 → True := fun _ _ _ _ _ => trivial
      clear key
      by_cases hin : i < n
      all_goals
        first
          | have hd1 : decide ((i : Int) < (n : Int)) = true := decide_eq_true (by omega)
            have hd2 : decide ((i : Int) < (nu : Int)) = false := decide_eq_false (by omega)
            have hd3 : decide (i < nu) = false := decide_eq_false (by omega)
          | have hd1 : decide ((i : Int) < (n : Int)) = false := decide_eq_false (by omega)
        rcases hz with ⟨rfl, rfl⟩ | ⟨hz1, hz2⟩
        all_goals
          try have e1 : (r2 == 0) = false := by simpa using hz1
          try have e2 : (p2 == 0) = false := by simpa using hz2
          try clear hz1 hz2
          clear hgo
          go_wp2_with fail
          refine (list_ok n cap ad f _ (by omega) (HS.out.up B0.out.out)).mono ?_
          rintro e w3 ⟨v, rfl, hb, ho⟩
          obtain ⟨ad3, cap3, rfl, hs⟩ := SpAt.of_sps ho
          have B3 := Lib.hid (B0.out.up hb)
          have X3 := Lib.hid (X0.out.up hb)
          have HL := Lib.hid hs
          clear hb ho hs
          go_wp2_with fail
          refine (check_ok n cap3 ad3 f r1 _ _ (by omega) HL.out HX.out).mono ?_
          rintro e w4 ⟨rfl, hb⟩
          have B4 := Lib.hid (B3.out.up hb)
          have X4 := Lib.hid (X3.out.up hb)
          clear hb
          go_wp2_with fail
          refine (check_ok n cap2 ad2 f1 p1 _ _ (by omega) X4.out.sp HP.out).mono ?_
          rintro e w5 ⟨rfl, hb⟩
          have B5 := Lib.hid (B4.out.up hb)
          clear hb
          go_wp2_with fail
          go_ret
          exact ⟨rfl, B5.out.out⟩
theorem law_SpannerOrders (f : Nat → Sp) (n cap : Nat) (ad : Option Addr) (z : Nat → Int) (nu cu : Nat) (au : Option Addr) (w : World) (h : SpAt w ad n f) (hu : U8At w au nu z) (hnu : nu ≤ 9223372036854775807) (hk : KT w) :
    Calls Tryd.prog 6 #[.slice ad n cap, .slice au nu cu] w fun e w' => e = .returned (.bool true) ∧ Below w.heap.size w w' := by
  by_cases hn : n ≤ 12
  · obtain ⟨r1, r2, hr⟩ : ∃ r1 r2, fst f n 0 = (r1, r2) := ⟨_, _, rfl⟩
    exact orders_few f n cap ad z nu cu au r1 r2 w hk hn h hu hr hnu
  · exact orders_many f n cap ad z nu cu au w hk (by omega)
end Go.Proofs.YtabafabebodojaaDoor
