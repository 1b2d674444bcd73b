/- Keys: Tonic and Of, of the program and of the reference. -/
import Derived.Test.YtihndkplknoabaaDoorKk
namespace Go.Proofs.YtihndkplknoabaaDoor
open Go.RowKit
set_option linter.unusedVariables false
set_option linter.unusedSimpArgs false

theorem tonic_eq {s a x : Int} (s0 : 0 ≤ s) (s1 : s ≤ 6) (h1 : shI (x % 7) = s) (h2 : x / 7 = a) : x = ixI s + 7 * a := by
  have h3 := ix_sh (r := x % 7) (by omega) (by omega)
  rw [h1] at h3
  omega
theorem tonic_at {s a x : Int} (s0 : 0 ≤ s) (s1 : s ≤ 6) (h : x = ixI s + 7 * a) : shI (x % 7) = s ∧ x / 7 = a := by
  have h3 := ixI_bd s
  have e1 : x % 7 = ixI s := by omega
  have e2 : x / 7 = a := by omega
  exact ⟨by rw [e1]; exact sh_ix s0 s1, e2⟩
theorem index_sh (s : Int) (b cap : Nat) (w : World) (s0 : 0 ≤ s) (s1 : s ≤ 6) (hr : Row1 w b shL) :
    Calls Tryd.prog 34 #[.slice (some ⟨b, 0, none⟩) 7 cap, .int .i64 s] w fun e w' => e = .returned (.int .i64 (ixI s)) ∧ Below w.heap.size w w' := by
  refine (index_ok shL b cap s w (by decide) hr).mono ?_
  rintro e w' ⟨h, hb⟩
  refine ⟨?_, hb⟩
  rcases h with ⟨k, hk, rfl⟩ | ⟨hn, rfl⟩
  · have hk7 : k < 7 := (List.getElem?_eq_some_iff.1 hk).1
    have h1 := (shL_sh ⟨k, hk7⟩).symm.trans hk
    simp only [Option.some.injEq] at h1
    have h2 := ix_sh (r := (k : Int)) (by omega) (by omega)
    rw [h1] at h2
    rw [h2]
  · exfalso
    have hb := ixI_bd s
    have h1 := shL_sh ⟨(ixI s).toNat, by omega⟩
    have e : (((ixI s).toNat : Nat) : Int) = ixI s := by omega
    simp only [e, sh_ix s0 s1] at h1
    exact hn _ _ h1 rfl
theorem shRow (w : World) (t : TypeId) : Row1 (w.alloc (.cells #[.int .i64 3, .int .i64 0, .int .i64 4, .int .i64 1, .int .i64 5, .int .i64 2, .int .i64 6] t)) w.heap.size shL := by
  intro k x hx
  match k, hx with
  | 0, hx => simp [shL] at hx; subst hx; simp
  | 1, hx => simp [shL] at hx; subst hx; simp
  | 2, hx => simp [shL] at hx; subst hx; simp
  | 3, hx => simp [shL] at hx; subst hx; simp
  | 4, hx => simp [shL] at hx; subst hx; simp
  | 5, hx => simp [shL] at hx; subst hx; simp
  | 6, hx => simp [shL] at hx; subst hx; simp
  | k + 7, hx => simp [shL] at hx
set_option maxRecDepth 100000 in
set_option maxHeartbeats 2000000 in
theorem tonicK_bn (f : Int) (w : World) (h : ¬ Sg f) (hk : KT w) :
    Calls Tryd.prog 17 #[.int .i64 f, .bool false] w fun e w' => e = .returned (.tuple #[.int .i64 0, .int .i64 0, .int .i64 2]) ∧ Below w.heap.size w w' := by
  have B0 := Lib.hid (Bel.refl w)
  have K0 := Lib.hid hk
  have HP := Lib.hid h
  go_enter Tryd.func17, Tryd.ntmps17
  go_wp2_with fail
  refine (checkK_bad f _ HP.out).mono ?_
  rintro e w1 ⟨rfl, hb⟩
  have B1 := Lib.hid (B0.out.up hb)
  have K1 := Lib.hid (K0.out.below hb)
  clear hb B0 K0 
  go_wp2_with fail
  exact bodyPost_ret (v := .tuple #[.int .i64 0, .int .i64 0, .int .i64 2]) (by first | (simp [results, Tryd.results17, go_sem]; done) | (simp [results, Tryd.results17, go_sem]; omega)) rfl ⟨rfl, B1.out.out⟩
set_option maxRecDepth 100000 in
set_option maxHeartbeats 2000000 in
theorem tonicK_n (f : Int) (w : World) (h : Sg f) (hk : KT w) :
    Calls Tryd.prog 17 #[.int .i64 f, .bool false] w fun e w' => e = .returned (.tuple #[.int .i64 (shI ((f + 1) % 7)), .int .i64 ((f + 1) / 7), .int .i64 0]) ∧ Below w.heap.size w w' := by
  have B0 := Lib.hid (Bel.refl w)
  have K0 := Lib.hid hk
  have HP := Lib.hid h
  have KT1 := fun v hv => tonic_n f v HP.out hv
  obtain ⟨G, hT⟩ : ∃ G, shI ((f + 1) % 7) = G := ⟨_, rfl⟩
  obtain ⟨D, hD⟩ : ∃ D, (f + 1) / 7 = D := ⟨_, rfl⟩
  have HV := Lib.hid (show (Value.tuple #[.int .i64 G, .int .i64 D, .int .i64 0]) = .tuple #[.int .i64 (shI ((f + 1) % 7)), .int .i64 ((f + 1) / 7), .int .i64 0] by rw [hT, hD])
  simp only [hT, hD] at KT1
  clear hT hD
  replace KT1 := Lib.hid KT1
  go_enter Tryd.func17, Tryd.ntmps17
  go_wp2_with fail
  refine (checkK_ok f _ HP.out).mono ?_
  rintro e w1 ⟨rfl, hb⟩
  have B1 := Lib.hid (B0.out.up hb)
  have K1 := Lib.hid (K0.out.below hb)
  clear hb B0 K0 
  go_wp2_with fail
  refine (KT1.out _ K1.out).mono ?_
  rintro e w2 ⟨rfl, hb⟩
  have B2 := Lib.hid (B1.out.up hb)
  have K2 := Lib.hid (K1.out.below hb)
  clear hb B1 K1 
  go_wp2_with fail
  exact bodyPost_ret (v := .tuple #[.int .i64 G, .int .i64 D, .int .i64 0]) (by first | (simp [results, Tryd.results17, go_sem]; done) | (simp [results, Tryd.results17, go_sem]; omega)) rfl ⟨congrArg Ending.returned HV.out, B2.out.out⟩
set_option maxRecDepth 100000 in
set_option maxHeartbeats 2000000 in
theorem ofK_bn (s a : Int) (w : World) (k : ¬ Cls s a) (hk : KT w) :
    Calls Tryd.prog 18 #[.int .i64 s, .int .i64 a, .bool false] w fun e w' => e = .returned (.tuple #[.int .i64 0, .int .i64 18]) ∧ Below w.heap.size w w' := by
  have B0 := Lib.hid (Bel.refl w)
  have K0 := Lib.hid hk
  have HQ := Lib.hid k
  go_enter Tryd.func18, Tryd.ntmps18
  go_wp2_with fail
  refine (isClass_n s a _ HQ.out).mono ?_
  rintro e w1 ⟨rfl, hb⟩
  have B1 := Lib.hid (B0.out.up hb)
  have K1 := Lib.hid (K0.out.below hb)
  clear hb B0 K0 
  go_wp2_with fail
  go_ret2
  exact ⟨rfl, B1.out.out⟩
set_option maxRecDepth 100000 in
set_option maxHeartbeats 2000000 in
theorem ofK_rn (s a F : Int) (w : World) (k : Cls s a) (hF : ixI s - 1 + 7 * a - 0 = F) (h : ¬ Sg F) (hk : KT w) :
    Calls Tryd.prog 18 #[.int .i64 s, .int .i64 a, .bool false] w fun e w' => e = .returned (.tuple #[.int .i64 0, .int .i64 2]) ∧ Below w.heap.size w w' := by
  have B0 := Lib.hid (Bel.refl w)
  have K0 := Lib.hid hk
  have HP := Lib.hid h
  have HQ := Lib.hid k
  obtain ⟨c0, c1⟩ := ixI_bd s
  obtain ⟨s0, s1, a0, a1⟩ := k
  have KI := fun b cap v hr => index_sh s b cap v s0 s1 hr
  generalize ixI s = I at *
  replace KI := Lib.hid KI
  go_enter Tryd.func18, Tryd.ntmps18
  go_wp2_with fail
  refine (isClass_y s a _ HQ.out).mono ?_
  rintro e w1 ⟨rfl, hb⟩
  have B1 := Lib.hid (B0.out.up hb)
  have K1 := Lib.hid (K0.out.below hb)
  clear hb B0 K0 
  obtain ⟨q0, q1, q2, q3, q4, q5, q6, g0, g1, g2⟩ := id K1.out
  go_wp2_with fail
  refine (KI.out _ 7 _ (shRow w1 _)).mono ?_
  rintro e w2 ⟨rfl, hb⟩
  have B2 := Lib.hid ((B1.out.alloc _).up hb)
  clear hb B1 q0 q1 q2 q3 q4 q5 q6 g0 g1 g2 K1
  go_wp2_with fail
  refine (tonicPlace_n _).mono ?_
  rintro e w3 ⟨rfl, hb⟩
  have B3 := Lib.hid (B2.out.up hb)
  clear hb B2
  go_wp2_with fail
  refine (checkK_bad _ _ (fun c => HP.out ⟨by have := c.f0; omega, by have := c.f1; omega⟩)).mono ?_
  rintro e w4 ⟨rfl, hb⟩
  have B4 := Lib.hid (B3.out.up hb)
  clear hb B3
  go_wp2_with fail
  go_ret2
  exact ⟨by first | rfl | (simp; done) | (simp; omega), B4.out.out⟩
set_option maxRecDepth 100000 in
set_option maxHeartbeats 2000000 in
theorem ofK_n (s a F : Int) (w : World) (k : Cls s a) (hF : ixI s - 1 + 7 * a - 0 = F) (h : Sg F) (hk : KT w) :
    Calls Tryd.prog 18 #[.int .i64 s, .int .i64 a, .bool false] w fun e w' => e = .returned (.tuple #[.int .i64 F, .int .i64 0]) ∧ Below w.heap.size w w' := by
  have B0 := Lib.hid (Bel.refl w)
  have K0 := Lib.hid hk
  have HP := Lib.hid h
  have HQ := Lib.hid k
  obtain ⟨c0, c1⟩ := ixI_bd s
  obtain ⟨s0, s1, a0, a1⟩ := k
  have KI := fun b cap v hr => index_sh s b cap v s0 s1 hr
  generalize ixI s = I at *
  replace KI := Lib.hid KI
  go_enter Tryd.func18, Tryd.ntmps18
  go_wp2_with fail
  refine (isClass_y s a _ HQ.out).mono ?_
  rintro e w1 ⟨rfl, hb⟩
  have B1 := Lib.hid (B0.out.up hb)
  have K1 := Lib.hid (K0.out.below hb)
  clear hb B0 K0 
  obtain ⟨q0, q1, q2, q3, q4, q5, q6, g0, g1, g2⟩ := id K1.out
  go_wp2_with fail
  refine (KI.out _ 7 _ (shRow w1 _)).mono ?_
  rintro e w2 ⟨rfl, hb⟩
  have B2 := Lib.hid ((B1.out.alloc _).up hb)
  clear hb B1 q0 q1 q2 q3 q4 q5 q6 g0 g1 g2 K1
  go_wp2_with fail
  refine (tonicPlace_n _).mono ?_
  rintro e w3 ⟨rfl, hb⟩
  have B3 := Lib.hid (B2.out.up hb)
  clear hb B2
  go_wp2_with fail
  refine (checkK_ok _ _ (⟨by have := HP.out.f0; omega, by have := HP.out.f1; omega⟩)).mono ?_
  rintro e w4 ⟨rfl, hb⟩
  have B4 := Lib.hid (B3.out.up hb)
  clear hb B3
  go_wp2_with fail
  go_ret2
  exact ⟨by first | rfl | (simp; done) | (simp; omega), B4.out.out⟩
set_option maxRecDepth 100000 in
set_option maxHeartbeats 2000000 in
theorem tonicK_by (f : Int) (w : World) (h : ¬ Sg f) (hk : KT w) :
    Calls Tryd.prog 17 #[.int .i64 f, .bool true] w fun e w' => e = .returned (.tuple #[.int .i64 0, .int .i64 0, .int .i64 2]) ∧ Below w.heap.size w w' := by
  have B0 := Lib.hid (Bel.refl w)
  have K0 := Lib.hid hk
  have HP := Lib.hid h
  go_enter Tryd.func17, Tryd.ntmps17
  go_wp2_with fail
  refine (checkK_bad f _ HP.out).mono ?_
  rintro e w1 ⟨rfl, hb⟩
  have B1 := Lib.hid (B0.out.up hb)
  have K1 := Lib.hid (K0.out.below hb)
  clear hb B0 K0 
  go_wp2_with fail
  exact bodyPost_ret (v := .tuple #[.int .i64 0, .int .i64 0, .int .i64 2]) (by first | (simp [results, Tryd.results17, go_sem]; done) | (simp [results, Tryd.results17, go_sem]; omega)) rfl ⟨rfl, B1.out.out⟩
set_option maxRecDepth 100000 in
set_option maxHeartbeats 2000000 in
theorem tonicK_y (f : Int) (w : World) (h : Sg f) (hk : KT w) :
    Calls Tryd.prog 17 #[.int .i64 f, .bool true] w fun e w' => e = .returned (.tuple #[.int .i64 (shI ((f + 3 + 1) % 7)), .int .i64 ((f + 3 + 1) / 7), .int .i64 0]) ∧ Below w.heap.size w w' := by
  have B0 := Lib.hid (Bel.refl w)
  have K0 := Lib.hid hk
  have HP := Lib.hid h
  have KT1 := fun v hv => tonic_y f v HP.out hv
  obtain ⟨G, hT⟩ : ∃ G, shI ((f + 3 + 1) % 7) = G := ⟨_, rfl⟩
  obtain ⟨D, hD⟩ : ∃ D, (f + 3 + 1) / 7 = D := ⟨_, rfl⟩
  have HV := Lib.hid (show (Value.tuple #[.int .i64 G, .int .i64 D, .int .i64 0]) = .tuple #[.int .i64 (shI ((f + 3 + 1) % 7)), .int .i64 ((f + 3 + 1) / 7), .int .i64 0] by rw [hT, hD])
  simp only [hT, hD] at KT1
  clear hT hD
  replace KT1 := Lib.hid KT1
  go_enter Tryd.func17, Tryd.ntmps17
  go_wp2_with fail
  refine (checkK_ok f _ HP.out).mono ?_
  rintro e w1 ⟨rfl, hb⟩
  have B1 := Lib.hid (B0.out.up hb)
  have K1 := Lib.hid (K0.out.below hb)
  clear hb B0 K0 
  go_wp2_with fail
  refine (KT1.out _ K1.out).mono ?_
  rintro e w2 ⟨rfl, hb⟩
  have B2 := Lib.hid (B1.out.up hb)
  have K2 := Lib.hid (K1.out.below hb)
  clear hb B1 K1 
  go_wp2_with fail
  exact bodyPost_ret (v := .tuple #[.int .i64 G, .int .i64 D, .int .i64 0]) (by first | (simp [results, Tryd.results17, go_sem]; done) | (simp [results, Tryd.results17, go_sem]; omega)) rfl ⟨congrArg Ending.returned HV.out, B2.out.out⟩
set_option maxRecDepth 100000 in
set_option maxHeartbeats 2000000 in
theorem ofK_by (s a : Int) (w : World) (k : ¬ Cls s a) (hk : KT w) :
    Calls Tryd.prog 18 #[.int .i64 s, .int .i64 a, .bool true] w fun e w' => e = .returned (.tuple #[.int .i64 0, .int .i64 18]) ∧ Below w.heap.size w w' := by
  have B0 := Lib.hid (Bel.refl w)
  have K0 := Lib.hid hk
  have HQ := Lib.hid k
  go_enter Tryd.func18, Tryd.ntmps18
  go_wp2_with fail
  refine (isClass_n s a _ HQ.out).mono ?_
  rintro e w1 ⟨rfl, hb⟩
  have B1 := Lib.hid (B0.out.up hb)
  have K1 := Lib.hid (K0.out.below hb)
  clear hb B0 K0 
  go_wp2_with fail
  go_ret2
  exact ⟨rfl, B1.out.out⟩
set_option maxRecDepth 100000 in
set_option maxHeartbeats 2000000 in
theorem ofK_ry (s a F : Int) (w : World) (k : Cls s a) (hF : ixI s - 1 + 7 * a - 3 = F) (h : ¬ Sg F) (hk : KT w) :
    Calls Tryd.prog 18 #[.int .i64 s, .int .i64 a, .bool true] w fun e w' => e = .returned (.tuple #[.int .i64 0, .int .i64 2]) ∧ Below w.heap.size w w' := by
  have B0 := Lib.hid (Bel.refl w)
  have K0 := Lib.hid hk
  have HP := Lib.hid h
  have HQ := Lib.hid k
  obtain ⟨c0, c1⟩ := ixI_bd s
  obtain ⟨s0, s1, a0, a1⟩ := k
  have KI := fun b cap v hr => index_sh s b cap v s0 s1 hr
  generalize ixI s = I at *
  replace KI := Lib.hid KI
  go_enter Tryd.func18, Tryd.ntmps18
  go_wp2_with fail
  refine (isClass_y s a _ HQ.out).mono ?_
  rintro e w1 ⟨rfl, hb⟩
  have B1 := Lib.hid (B0.out.up hb)
  have K1 := Lib.hid (K0.out.below hb)
  clear hb B0 K0 
  obtain ⟨q0, q1, q2, q3, q4, q5, q6, g0, g1, g2⟩ := id K1.out
  go_wp2_with fail
  refine (KI.out _ 7 _ (shRow w1 _)).mono ?_
  rintro e w2 ⟨rfl, hb⟩
  have B2 := Lib.hid ((B1.out.alloc _).up hb)
  clear hb B1 q0 q1 q2 q3 q4 q5 q6 g0 g1 g2 K1
  go_wp2_with fail
  refine (tonicPlace_y _).mono ?_
  rintro e w3 ⟨rfl, hb⟩
  have B3 := Lib.hid (B2.out.up hb)
  clear hb B2
  go_wp2_with fail
  refine (checkK_bad _ _ (fun c => HP.out ⟨by have := c.f0; omega, by have := c.f1; omega⟩)).mono ?_
  rintro e w4 ⟨rfl, hb⟩
  have B4 := Lib.hid (B3.out.up hb)
  clear hb B3
  go_wp2_with fail
  go_ret2
  exact ⟨by first | rfl | (simp; done) | (simp; omega), B4.out.out⟩
set_option maxRecDepth 100000 in
set_option maxHeartbeats 2000000 in
theorem ofK_y (s a F : Int) (w : World) (k : Cls s a) (hF : ixI s - 1 + 7 * a - 3 = F) (h : Sg F) (hk : KT w) :
    Calls Tryd.prog 18 #[.int .i64 s, .int .i64 a, .bool true] w fun e w' => e = .returned (.tuple #[.int .i64 F, .int .i64 0]) ∧ Below w.heap.size w w' := by
  have B0 := Lib.hid (Bel.refl w)
  have K0 := Lib.hid hk
  have HP := Lib.hid h
  have HQ := Lib.hid k
  obtain ⟨c0, c1⟩ := ixI_bd s
  obtain ⟨s0, s1, a0, a1⟩ := k
  have KI := fun b cap v hr => index_sh s b cap v s0 s1 hr
  generalize ixI s = I at *
  replace KI := Lib.hid KI
  go_enter Tryd.func18, Tryd.ntmps18
  go_wp2_with fail
  refine (isClass_y s a _ HQ.out).mono ?_
  rintro e w1 ⟨rfl, hb⟩
  have B1 := Lib.hid (B0.out.up hb)
  have K1 := Lib.hid (K0.out.below hb)
  clear hb B0 K0 
  obtain ⟨q0, q1, q2, q3, q4, q5, q6, g0, g1, g2⟩ := id K1.out
  go_wp2_with fail
  refine (KI.out _ 7 _ (shRow w1 _)).mono ?_
  rintro e w2 ⟨rfl, hb⟩
  have B2 := Lib.hid ((B1.out.alloc _).up hb)
  clear hb B1 q0 q1 q2 q3 q4 q5 q6 g0 g1 g2 K1
  go_wp2_with fail
  refine (tonicPlace_y _).mono ?_
  rintro e w3 ⟨rfl, hb⟩
  have B3 := Lib.hid (B2.out.up hb)
  clear hb B2
  go_wp2_with fail
  refine (checkK_ok _ _ (⟨by have := HP.out.f0; omega, by have := HP.out.f1; omega⟩)).mono ?_
  rintro e w4 ⟨rfl, hb⟩
  have B4 := Lib.hid (B3.out.up hb)
  clear hb B3
  go_wp2_with fail
  go_ret2
  exact ⟨by first | rfl | (simp; done) | (simp; omega), B4.out.out⟩
end Go.Proofs.YtihndkplknoabaaDoor
