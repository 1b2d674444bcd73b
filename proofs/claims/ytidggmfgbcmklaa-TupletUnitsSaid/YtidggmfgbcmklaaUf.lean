/- Tuplets: Units, all of them. -/
import Derived.Test.YtidggmfgbcmklaaUe
namespace Go.Proofs.Ytidggmfgbcmklaa
open Go.RowKit
set_option linter.unusedVariables false
set_option linter.unusedSimpArgs false

set_option maxRecDepth 100000 in
set_option maxHeartbeats 8000000 in
theorem units_y (f : Nat → Tp) (n cap : Nat) (ad : Option Addr) (g : Nat → Int) (K cap2 : Nat) (aw : Option Addr) (J : Nat → Nat) (w : World) (hc : n ≤ cap) (hT : TsAt w ad n f) (hI : IsAt w aw K g) (hK : K ≤ 130) (hE : lsE f n g K = 0) (hJ : ∀ i, i < n → UnitOf f n g K i (J i)) :
    Calls Try.prog 32 #[.slice ad n cap, .slice aw K cap2] w fun e w' => ∃ v, e = .returned (.tuple #[v, .int .i64 0]) ∧ Below w.heap.size w w' ∧ unR n 0 J w' v := by
  have HT := Lib.hid hT
  have HI := Lib.hid hI
  have hck := (lsE_all hE).1
  have HG := Lib.hid (Gd.chk hck)
  have hn := (chk_zero hck).2.2.1
  have hR := Lib.hid (fun k hk => lenE_zero ((lsE_all hE).2 k hk))
  have HIN := Lib.hid (fun i (hi : i < n) => ((chk_zero hck).2.2.2.parts hi).1)
  have HL := Lib.hid (fun u h1 h2 => lengths_u f n cap ad g K cap2 aw u h1 h2 (by omega))
  rw [hE] at HL
  have hmk := make_int n (by omega)
  clear hT hI hE hck
  replace hJ := Lib.hid hJ
  go_enter Try.func32, Try.ntmps32
  go_wp2_with fail
  refine (HL.out _ HT.out HI.out).mono ?_
  rintro e w1 ⟨ao, co, rfl, hb, hq⟩
  have B1 := Lib.hid (show Bel w w1 from hb)
  have B2 := Lib.hid (B1.out.alloc (.cells (madeCells #[.int .i64 0] n) 3))
  have F2 := Lib.hid (fil_made w1 n 3 w1.heap.size rfl)
  have hsz := B1.out.size
  clear hb B1 hq HL
  generalize hgb : w1.heap.size = gb at *
  go_wp2_with fail
  try rw [hgb]
  go_loopg [29] n (fun gm i wr => ∃ k : Nat, k ≤ n ∧ gm = n - k ∧ i = .int .i64 (k : Int) ∧ Hid (Bel w wr) ∧ Hid (Fil wr gb n (fun j => if j < k then (J j : Int) - 1 else 0)))
  case atStart => exact ⟨0, by omega, by omega, rfl, B2, F2.out.eq (fun j hj => by simp)⟩
  case round =>
    clear B2 F2 hmk
    obtain ⟨k, hk, rfl, rfl, HB, HF⟩ := hrel
    obtain ⟨W0, hW0, B0, G0⟩ : ∃ W0, W0 = _ ∧ Hid (Bel w W0) ∧ Hid (Fil W0 gb n (fun j => if j < k then (J j : Int) - 1 else 0)) := ⟨_, rfl, HB, HF⟩
    subst hW0
    clear HB HF
    by_cases hlt : k < n
    · obtain ⟨hwh, hj10, hjq, hjl⟩ := hJ.out k hlt
      obtain ⟨b, off, rfl, c0, c1, c2, c3⟩ := HT.out.up B0.out.out k (by omega)
      have hkn : decide ((k : Int) < (n : Int)) = true := decide_eq_true (by omega)
      have hir := HIN.out k (by omega)
      unfold Tp.inR at hir
      obtain ⟨i1, i2, i3, i4, i5, i6, i7, i8, i9⟩ := hir
      have hsK := Lib.hid (HG.out.sm k (by omega))
      have hA0 : ((f k).A == 0) = false := by simp; omega
      have hGs := Lib.hid (Gd.sh (f := f) (a := k + 1) (n := n - (k + 1)) (by rw [show k + 1 + (n - (k + 1)) = n by omega]; exact HG.out))
      have hkc : k + 1 ≤ n := by omega
      have hkc2 : k + 1 ≤ cap := by omega
      have HWI := Lib.hid (fun (ax : Option Addr) u h1 h2 => within_all (sh f (k + 1)) (n - (k + 1)) (cap - (k + 1)) ax g K cap2 aw (f k) u (by omega) hGs.out h1 h2 hK hsK.out (by omega) hR.out hwh)
      have hsb := sumH_bd (v := fun e => lenV (sh f (k + 1)) (n - (k + 1)) e (g e)) (t := f k) (c := 253671505920) (by omega) K (fun e _ _ => lenV_bd hGs.out) K (Nat.le_refl K)
      obtain ⟨SS, hSS⟩ : ∃ SS, smU f n g K k = SS := ⟨_, rfl⟩
      rw [show sumH (fun e => lenV (sh f (k + 1)) (n - (k + 1)) e (g e)) (f k) K = SS from hSS] at HWI hsb
      obtain ⟨hs0, hs1⟩ := hsb
      have htm : SS.tmod (f k).A = SS % (f k).A := Int.tmod_eq_emod_of_nonneg hs0
      have htd : SS.tdiv (f k).A = SS / (f k).A := Int.tdiv_eq_ediv_of_nonneg hs0
      rw [hSS] at hjq hjl
      obtain ⟨hd1, hd2⟩ := unit_div (by omega) hjq
      have hub := uu_bd (J k)
      have HUD := Lib.hid (fun u => undotted_y (SS / (f k).A) u (J k) hj10 hd2.symm (fun i hi h => hjl i hi (unit_mul hd1 h)))
      rw [hd2] at htd HUD
      generalize hUU : uu (J k) = UU at *
      clear hjq hjl hwh hd2 hSS hUU
      obtain ⟨hu0, hu1⟩ := hub
      have B1 := Lib.hid (B0.out.alloc (.cells #[.int .i64 (f k).F, .int .i64 (f k).C, .int .i64 (f k).A, .int .i64 (f k).N] 52))
      have G1 := Lib.hid (G0.out.up ((Below.refl _ _).alloc (Nat.le_refl _) (.cells #[.int .i64 (f k).F, .int .i64 (f k).C, .int .i64 (f k).A, .int .i64 (f k).N] 52)))
      have Y1 := Quad.new W0 (.int .i64 (f k).F) (.int .i64 (f k).C) (.int .i64 (f k).A) (.int .i64 (f k).N) 52 _ rfl
      clear B0 G0 
      obtain ⟨yf0, yf1, yf2, yf3, yf4, yf5, yf6, yf7, yf8⟩ := id Y1
      go_wp2_with fail
      clear yf0 yf1 yf2 yf3 yf4 yf5 yf6 yf7 yf8
      refine Qt.regionAll (by kernel_rfl) (by kernel_rfl) ?_
      intro T f_ F hne
      have RB := Lib.hid (fun g => B1.out.up (F.below g))
      have RG := Lib.hid (fun g => G1.out.up (F.below g))
      have RY := fun g => Y1.up (F.below g)
      have RY0 := fun g => (RY g).c0
      have RY1 := fun g => (RY g).c1
      have RY2 := fun g => (RY g).c2
      have RY3 := fun g => (RY g).c3
      repeat (go_big_quiet_step (first | (go_at_call 48; with_reducible exact F.call (HWI.out _ _ ((HT.out.up (RB.out _).out).dropIf hc (by omega)) (HI.out.up (RB.out _).out))) | (go_at_call 48; with_reducible exact F.call (HWI.out _ _ ((HT.out.up (RB.out _).out).drop (by omega)) (HI.out.up (RB.out _).out)))))
      refine wpQuiet_nil ?_
      rintro _ ⟨gT, rfl⟩
      have B2 := Lib.hid (RB.out gT)
      have G2 := Lib.hid (RG.out gT)
      have Y2 := RY gT
      clear F RB hne RG RY RY0 RY1 RY2 RY3 B1 G1 Y1
      generalize f_ gT = w2 at *
      clear f_
      obtain ⟨yf0, yf1, yf2, yf3, yf4, yf5, yf6, yf7, yf8⟩ := id Y2
      try (generalize hadx : ((if cap = k + 1 then some ⟨b, off, none⟩ else some ⟨b, off + (k + 1) * 4, none⟩) : Option Addr) = adx at *; clear hadx)
      go_wp2_with fail
      clear yf0 yf1 yf2 yf3 yf4 yf5 yf6 yf7 yf8
      refine (HUD.out _).mono ?_
      rintro e w3 ⟨rfl, hb⟩
      have B3 := Lib.hid (B2.out.up hb)
      have G3 := Lib.hid (G2.out.up hb)
      have Y3 := Y2.up hb
      clear hb B2 G2 Y2
      obtain ⟨yf0, yf1, yf2, yf3, yf4, yf5, yf6, yf7, yf8⟩ := id Y3
      obtain ⟨gk1, gk2⟩ := G3.out k (by omega)
      have hB := Lib.hid (B3.out.set (b := gb) (by omega) k (.int .i64 ((J k : Int) - 1)))
      have hF := Lib.hid (G3.out.nextF (k := k) (h := fun i => (J i : Int) - 1) (by omega) rfl)
      go_wp2_with fail
      go_roundg (n - (k + 1))
      case measure => omega
      case rel => exact ⟨k + 1, by omega, rfl, by go_num, hB, hF⟩
    · obtain rfl : k = n := by omega
      have hkn : decide ((k : Int) < (k : Int)) = false := decide_eq_false (by omega)
      go_wp2_with fail
      go_ret2
      exact ⟨_, rfl, B0.out.out, fun _ => ⟨_, rfl, G0.out.eq (fun j hj => by simp [hj])⟩, fun h => absurd rfl h⟩
end Go.Proofs.Ytidggmfgbcmklaa
