/- Note values: the values of a list of two. -/
import Derived.Test.YtoobfcekgfgipaaDoorDh
import Derived.OwnWalk
import Derived.Laws.AppendOwn
import Derived.Deep.Cut
import Derived.Deep.RegionWith
import Derived.Outline
namespace Go.Proofs.YtoobfcekgfgipaaDoor
open Go.RowKit
set_option linter.unusedVariables false
set_option linter.unusedSimpArgs false

theorem infoV : (Tryd.prog.info? 23).map (fun i => (i.zero, i.size, i.bytes)) = some (some (.agg #[.int .i64 0, .int .i64 0]), 2, 16) := by kernel_rfl
theorem ownUp {w w' : World} {base : Nat} {e : TypeId} {size : Nat} {v : Value} {n : Nat} {xs : List Value} (h : w.ownsRow base e size v n xs) (hb : Below w.heap.size w w') : w'.ownsRow base e size v n xs :=
  h.kept (row := none) ⟨hb.os, hb.tape, hb.output, hb.size, fun k hk _ => hb.block k hk⟩ (by cases v.ownBlock <;> simp)
theorem cell2_new (w : World) (x y : Value) (t : TypeId) (n : Nat) (hn : n = w.heap.size) : ∀ (j : Nat) (u : Value), [x, y][j]? = some u → (w.alloc (.cells #[x, y] t)).cell? ((⟨n, 0, none⟩ : Addr).add j) = some u := by
  subst hn
  intro j u hj
  match j, hj with
  | 0, hj => simp at hj; subst hj; simp [Addr.add]
  | 1, hj => simp at hj; subst hj; simp [Addr.add]
theorem Duo.grown {W W' : World} {b : Nat} {x y : Value} {row : Option Nat} (h : Duo W b x y) (hg : W.grownBy W' row) (hne : some b ≠ row) : Duo W' b x y := by
  obtain ⟨hl, h0, h1, h3, h4⟩ := h
  have hb := hg.block b hl hne
  have kc : ∀ (i : Nat) (v : Value), W.cell? ⟨b, i, none⟩ = some v → W'.cell? ⟨b, i, none⟩ = some v := fun i v hv => (World.cell?_of_block (a := ⟨b, i, none⟩) hb).trans hv
  have kf : ∀ (i : Nat), W.frozen? ⟨b, i, none⟩ = false → W'.frozen? ⟨b, i, none⟩ = false := fun i hv => (World.frozen?_of_block (a := ⟨b, i, none⟩) hb).trans hv
  exact ⟨Nat.lt_of_lt_of_le hl hg.size, kc _ _ h0, kc _ _ h1, kf _ h3, kf _ h4⟩
theorem first_q (mb : Nat) (w : World) : Calls Tryd.prog 32 #[.map (some mb), .agg #[.int .i64 483840, .int .i64 1]] w fun e w' => e = .returned (.agg #[.int .i64 2, .int .i64 0, .bool true]) ∧ Below w.heap.size w w' := by
  have h := first_1y 483840 (.map (some mb)) 15 w (by decide)
  rw [show lgV 15 = 2 by decide, show dtV 15 = 0 by decide] at h
  exact h
/-- the state of values' loop behind j rounds -/
def tkJ (j : Nat) : Int := if j = 0 then 2419200 else if j = 1 then 483840 else 0
def cuJ (j : Nat) : Int := 2 - (j : Int)
def rowJ (j : Nat) : List Value := if j = 0 then [] else if j = 1 then [.int .i64 0, .int .i64 0] else [.int .i64 0, .int .i64 0, .int .i64 2, .int .i64 0]
structure VK (w : World) (mb : Nat) (tk cu : Int) (n : Nat) (row : List Value) (out : Value) (wr : World) : Prop where
  bel : Bel w wr
  li : Duo wr w.heap.size (.int .i64 tk) (.int .i64 cu)
  own : wr.ownsRow (w.heap.size + 1) 23 2 out n row
  mp : wr.heap[mb]? = some (.map #[⟨.agg #[.int .i64 2419200, .int .i64 2], .agg #[.int .i64 0, .int .i64 0, .bool true], 0⟩] 1)
theorem VK.up {w wr w' : World} {mb n : Nat} {tk cu : Int} {row : List Value} {out : Value} (h : VK w mb tk cu n row out wr) (hb : Below wr.heap.size wr w') : VK w mb tk cu n row out w' :=
  ⟨h.bel.up hb, h.li.up hb, ownUp h.own hb, map_below h.mp hb⟩
theorem VK.put {w wr : World} {mb n : Nat} {tk cu tk' cu' : Int} {row : List Value} {out : Value} (hmb : mb < w.heap.size) (h : VK w mb tk cu n row out wr) : VK w mb tk' cu' n row out ((wr.setCell ⟨w.heap.size, 0, none⟩ (.int .i64 tk')).setCell ⟨w.heap.size, 1, none⟩ (.int .i64 cu')) := by
  have hk : ∀ (i : Nat) (u : Value) (W : World), W.ownsRow (w.heap.size + 1) 23 2 out n row → (W.setCell ⟨w.heap.size, i, none⟩ u).ownsRow (w.heap.size + 1) 23 2 out n row := fun i u W ho => ho.kept (grown_set' W w.heap.size i u) (by
    cases hv : out.ownBlock with
    | none => exact .inl rfl
    | some r => exact .inr (fun e => by have := (ho.lt r hv).1; cases e; omega))
  have hm : ∀ (i : Nat) (u : Value) (W : World) (o : Obj), W.heap[mb]? = some o → (W.setCell ⟨w.heap.size, i, none⟩ u).heap[mb]? = some o := fun i u W o ho => ((grown_set' W w.heap.size i u).block mb (Array.getElem?_eq_some_iff.1 ho).1 (fun e => by cases e; omega)).trans ho
  exact ⟨(h.bel.set (Nat.le_refl _) _ _).set (Nat.le_refl _) _ _, h.li.store, hk _ _ _ (hk _ _ _ h.own), hm _ _ _ _ (hm _ _ _ _ h.mp)⟩
theorem VK.grown {w W w9 : World} {mb n : Nat} {tk cu : Int} {row row' : List Value} {out out' : Value} {o : Obj} (hmb : mb < w.heap.size) (h : VK w mb tk cu n row out W) (hown : w9.ownsRow (w.heap.size + 1) 23 2 out' (n + 1) row') (hg : (W.alloc o).grownBy w9 out.ownBlock) : VK w mb tk cu (n + 1) row' out' w9 := by
  have hr : ∀ r, out.ownBlock = some r → w.heap.size + 1 ≤ r := fun r e => (h.own.lt r e).1
  have hup : Below W.heap.size W (W.alloc o) := (Below.refl _ W).alloc (Nat.le_refl _) _
  refine ⟨Below.grown (h.bel.alloc o) hg (by have := h.bel.size; simp; omega) (fun r e => by have := hr r e; omega), (h.li.up hup).grown hg (fun e => by have := hr _ e.symm; omega), hown, ?_⟩
  have hm := map_below h.mp hup
  exact (hg.block mb (Array.getElem?_eq_some_iff.1 hm).1 (fun e => by have := hr _ e.symm; omega)).trans hm
set_option maxRecDepth 100000 in
set_option maxHeartbeats 8000000 in
theorem values_2 (mb : Nat) (w : World) (h : w.heap[mb]? = some (.map #[⟨.agg #[.int .i64 2419200, .int .i64 2], .agg #[.int .i64 0, .int .i64 0, .bool true], 0⟩] 1)) :
    Calls Tryd.prog 33 #[.map (some mb), .agg #[.int .i64 2419200, .int .i64 2]] w fun e w' => ∃ g cap, e = .returned (.slice (some ⟨g, 0, none⟩) 2 cap) ∧ (w'.cell? ⟨g, 0, none⟩ = some (.int .i64 0) ∧ w'.cell? ⟨g, 1, none⟩ = some (.int .i64 0) ∧ w'.cell? ⟨g, 2, none⟩ = some (.int .i64 2) ∧ w'.cell? ⟨g, 3, none⟩ = some (.int .i64 0)) ∧ Below w.heap.size w w' := by
  obtain ⟨i0, hi, hz0, hz1, hz2⟩ := info_parts infoV
  have hmb : mb < w.heap.size := (Array.getElem?_eq_some_iff.1 h).1
  have H0 := Lib.hid (show VK w mb (tkJ 0) (cuJ 0) 0 (rowJ 0) (.slice none 0 0) (w.alloc (.cells #[.int .i64 2419200, .int .i64 2] 63)) from ⟨(Bel.refl w).alloc _, Duo.new w _ _ _ _ rfl, World.ownsRow_nil _ _ _ _, map_below h ((Below.refl _ w).alloc (Nat.le_refl _) _)⟩)
  have hf0 := fld0
  clear h
  go_enter Tryd.func33, Tryd.ntmps33
  go_wp2_with fail
  generalize (w.alloc (.cells #[.int .i64 2419200, .int .i64 2] 63)) = W0 at *
  go_loopg [5] 3 (fun gm out wr => ∃ j : Nat, j ≤ 2 ∧ gm = 3 - j ∧ Hid (VK w mb (tkJ j) (cuJ j) j (rowJ j) out wr))
  case atStart => exact ⟨0, by omega, by omega, H0⟩
  case round =>
    obtain ⟨j, hj, rfl, HJ⟩ := hrel
    clear H0
    rcases (show j = 0 ∨ j = 1 ∨ j = 2 by omega) with rfl | rfl | rfl
    · have HJ := Lib.hid (show VK w mb 2419200 2 0 (rowJ 0) _ wr from HJ.out)
      obtain ⟨_, l0, l1, _, _⟩ := HJ.out.li
      go_wp2_with fail
      refine (first_2h mb _ HJ.out.mp).mono ?_
      rintro e w2 ⟨rfl, hb⟩
      have HJ2 := Lib.hid (HJ.out.up hb)
      have hrv := fun r hr => Nat.lt_of_lt_of_le (HJ.out.own.lt r hr).2 hb.size
      have hup : Below w2.heap.size w2 (w2.alloc (.cells #[.int .i64 0, .int .i64 0] 23)) := (Below.refl _ w2).alloc (Nat.le_refl _) _
      have V3 := Lib.hid (Duo.new w2 (.int .i64 0) (.int .i64 0) 23 w2.heap.size rfl)
      have HJ3 := Lib.hid (HJ2.out.up hup)
      clear hb hup HJ l0 l1
      have hws : w.heap.size + 1 ≤ w2.heap.size := HJ2.out.li.lt
      clear HJ2
      go_upto_region 4 with (fail)
      generalize (w2.alloc (.cells #[.int .i64 0, .int .i64 0] 23)) = W3 at *
      generalize w2.heap.size = vb at *
      obtain ⟨_, v0, v1, _, _⟩ := id V3.out
      have hbw : w.heap.size + 1 ≤ W3.heap.size := HJ3.out.li.lt
      go_upto_region 5 with (first | (at_builtin; refine wpList_append_own _ rfl _ _ 36 rfl (w.heap.size + 1) 23 i0 (.agg #[.int .i64 0, .int .i64 0]) 2 16 Tryd.underlying36 hi hz0 hz1 hz2 rfl (by decide) _ _ _ rfl (HJ3.out.own.alloc _) ⟨_, 0, none⟩ 1 1 [.int .i64 0, .int .i64 0] rfl rfl (cell2_new _ _ _ _ _ (by simp)) (by simp [Value.oneCell']) (by unfold maxLen; omega) (by omega) (by simp; omega) ?_; intro v' w9 hown' hgrow _))
      have HJ9 := Lib.hid (show VK w mb 2419200 2 1 (rowJ 1) v' w9 from HJ3.out.grown hmb hown' hgrow)
      have V9 := Lib.hid ((V3.out.up ((Below.refl _ W3).alloc (Nat.le_refl _) (.cells #[.int .i64 0, .int .i64 0] 23))).grown hgrow (fun e => by have := hrv _ e.symm; omega))
      clear v0 v1 HJ3 V3 hown' hgrow hrv hbw
      obtain ⟨_, l0, l1, lf0, lf1⟩ := id HJ9.out.li
      obtain ⟨_, v0, v1, _, _⟩ := id V9.out
      go_region_with (go_at_call 25; refine (length_ok 0 0 _ (by decide)).mono ?_; rintro e W1 ⟨rfl, hb⟩; rw [show lenV 0 0 = 1935360 by decide]; have l0u := cell_up hb l0; have l1u := cell_up hb l1; have HP := Lib.hid ((VK.up HJ9.out ((below_drew (Below.refl _ w9)).trans hb)).put hmb (tk' := 483840) (cu' := 1)); obtain ⟨_, _, _, lf0u, lf1u⟩ := id (VK.up HJ9.out ((below_drew (Below.refl _ w9)).trans hb)).li)
      all_goals
        go_wp2_with fail
        go_roundg (3 - (0 + 1))
        case measure => omega
        case rel => exact ⟨1, by omega, rfl, Lib.hid (show VK w mb 483840 1 1 (rowJ 1) _ _ from (Hid.out (by assumption)))⟩
    · have HJ := Lib.hid (show VK w mb 483840 1 1 (rowJ 1) _ wr from HJ.out)
      obtain ⟨_, l0, l1, _, _⟩ := HJ.out.li
      go_wp2_with fail
      refine (first_q mb _).mono ?_
      rintro e w2 ⟨rfl, hb⟩
      have HJ2 := Lib.hid (HJ.out.up hb)
      have hrv := fun r hr => Nat.lt_of_lt_of_le (HJ.out.own.lt r hr).2 hb.size
      have hup : Below w2.heap.size w2 (w2.alloc (.cells #[.int .i64 2, .int .i64 0] 23)) := (Below.refl _ w2).alloc (Nat.le_refl _) _
      have V3 := Lib.hid (Duo.new w2 (.int .i64 2) (.int .i64 0) 23 w2.heap.size rfl)
      have HJ3 := Lib.hid (HJ2.out.up hup)
      clear hb hup HJ l0 l1
      have hws : w.heap.size + 1 ≤ w2.heap.size := HJ2.out.li.lt
      clear HJ2
      go_upto_region 4 with (fail)
      generalize (w2.alloc (.cells #[.int .i64 2, .int .i64 0] 23)) = W3 at *
      generalize w2.heap.size = vb at *
      obtain ⟨_, v0, v1, _, _⟩ := id V3.out
      have hbw : w.heap.size + 1 ≤ W3.heap.size := HJ3.out.li.lt
      go_upto_region 5 with (first | (at_builtin; refine wpList_append_own _ rfl _ _ 36 rfl (w.heap.size + 1) 23 i0 (.agg #[.int .i64 0, .int .i64 0]) 2 16 Tryd.underlying36 hi hz0 hz1 hz2 rfl (by decide) _ _ _ rfl (HJ3.out.own.alloc _) ⟨_, 0, none⟩ 1 1 [.int .i64 2, .int .i64 0] rfl rfl (cell2_new _ _ _ _ _ (by simp)) (by simp [Value.oneCell']) (by unfold maxLen; omega) (by omega) (by simp; omega) ?_; intro v' w9 hown' hgrow _))
      have HJ9 := Lib.hid (show VK w mb 483840 1 2 (rowJ 2) v' w9 from HJ3.out.grown hmb hown' hgrow)
      have V9 := Lib.hid ((V3.out.up ((Below.refl _ W3).alloc (Nat.le_refl _) (.cells #[.int .i64 2, .int .i64 0] 23))).grown hgrow (fun e => by have := hrv _ e.symm; omega))
      clear v0 v1 HJ3 V3 hown' hgrow hrv hbw
      obtain ⟨_, l0, l1, lf0, lf1⟩ := id HJ9.out.li
      obtain ⟨_, v0, v1, _, _⟩ := id V9.out
      go_region_with (go_at_call 25; refine (length_ok 2 0 _ (by decide)).mono ?_; rintro e W1 ⟨rfl, hb⟩; rw [show lenV 2 0 = 483840 by decide]; have l0u := cell_up hb l0; have l1u := cell_up hb l1; have HP := Lib.hid ((VK.up HJ9.out ((below_drew (Below.refl _ w9)).trans hb)).put hmb (tk' := 0) (cu' := 0)); obtain ⟨_, _, _, lf0u, lf1u⟩ := id (VK.up HJ9.out ((below_drew (Below.refl _ w9)).trans hb)).li)
      all_goals
        go_wp2_with fail
        go_roundg (3 - (1 + 1))
        case measure => omega
        case rel => exact ⟨2, by omega, rfl, Lib.hid (show VK w mb 0 0 2 (rowJ 2) _ _ from (Hid.out (by assumption)))⟩
    · obtain ⟨_, l0, l1, _, _⟩ := HJ.out.li
      have hown := HJ.out.own
      rcases hown.2 with ⟨_, h0⟩ | ⟨g, cap, cur, hv, hg, hc, hn, _, hs, ht⟩
      · exact absurd h0 (by decide)
      subst hv
      have rd : ∀ (i : Nat) (u : Value), i < 4 → (rowJ 2)[i]? = some u → _ := fun i u hi4 hu => (show wr.cell? ⟨g, i, none⟩ = some u from by
        rw [← ht, List.getElem?_take, if_pos (by omega)] at hu
        simp at hu
        simp [World.cell?, hc, hu])
      have q0 := rd 0 _ (by omega) rfl
      have q1 := rd 1 _ (by omega) rfl
      have q2 := rd 2 _ (by omega) rfl
      have q3 := rd 3 _ (by omega) rfl
      clear rd hc hn hs ht
      have l1' : wr.cell? ⟨w.heap.size, 1, none⟩ = some (.int .i64 0) := l1
      clear l1
      go_wp2_with fail
      go_ret
      exact ⟨g, cap, rfl, ⟨q0, q1, q2, q3⟩, HJ.out.bel.out⟩
end Go.Proofs.YtoobfcekgfgipaaDoor
