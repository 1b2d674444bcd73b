/- Keys: the alteration of a step; the signature of the reference. -/
import Derived.Test.YthdkfeehabpikaaDoorKf
namespace Go.Proofs.YthdkfeehabpikaaDoor
open Go.RowKit
set_option linter.unusedVariables false
set_option linter.unusedSimpArgs false

theorem sig_ok (f : Int) (w : World) (h : Sg f) (hk : KT w) :
    Calls Tryd.prog 31 #[.int .i64 f] w fun e w' => ∃ b, e = .returned (.slice (some ⟨b, 0, none⟩) (sigL f).length 7) ∧ Row1 w' b (sigL f) ∧ Below w.heap.size w w' := by
  rcases sig_cases h with h | h
  · exact sig_pos f w hk h
  · exact sig_neg f w hk h
theorem sigL_len {f : Int} (h : Sg f) : (sigL f).length ≤ 7 := by
  have := h.f0
  have := h.f1
  unfold sigL
  split <;> simp <;> omega
def alI (f r : Int) : Int := if r ∈ sigL f then if 0 < f then 1 else -1 else 0
set_option maxRecDepth 100000 in
set_option maxHeartbeats 2000000 in
theorem alter_ok (f r : Int) (w : World) (h : Sg f) (hk : KT w) :
    Calls Tryd.prog 20 #[.int .i64 f, .int .i64 r] w fun e w' => e = .returned (.int .i64 (alI f r)) ∧ Below w.heap.size w w' := by
  have B0 := Lib.hid (Bel.refl w)
  have K0 := Lib.hid hk
  have HP := Lib.hid h
  go_enter Tryd.func20, Tryd.ntmps20
  go_wp2_with fail
  refine (sig_ok f _ HP.out K0.out).mono ?_
  rintro e w1 ⟨b, rfl, hr, hb⟩
  have G1 := Lib.hid hr
  clear hr
  have B1 := Lib.hid (B0.out.up hb)
  have K1 := Lib.hid (K0.out.below hb)
  clear hb B0 K0 
  go_wp2_with fail
  refine (contains_ok (sigL f) b 7 r _ (by have := sigL_len HP.out; omega) G1.out).mono ?_
  rintro e w2 ⟨rfl, hb⟩
  have B2 := Lib.hid (B1.out.up hb)
  clear hb
  by_cases hm : r ∈ sigL f
  · rw [show decide (r ∈ sigL f) = true by simpa using hm]
    by_cases h0 : 0 < f
    · have E : Hid (alI f r = 1) := by unfold Hid alI; rw [if_pos hm, if_pos h0]
      go_wp2_with fail
      go_ret
      exact ⟨by rw [E.out]; first | done | rfl, B2.out.out⟩
    · have E : Hid (alI f r = -1) := by unfold Hid alI; rw [if_pos hm, if_neg h0]
      go_wp2_with fail
      go_ret
      exact ⟨by rw [E.out]; first | done | rfl, B2.out.out⟩
  · have E : Hid (alI f r = 0) := by unfold Hid alI; rw [if_neg hm]
    rw [show decide (r ∈ sigL f) = false by simpa using hm]
    go_wp2_with fail
    go_ret
    exact ⟨by rw [E.out]; first | done | rfl, B2.out.out⟩
def shL : List Int := [3, 0, 4, 1, 5, 2, 6]
def flL : List Int := [6, 2, 5, 1, 4, 0, 3]
theorem sigL_both {f : Int} : sigL f = shL.take f.toNat ++ flL.take (-f).toNat := by
  unfold sigL shL flL
  split
  · rename_i h
    rw [show (-f).toNat = 0 by omega]; simp
  · rename_i h
    rw [show f.toNat = 0 by omega]; simp
theorem fl_at : ∀ j : Fin 7, flL[j.val]? = shL[6 - j.val]? := by decide
set_option maxRecDepth 100000 in
set_option maxHeartbeats 2000000 in
theorem sharpsR_ok (w : World) :
    Calls Tryd.prog 42 #[] w fun e w' => ∃ b, e = .returned (.slice (some ⟨b, 0, none⟩) 7 7) ∧ Row1 w' b shL ∧ Below w.heap.size w w' := by
  go_enter Tryd.func42, Tryd.ntmps42
  go_wp2_with fail
  go_ret
  refine ⟨w.heap.size, rfl, fun k x hx => ?_, (Below.refl _ _).alloc (Nat.le_refl _) _⟩
  match k, hx with
  | 0, hx => simp [shL] at hx; subst hx; simp
  | 1, hx => simp [shL] at hx; subst hx; simp
  | 2, hx => simp [shL] at hx; subst hx; simp
  | 3, hx => simp [shL] at hx; subst hx; simp
  | 4, hx => simp [shL] at hx; subst hx; simp
  | 5, hx => simp [shL] at hx; subst hx; simp
  | 6, hx => simp [shL] at hx; subst hx; simp
  | k + 7, hx => simp [shL] at hx
theorem infoI : (Tryd.prog.info? 3).map (fun i => (i.zero, i.size, i.bytes)) = some (some (.int .i64 0), 1, 8) := by kernel_rfl
def ints (l : List Int) : List Value := l.map (.int .i64)
theorem ints_snoc (l : List Int) (x : Int) : ints (l ++ [x]) = ints l ++ [.int .i64 x] := by simp [ints]
/-- what the loops of the reference's Signature keep -/
structure RS (w wr : World) (v : Value) (l : List Int) : Prop where
  bel : Bel w wr
  own : wr.ownsRow w.heap.size 3 1 v l.length (ints l)
theorem cell1_new (w : World) (x : Value) (t : TypeId) (n : Nat) (hn : n = w.heap.size) : ∀ (j : Nat) (u : Value), [x][j]? = some u → (w.alloc (.cells #[x] t)).cell? ((⟨n, 0, none⟩ : Addr).add j) = some u := by
  intro j u hj
  subst hn
  match j, hj with
  | 0, hj => simp at hj; subst hj; simp [Addr.add]
  | j + 1, hj => simp at hj
theorem ownUp {w w' : World} {base : Nat} {e : TypeId} {size : Nat} {v : Value} {n : Nat} {xs : List Value} (h : w.ownsRow base e size v n xs) (hb : Below w.heap.size w w') : w'.ownsRow base e size v n xs :=
  h.kept (row := none) ⟨hb.os, hb.tape, hb.output, hb.size, fun k hk _ => hb.block k hk⟩ (by cases v.ownBlock <;> simp)
theorem RS.up {w wr w' : World} {v : Value} {l : List Int} (h : RS w wr v l) (hb : Below wr.heap.size wr w') : RS w w' v l := ⟨h.bel.up hb, ownUp h.own hb⟩
set_option maxRecDepth 100000 in
set_option maxHeartbeats 2000000 in
theorem refSig_ok (f : Int) (w : World) (h : Sg f) :
    Calls Tryd.prog 33 #[.int .i64 f] w fun e w' => ∃ v, e = .returned v ∧ w'.ownsRow w.heap.size 3 1 v (sigL f).length (ints (sigL f)) ∧ Below w.heap.size w w' := by
  obtain ⟨i0, hi, hz0, hz1, hz2⟩ := info_parts infoI
  have HA := Lib.hid (show RS w w (.slice none 0 0) [] from ⟨Bel.refl w, World.ownsRow_nil _ _ _ _⟩)
  obtain ⟨f0, f1⟩ := h
  obtain ⟨F, hF⟩ : ∃ F : Nat, f.toNat = F := ⟨_, rfl⟩
  obtain ⟨G, hG⟩ : ∃ G : Nat, (-f).toNat = G := ⟨_, rfl⟩
  go_enter Tryd.func33, Tryd.ntmps33
  go_wp2_with fail
  go_loopg [3, 4] F (fun gm out i wr => ∃ k : Nat, k ≤ F ∧ gm = F - k ∧ i = .int .i64 (k : Int) ∧ Hid (RS w wr out (shL.take k)))
  case atStart => exact ⟨0, by omega, by omega, rfl, HA⟩
  case round =>
    obtain ⟨k, hk, rfl, rfl, HS⟩ := hrel
    clear HA
    by_cases hlt : k < F
    · go_wp2_with fail
      refine (sharpsR_ok _).mono ?_
      rintro e w1 ⟨b, rfl, hr, hb⟩
      obtain ⟨x, hx⟩ : ∃ x, shL[k]? = some x := ⟨_, List.getElem?_eq_getElem (by simp [shL]; omega)⟩
      have q1 := hr k x hx
      have HM := Lib.hid (show shL.take (k + 1) = shL.take k ++ [x] by rw [List.take_add_one, hx]; rfl)
      have HS2 := Lib.hid (HS.out.up hb)
      have hl := Lib.hid (show (shL.take k).length ≤ 7 by simp [shL]; omega)
      have hw : w.heap.size ≤ w1.heap.size := HS2.out.bel.size
      clear hr hx hb HS
      go_wp2_with (first | (at_builtin; refine wpList_append_own _ rfl _ _ 34 rfl w.heap.size 3 i0 (.int .i64 0) 1 8 Tryd.underlying34 hi hz0 hz1 hz2 rfl (by decide) _ _ _ rfl (HS2.out.own.alloc _) ⟨w1.heap.size, 0, none⟩ 1 1 [.int .i64 x] rfl rfl (cell1_new _ _ _ _ rfl) (by simp [Value.oneCell']) (by have := hl.out; unfold maxLen; omega) (by have := hl.out; omega) (by simp; omega) ?_; intro v' w2 hown' hgrow _))
      go_roundg (F - (k + 1))
      case measure => omega
      case rel =>
        refine ⟨k + 1, by omega, rfl, by go_num, Lib.hid ⟨Below.grown (HS2.out.bel.alloc _) hgrow (by simp; omega) (fun r hr => (HS2.out.own.lt r hr).1), ?_⟩⟩
        rw [HM.out, List.length_append, ints_snoc]
        exact hown'
    · have e : F = k := by omega
      subst e
      go_wp2_with fail
      go_loopg [3, 5] G (fun gm out i wr => ∃ j : Nat, j ≤ G ∧ gm = G - j ∧ i = .int .i64 (j : Int) ∧ Hid (RS w wr out (shL.take F ++ flL.take j)))
      case atStart => exact ⟨0, by omega, by omega, rfl, Lib.hid (by simpa using HS.out)⟩
      case round =>
        obtain ⟨j, hj, rfl, rfl, HS⟩ := hrel
        by_cases hlt : j < G
        · go_wp2_with fail
          refine (sharpsR_ok _).mono ?_
          rintro e w1 ⟨b, rfl, hr, hb⟩
          obtain ⟨x, hx⟩ : ∃ x, shL[6 - j]? = some x := ⟨_, List.getElem?_eq_getElem (by simp [shL]; omega)⟩
          have q1 := hr (6 - j) x hx
          have t1 : (6 - (j : Int)).toNat = 6 - j := by omega
          have HM := Lib.hid (show shL.take F ++ flL.take (j + 1) = (shL.take F ++ flL.take j) ++ [x] by rw [List.take_add_one, show flL[j]? = some x from (fl_at ⟨j, by omega⟩).trans hx, List.append_assoc]; rfl)
          have HS2 := Lib.hid (HS.out.up hb)
          have hl := Lib.hid (show (shL.take F ++ flL.take j).length ≤ 14 by simp [shL, flL]; omega)
          have hw : w.heap.size ≤ w1.heap.size := HS2.out.bel.size
          clear hr hx hb HS
          go_wp2_with (first | (at_builtin; refine wpList_append_own _ rfl _ _ 34 rfl w.heap.size 3 i0 (.int .i64 0) 1 8 Tryd.underlying34 hi hz0 hz1 hz2 rfl (by decide) _ _ _ rfl (HS2.out.own.alloc _) ⟨w1.heap.size, 0, none⟩ 1 1 [.int .i64 x] rfl rfl (cell1_new _ _ _ _ rfl) (by simp [Value.oneCell']) (by have := hl.out; unfold maxLen; omega) (by have := hl.out; omega) (by simp; omega) ?_; intro v' w2 hown' hgrow _))
          go_roundg (G - (j + 1))
          case measure => omega
          case rel =>
            refine ⟨j + 1, by omega, rfl, by go_num, Lib.hid ⟨Below.grown (HS2.out.bel.alloc _) hgrow (by simp; omega) (fun r hr => (HS2.out.own.lt r hr).1), ?_⟩⟩
            rw [HM.out, List.length_append, ints_snoc]
            exact hown'
        · have e : G = j := by omega
          subst e
          go_wp2_with fail
          go_ret
          exact ⟨_, rfl, by rw [sigL_both, hF, hG]; exact HS.out.own, HS.out.bel.out⟩
end Go.Proofs.YthdkfeehabpikaaDoor
