/- Clefs: the reference's Steps. -/
import Derived.Test.YtmdnlnjapkcanaaDoorCj
namespace Go.Proofs.YtmdnlnjapkcanaaDoor
open Go.RowKit
set_option linter.unusedVariables false
set_option linter.unusedSimpArgs false

def shL : List Int := [3, 0, 4, 1, 5, 2, 6]
def flL : List Int := [6, 2, 5, 1, 4, 0, 3]
theorem sigL_both {f : Int} : sigL f = shL.take f.toNat ++ flL.take (-f).toNat := by
  unfold sigL shL flL
  split
  · rename_i h
    rw [show (-f).toNat = 0 by omega]; simp
  · rename_i h
    rw [show f.toNat = 0 by omega]; simp
theorem fl_at : ∀ j : Fin 7, flL[j.val]? = shL[6 - j.val]? := by decide
theorem own_mono {W : World} {base base' : Nat} {e : TypeId} {size : Nat} {v : Value} {k : Nat} {xs : List Value} (h : W.ownsRow base e size v k xs) (hb : base' ≤ base) : W.ownsRow base' e size v k xs := by
  refine ⟨h.1, ?_⟩
  rcases h.2 with h2 | ⟨g, cap, cur, hv, hg, r⟩
  · exact .inl h2
  · exact .inr ⟨g, cap, cur, hv, by omega, r⟩
theorem shL_new (w : World) (g : Nat) (hg : g = w.heap.size) : Row1 (w.alloc (.cells #[.int .i64 3, .int .i64 0, .int .i64 4, .int .i64 1, .int .i64 5, .int .i64 2, .int .i64 6] 3)) g shL := by
  intro k x hx
  refine tab_new w _ _ g hg k _ ?_
  match k, hx with
  | 0, hx => simp [shL] at hx; subst hx; rfl
  | 1, hx => simp [shL] at hx; subst hx; rfl
  | 2, hx => simp [shL] at hx; subst hx; rfl
  | 3, hx => simp [shL] at hx; subst hx; rfl
  | 4, hx => simp [shL] at hx; subst hx; rfl
  | 5, hx => simp [shL] at hx; subst hx; rfl
  | 6, hx => simp [shL] at hx; subst hx; rfl
  | k + 7, hx => simp [shL] at hx
set_option maxRecDepth 100000 in
set_option maxHeartbeats 4000000 in
theorem steps_ok (f : Int) (w : World) (h : Sg f) :
    Calls Tryd.prog 26 #[.int .i64 f] w fun e w' => ∃ v, e = .returned v ∧ w'.ownsRow w.heap.size 3 1 v (sigL f).length (ints (sigL f)) ∧ Below w.heap.size w w' := by
  obtain ⟨i0, hi, hz0, hz1, hz2⟩ := info_parts infoI
  obtain ⟨f0, f1⟩ := h
  have HL := Lib.hid (sigL_both (f := f))
  obtain ⟨F, hF⟩ : ∃ F : Nat, f.toNat = F := ⟨_, rfl⟩
  obtain ⟨G, hG⟩ : ∃ G : Nat, (-f).toNat = G := ⟨_, rfl⟩
  rw [hF, hG] at HL
  have B0 := Lib.hid ((Bel.refl w).alloc (.cells #[.int .i64 3, .int .i64 0, .int .i64 4, .int .i64 1, .int .i64 5, .int .i64 2, .int .i64 6] 3))
  have R0 := Lib.hid (shL_new w w.heap.size rfl)
  have hs0 : (w.alloc (.cells #[.int .i64 3, .int .i64 0, .int .i64 4, .int .i64 1, .int .i64 5, .int .i64 2, .int .i64 6] 3)).heap.size = w.heap.size + 1 := by simp
  go_enter Tryd.func26, Tryd.ntmps26
  go_wp2_with fail
  generalize hW : w.alloc (.cells #[.int .i64 3, .int .i64 0, .int .i64 4, .int .i64 1, .int .i64 5, .int .i64 2, .int .i64 6] 3) = W at *
  have HA := Lib.hid (show RS W W (.slice none 0 0) [] from ⟨Bel.refl W, World.ownsRow_nil _ _ _ _⟩)
  clear hW
  go_loopg [4, 5] F (fun gm out i wr => ∃ k : Nat, k ≤ F ∧ gm = F - k ∧ i = .int .i64 (k : Int) ∧ Hid (RS W wr out (shL.take k)))
  case atStart => exact ⟨0, by omega, by omega, rfl, HA⟩
  case round =>
    obtain ⟨k, hk, rfl, rfl, HS⟩ := hrel
    clear HA
    by_cases hlt : k < F
    · obtain ⟨x, hx⟩ : ∃ x, shL[k]? = some x := ⟨_, List.getElem?_eq_getElem (by simp [shL]; omega)⟩
      have q1 := (R0.out.up HS.out.bel.out) k x hx
      have HM := Lib.hid (show shL.take (k + 1) = shL.take k ++ [x] by rw [List.take_add_one, hx]; rfl)
      have hl := Lib.hid (show (shL.take k).length ≤ 7 by simp [shL]; omega)
      have hw : W.heap.size ≤ wr.heap.size := HS.out.bel.size
      clear hx
      go_wp2_with (first | (at_builtin; refine wpList_append_own _ rfl _ _ 41 rfl W.heap.size 3 i0 (.int .i64 0) 1 8 Tryd.underlying41 hi hz0 hz1 hz2 rfl (by decide) _ _ _ rfl (HS.out.own.alloc _) ⟨wr.heap.size, 0, none⟩ 1 1 [.int .i64 (x)] rfl rfl (cell1_new _ _ _ _ rfl) (by simp [Value.oneCell']) (by have := hl.out; unfold maxLen; omega) (by have := hl.out; omega) (by simp; omega) ?_; intro v' w2 hown' hgrow _))
      go_roundg (F - (k + 1))
      case measure => omega
      case rel =>
        refine ⟨k + 1, by omega, rfl, by go_num, Lib.hid ⟨Below.grown (HS.out.bel.alloc _) hgrow (by simp; omega) (fun r hr => (HS.out.own.lt r hr).1), ?_⟩⟩
        rw [HM.out, List.length_append, ints_snoc]
        exact hown'
    · have e : F = k := by omega
      subst e
      go_wp2_with fail
      go_loopg [4, 6] G (fun gm out i wr => ∃ j : Nat, j ≤ G ∧ gm = G - j ∧ i = .int .i64 (j : Int) ∧ Hid (RS W wr out (shL.take F ++ flL.take j)))
      case atStart => exact ⟨0, by omega, by omega, rfl, Lib.hid (by simpa using HS.out)⟩
      case round =>
        obtain ⟨j, hj, rfl, rfl, HS⟩ := hrel
        by_cases hlt : j < G
        · obtain ⟨x, hx⟩ : ∃ x, shL[6 - j]? = some x := ⟨_, List.getElem?_eq_getElem (by simp [shL]; omega)⟩
          have q1 := (R0.out.up HS.out.bel.out) (6 - j) x hx
          have t1 : (6 - (j : Int)).toNat = 6 - j := by omega
          have HM := Lib.hid (show shL.take F ++ flL.take (j + 1) = (shL.take F ++ flL.take j) ++ [x] by rw [List.take_add_one, show flL[j]? = some x from (fl_at ⟨j, by omega⟩).trans hx, List.append_assoc]; rfl)
          have hl := Lib.hid (show (shL.take F ++ flL.take j).length ≤ 14 by simp [shL, flL]; omega)
          have hw : W.heap.size ≤ wr.heap.size := HS.out.bel.size
          clear hx
          go_wp2_with (first | (at_builtin; refine wpList_append_own _ rfl _ _ 41 rfl W.heap.size 3 i0 (.int .i64 0) 1 8 Tryd.underlying41 hi hz0 hz1 hz2 rfl (by decide) _ _ _ rfl (HS.out.own.alloc _) ⟨wr.heap.size, 0, none⟩ 1 1 [.int .i64 (x)] rfl rfl (cell1_new _ _ _ _ rfl) (by simp [Value.oneCell']) (by have := hl.out; unfold maxLen; omega) (by have := hl.out; omega) (by simp; omega) ?_; intro v' w2 hown' hgrow _))
          go_roundg (G - (j + 1))
          case measure => omega
          case rel =>
            refine ⟨j + 1, by omega, rfl, by go_num, Lib.hid ⟨Below.grown (HS.out.bel.alloc _) hgrow (by simp; omega) (fun r hr => (HS.out.own.lt r hr).1), ?_⟩⟩
            rw [HM.out, List.length_append, ints_snoc]
            exact hown'
        · have e : G = j := by omega
          subst e
          go_wp2_with fail
          go_ret
          exact ⟨_, rfl, by rw [HL.out]; exact own_mono HS.out.own (by omega), B0.out.out.trans (HS.out.bel.out.mono (by omega))⟩
end Go.Proofs.YtmdnlnjapkcanaaDoor
