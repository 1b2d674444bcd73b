/- Accidentals: the reference's Key. -/
import Derived.Test.YthmdjpfjaojihaaDoorAp
namespace Go.Proofs.YthmdjpfjaojihaaDoor
open Go.RowKit
set_option linter.unusedVariables false
set_option linter.unusedSimpArgs false

def S7 : List Int := [3, 0, 4, 1, 5, 2, 6]
def S7a : Array Value := #[.int .i64 3, .int .i64 0, .int .i64 4, .int .i64 1, .int .i64 5, .int .i64 2, .int .i64 6]
theorem key_dec : ∀ f : Fin 15, ∀ r : Fin 7, (∀ k : Fin 7, (S7.getD k.val 9 = (r.val : Int) → (k.val : Int) < (f.val : Int) - 7 → alI ((f.val : Int) - 7) (r.val : Int) = 1) ∧ (S7.getD (6 - k.val) 9 = (r.val : Int) → (k.val : Int) < -((f.val : Int) - 7) → alI ((f.val : Int) - 7) (r.val : Int) = -1)) ∧
    ((∀ k : Fin 7, ¬ (S7.getD k.val 9 = (r.val : Int) ∧ (k.val : Int) < (f.val : Int) - 7) ∧ ¬ (S7.getD (6 - k.val) 9 = (r.val : Int) ∧ (k.val : Int) < -((f.val : Int) - 7))) → alI ((f.val : Int) - 7) (r.val : Int) = 0) := by decide +kernel
theorem key_all {f r : Int} (h : Sg f) (r0 : 0 ≤ r) (r1 : r ≤ 6) : (∀ k : Nat, k < 7 → (S7.getD k 9 = r → (k : Int) < f → alI f r = 1) ∧ (S7.getD (6 - k) 9 = r → (k : Int) < -f → alI f r = -1)) ∧
    ((∀ k : Nat, k < 7 → ¬ (S7.getD k 9 = r ∧ (k : Int) < f) ∧ ¬ (S7.getD (6 - k) 9 = r ∧ (k : Int) < -f)) → alI f r = 0) := by
  obtain ⟨f0, f1⟩ := h
  obtain ⟨F, hF, rfl⟩ : ∃ F : Nat, F < 15 ∧ f = (F : Int) - 7 := ⟨(f + 7).toNat, by omega, by omega⟩
  obtain ⟨R, hR, rfl⟩ : ∃ R : Nat, R < 7 ∧ r = (R : Int) := ⟨r.toNat, by omega, by omega⟩
  obtain ⟨h1, h2⟩ := key_dec ⟨F, hF⟩ ⟨R, hR⟩
  exact ⟨fun k hk => h1 ⟨k, hk⟩, fun hk => h2 (fun k => hk k.val k.isLt)⟩
def S7At (w : World) (g : Nat) : Prop := ∀ k : Nat, k < 7 → w.cell? ⟨g, k, none⟩ = some (.int .i64 (S7.getD k 9))
theorem S7At.up {w w' : World} {g : Nat} (h : S7At w g) (hb : Below w.heap.size w w') : S7At w' g := fun k hk => cell_up hb (h k hk)
theorem S7At.new (w : World) (t : TypeId) (b : Nat) (hb : b = w.heap.size) : S7At (w.alloc (.cells S7a t)) b := fun k hk => by
  have hc := tab_new w S7a t b hb
  match k, hk with
  | 0, _ => exact hc _ _ rfl
  | 1, _ => exact hc _ _ rfl
  | 2, _ => exact hc _ _ rfl
  | 3, _ => exact hc _ _ rfl
  | 4, _ => exact hc _ _ rfl
  | 5, _ => exact hc _ _ rfl
  | 6, _ => exact hc _ _ rfl
  | k + 7, h => omega
set_option maxRecDepth 100000 in
set_option maxHeartbeats 2000000 in
theorem keyR_ok (f r : Int) (w : World) (h : Sg f) (r0 : 0 ≤ r) (r1 : r ≤ 6) :
    Calls Tryd.prog 20 #[.int .i64 f, .int .i64 r] w fun e w' => e = .returned (.int .i64 (alI f r)) ∧ Below w.heap.size w w' := by
  have HA := Lib.hid (key_all h r0 r1)
  obtain ⟨f0, f1⟩ := h
  have B0 := Lib.hid ((Bel.refl w).alloc (.cells S7a 3))
  have C0 := Lib.hid (S7At.new w 3 w.heap.size rfl)
  go_enter Tryd.func20, Tryd.ntmps20
  go_wp2_with fail
  go_loopg [6] 7 (fun gm i wr => ∃ k : Nat, k ≤ 7 ∧ gm = 7 - k ∧ i = .int .i64 (k : Int) ∧ Hid (∀ j : Nat, j < k → ¬ (S7.getD j 9 = r ∧ (j : Int) < f) ∧ ¬ (S7.getD (6 - j) 9 = r ∧ (j : Int) < -f)) ∧ Hid (S7At wr w.heap.size) ∧ Hid (Bel w wr))
  case atStart => exact ⟨0, by omega, by omega, rfl, Lib.hid (fun j hj => absurd hj (by omega)), C0, B0⟩
  case round =>
    obtain ⟨k, hk, rfl, rfl, HN, HC, HB⟩ := hrel
    clear B0 C0
    by_cases hlt : k < 7
    · have q1 := HC.out k hlt
      have q2 := HC.out (6 - k) (by omega)
      have HX := Lib.hid (HA.out.1 k hlt)
      obtain ⟨x, hx⟩ : ∃ x, S7.getD k 9 = x := ⟨_, rfl⟩
      obtain ⟨y, hy⟩ : ∃ y, S7.getD (6 - k) 9 = y := ⟨_, rfl⟩
      rw [hx] at q1 HX
      rw [hy] at q2 HX
      have e6 : (6 - (k : Int)).toNat = 6 - k := by omega
      have HX1 := Lib.hid hx
      have HY1 := Lib.hid hy
      clear hx hy
      by_cases hm : x = r
      · have e0 : (x == r) = true := by simpa using hm
        have e0' : (r == x) = true := by simpa using hm.symm
        by_cases hf : (k : Int) < f
        · have HR := Lib.hid (HX.out.1 hm hf)
          have hfd : decide ((k : Int) < f) = true := by simpa using hf
          clear hm
          go_wp2_with fail
          go_ret
          exact ⟨by first | (rw [HR.out]; done) | (rw [HR.out]; rfl), HB.out.out⟩
        · have hfd : decide ((k : Int) < f) = false := by simpa using hf
          have HM := Lib.hid hm
          clear hm
          by_cases hm2 : y = r
          · have g0 : (y == r) = true := by simpa using hm2
            by_cases hg : (k : Int) < -f
            · have HR := Lib.hid (HX.out.2 hm2 hg)
              have hgd : decide ((k : Int) < -f) = true := by simpa using hg
              clear hm2
              go_wp2_with fail
              go_ret
              exact ⟨by first | (rw [HR.out]; done) | (rw [HR.out]; rfl), HB.out.out⟩
            · have hgd : decide ((k : Int) < -f) = false := by simpa using hg
              have HM2 := Lib.hid hm2
              clear hm2
              go_wp2_with fail
              go_roundg (7 - (k + 1))
              case measure => omega
              case rel => exact ⟨k + 1, by omega, rfl, by go_num, Lib.hid (fun j hj => by
                by_cases e : j = k
                · subst e
                  rw [HX1.out, HY1.out]
                  exact ⟨fun h => by first | exact HM.out h.1 | (have := h.2; omega), fun h => by first | exact HM2.out h.1 | (have := h.2; omega)⟩
                · exact HN.out j (by omega)), HC, HB⟩
          · have g0 : (y == r) = false := by simpa using hm2
            have HM2 := Lib.hid hm2
            clear hm2
            go_wp2_with fail
            go_roundg (7 - (k + 1))
            case measure => omega
            case rel => exact ⟨k + 1, by omega, rfl, by go_num, Lib.hid (fun j hj => by
              by_cases e : j = k
              · subst e
                rw [HX1.out, HY1.out]
                exact ⟨fun h => by first | exact HM.out h.1 | (have := h.2; omega), fun h => by first | exact HM2.out h.1 | (have := h.2; omega)⟩
              · exact HN.out j (by omega)), HC, HB⟩
      · have e0 : (x == r) = false := by simpa using hm
        have e0' : (r == x) = false := by simpa using fun h => hm h.symm
        have HM := Lib.hid hm
        clear hm
        by_cases hm2 : y = r
        · have g0 : (y == r) = true := by simpa using hm2
          by_cases hg : (k : Int) < -f
          · have HR := Lib.hid (HX.out.2 hm2 hg)
            have hgd : decide ((k : Int) < -f) = true := by simpa using hg
            clear hm2
            go_wp2_with fail
            go_ret
            exact ⟨by first | (rw [HR.out]; done) | (rw [HR.out]; rfl), HB.out.out⟩
          · have hgd : decide ((k : Int) < -f) = false := by simpa using hg
            have HM2 := Lib.hid hm2
            clear hm2
            go_wp2_with fail
            go_roundg (7 - (k + 1))
            case measure => omega
            case rel => exact ⟨k + 1, by omega, rfl, by go_num, Lib.hid (fun j hj => by
              by_cases e : j = k
              · subst e
                rw [HX1.out, HY1.out]
                exact ⟨fun h => by first | exact HM.out h.1 | (have := h.2; omega), fun h => by first | exact HM2.out h.1 | (have := h.2; omega)⟩
              · exact HN.out j (by omega)), HC, HB⟩
        · have g0 : (y == r) = false := by simpa using hm2
          have HM2 := Lib.hid hm2
          clear hm2
          go_wp2_with fail
          go_roundg (7 - (k + 1))
          case measure => omega
          case rel => exact ⟨k + 1, by omega, rfl, by go_num, Lib.hid (fun j hj => by
            by_cases e : j = k
            · subst e
              rw [HX1.out, HY1.out]
              exact ⟨fun h => by first | exact HM.out h.1 | (have := h.2; omega), fun h => by first | exact HM2.out h.1 | (have := h.2; omega)⟩
            · exact HN.out j (by omega)), HC, HB⟩
    · obtain rfl : k = 7 := by omega
      go_wp2_with fail
      go_ret
      exact ⟨by first | (rw [HA.out.2 HN.out]; done) | (rw [HA.out.2 HN.out]; rfl), HB.out.out⟩
end Go.Proofs.YthmdjpfjaojihaaDoor
