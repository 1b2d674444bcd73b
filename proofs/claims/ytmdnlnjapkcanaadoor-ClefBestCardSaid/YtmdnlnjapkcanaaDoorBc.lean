/- Clefs: Best. -/
import Derived.Test.YtmdnlnjapkcanaaDoorBa
import Derived.Test.YtmdnlnjapkcanaaDoorBb
namespace Go.Proofs.YtmdnlnjapkcanaaDoor
open Go.RowKit
set_option linter.unusedVariables false
set_option linter.unusedSimpArgs false

def FilB (w : World) (b n : Nat) (vs : Nat → Bool) : Prop := ∀ j : Nat, j < n → w.cell? ⟨b, j, none⟩ = some (.bool (vs j)) ∧ w.frozen? ⟨b, j, none⟩ = false
theorem FilB.up {w w' : World} {b n : Nat} {vs : Nat → Bool} (h : FilB w b n vs) (hb : Below w.heap.size w w') : FilB w' b n vs := fun j hj => ⟨cell_up hb (h j hj).1, (hb.frozen (p := ⟨b, j, none⟩) (lt_of_cell (h j hj).1)).trans (h j hj).2⟩
theorem FilB.set {w : World} {b n : Nat} {vs : Nat → Bool} (h : FilB w b n vs) (i : Nat) (hi : i < n) (u : Bool) : FilB (w.setCell ⟨b, i, none⟩ (.bool u)) b n (fun j => if j = i then u else vs j) := by
  intro j hj
  have hi' := h i hi
  have hj' := h j hj
  by_cases e : j = i
  · subst e
    simp [go_sem, hi'.1, hi'.2]
  · have e' : i ≠ j := fun h => e h.symm
    simp [go_sem, hj'.1, hj'.2, e, e']
theorem filB_new (w : World) (n : Nat) (t : TypeId) (hn : n = w.heap.size) : FilB (w.alloc (.cells #[.bool false, .bool false, .bool false, .bool false, .bool false, .bool false, .bool false, .bool false, .bool false, .bool false] t)) n 10 (fun _ => false) := by
  intro j hj
  subst hn
  match j, hj with
  | 0, _ => exact ⟨by simp, by simp [go_sem]⟩
  | 1, _ => exact ⟨by simp, by simp [go_sem]⟩
  | 2, _ => exact ⟨by simp, by simp [go_sem]⟩
  | 3, _ => exact ⟨by simp, by simp [go_sem]⟩
  | 4, _ => exact ⟨by simp, by simp [go_sem]⟩
  | 5, _ => exact ⟨by simp, by simp [go_sem]⟩
  | 6, _ => exact ⟨by simp, by simp [go_sem]⟩
  | 7, _ => exact ⟨by simp, by simp [go_sem]⟩
  | 8, _ => exact ⟨by simp, by simp [go_sem]⟩
  | 9, _ => exact ⟨by simp, by simp [go_sem]⟩
set_option maxRecDepth 100000 in
set_option maxHeartbeats 2000000 in
theorem best_err (zs : List Int) (L : List (Int × Int × Int)) (E : Int) (a1 a2 : Option Addr) (cap1 cap2 : Nat) (w : World) (hE : Ev zs L E) (hz : zs.length ≤ 9) (hl : L.length ≤ 20) (hc : CW w) (h1 : IntAt w a1 zs) (h2 : PitAt w a2 L) (hne : E ≠ 0) :
    Calls Tryd.prog 27 #[.slice a1 zs.length cap1, .slice a2 L.length cap2] w fun e w' => e = .returned (.tuple #[.int .i64 0, .int .i64 E]) ∧ Below w.heap.size w w' := by
  have KA := Lib.hid (fun v hv i1 i2 => checkAll_ok zs L E a1 a2 cap1 cap2 v hE hz hl hv i1 i2)
  have HA := Lib.hid h1
  have HB := Lib.hid h2
  clear h1 h2 hE
  have B0 := Lib.hid (Bel.refl w)
  have C0 := Lib.hid hc
  go_enter Tryd.func27, Tryd.ntmps27
  go_wp2_with fail
  refine (KA.out _ C0.out HA.out HB.out).mono ?_
  rintro e w1 ⟨rfl, hb⟩
  have B1 := Lib.hid (B0.out.up hb)
  have C1 := Lib.hid (C0.out.below hb)
  clear hb B0 C0 
  go_wp2_with fail
  go_ret2
  exact ⟨rfl, B1.out.out⟩
set_option maxRecDepth 100000 in
set_option maxHeartbeats 2000000 in
theorem best_fine (zs : List Int) (L : List (Int × Int × Int)) (a1 a2 : Option Addr) (cap1 cap2 : Nat) (w : World) (hE : Ev zs L 0) (hz : zs.length ≤ 9) (hl : L.length ≤ 20) (hc : CW w) (h1 : IntAt w a1 zs) (h2 : PitAt w a2 L) (hn : zs ≠ []) (hcl : ∀ z ∈ zs, Cl z) (hpit : ∀ q ∈ L, Pit q.1 q.2.1 q.2.2) :
    Calls Tryd.prog 27 #[.slice a1 zs.length cap1, .slice a2 L.length cap2] w fun e w' => e = .returned (.tuple #[.int .i64 (bst (fun c => lnsI c L) zs), .int .i64 0]) ∧ Below w.heap.size w w' := by
  have KA := Lib.hid (fun v hv i1 i2 => checkAll_ok zs L 0 a1 a2 cap1 cap2 v hE hz hl hv i1 i2)
  have KL := Lib.hid (fun c hc v hv i2 => ledgers_ok c L a2 cap2 v hc hpit hl hv i2)
  have HA := Lib.hid h1
  have HB := Lib.hid h2
  have HC := Lib.hid hc
  have HCl := Lib.hid hcl
  have HLe := Lib.hid (fun c => lnsI_le c L)
  have HN := Lib.hid hn
  clear h1 h2 hE hcl hpit hn
  have B0 := Lib.hid (Bel.refl w)
  have C0 := Lib.hid hc
  go_enter Tryd.func27, Tryd.ntmps27
  go_wp2_with fail
  refine (KA.out _ C0.out HA.out HB.out).mono ?_
  rintro e w1 ⟨rfl, hb⟩
  have B1 := Lib.hid (B0.out.up hb)
  have C1 := Lib.hid (C0.out.below hb)
  clear hb B0 C0 
  have B2 := Lib.hid (B1.out.alloc (.cells #[.bool false, .bool false, .bool false, .bool false, .bool false, .bool false, .bool false, .bool false, .bool false, .bool false] 70))
  have F2 := Lib.hid (filB_new w1 w1.heap.size 70 rfl)
  have hsz : w.heap.size ≤ w1.heap.size := B1.out.size
  clear B1 C1
  go_wp2_with fail
  generalize (w1.alloc (.cells #[.bool false, .bool false, .bool false, .bool false, .bool false, .bool false, .bool false, .bool false, .bool false, .bool false] 70)) = w2 at *
  generalize w1.heap.size = g at *
  obtain ⟨f, hf⟩ : ∃ f : Int → Nat, (fun c => lnsI c L) = f := ⟨_, rfl⟩
  have HF := Lib.hid (fun c => congrFun hf c)
  have HG := Lib.hid hf
  clear hf
  go_loopg [7, 8, 21] zs.length (fun gm bb ll i wr => ∃ (k : Nat) (vs : Nat → Bool) (B : Int) (M : Nat), k ≤ zs.length ∧ gm = zs.length - k ∧ i = .int .i64 (k : Int) ∧ bb = .int .i64 B ∧ ll = .int .i64 (M : Int) ∧ Hid (FilB wr g 10 vs) ∧ Hid (∀ z, Cl z → (vs z.toNat = true ↔ z ∈ zs.take k)) ∧ Hid (k = 0 ∧ B = 0 ∨ 0 < k ∧ B = bst f (zs.take k) ∧ M = f B) ∧ Hid (Bel w wr))
  case atStart => exact ⟨0, fun _ => false, 0, 0, by omega, by omega, rfl, rfl, rfl, F2, Lib.hid (fun z _ => by simp), Lib.hid (.inl ⟨rfl, rfl⟩), B2⟩
  case round =>
    obtain ⟨k, vs, B, M, hk, rfl, rfl, rfl, rfl, HV, HS, HM, HW⟩ := hrel
    clear F2 B2
    by_cases hlt : k < zs.length
    · obtain ⟨c, hcz⟩ : ∃ c, zs[k]? = some c := ⟨_, List.getElem?_eq_getElem hlt⟩
      obtain ⟨b, off, rfl, q0⟩ := (HA.out.up HW.out.out) k c hcz
      have hc1 := Lib.hid (HCl.out c (List.mem_of_getElem? hcz))
      obtain ⟨c0, c9⟩ := hc1.out
      have HZ := Lib.hid (take_snoc hcz)
      obtain ⟨v0, v1⟩ := HV.out c.toNat (by omega)
      clear hcz
      have cn : c.toNat < 10 := by omega
      cases hvc : vs c.toNat with
      | true =>
        have hmem := Lib.hid ((HS.out c hc1.out).1 hvc)
        rw [hvc] at v0
        clear hvc
        go_wp2_with fail
        go_roundg (zs.length - (k + 1))
        case measure => omega
        case rel =>
          refine ⟨k + 1, vs, B, M, by omega, rfl, by go_num, rfl, rfl, HV, Lib.hid (fun z hz => ?_), Lib.hid (.inr ?_), HW⟩
          · rw [HZ.out, HS.out z hz]
            simp
            rintro rfl
            exact hmem.out
          · have hk0 : 0 < k := by
              rcases Nat.eq_zero_or_pos k with h | h
              · subst h; have := hmem.out; simp at this
              · exact h
            rcases HM.out with ⟨h, _⟩ | ⟨_, hB, hM⟩
            · omega
            · have hle := (bst_mem_le (f := f) (zs.take k) (take_ne hk0 hk)).2 c hmem.out
              refine ⟨by omega, ?_, hM⟩
              rw [HZ.out, bst_snoc (take_ne hk0 hk), if_neg (by omega)]
              exact hB
      | false =>
        rw [hvc] at v0
        clear hvc
        have V3 := Lib.hid (HV.out.set c.toNat cn true)
        have W3 := Lib.hid (HW.out.set (b := g) (by omega) c.toNat (.bool true))
        have HS3 := Lib.hid (show ∀ z, Cl z → ((fun j => if j = c.toNat then true else vs j) z.toNat = true ↔ z ∈ zs.take (k + 1)) from fun z hz => by
          show (if z.toNat = c.toNat then true else vs z.toNat) = true ↔ _
          rw [HZ.out]
          have h0 := hz.c0
          by_cases e : z = c
          · subst e; simp
          · rw [if_neg (by omega), HS.out z hz]; simp [e])
        go_wp2_with fail
        refine (KL.out c hc1.out _ (HC.out.below W3.out.out) (HB.out.up W3.out.out)).mono ?_
        rintro e w4 ⟨rfl, hb⟩
        have V4 := Lib.hid (V3.out.up hb)
        have W4 := Lib.hid (W3.out.up hb)
        have hfc := HF.out c
        have hle := HLe.out c
        have e1 : (lnsI c L : Int) = (f c : Int) := by rw [← hfc]
        rw [e1]
        have hfl : f c ≤ 20000 := by rw [← hfc]; show lnsI c L ≤ 20000; omega
        clear hb V3 W3 v0 v1 q0 HV HW hfc hle e1
        obtain ⟨N, hN⟩ : ∃ N, f c = N := ⟨_, rfl⟩
        rw [hN]
        have HNf := Lib.hid hN
        rw [hN] at hfl
        clear hN
        by_cases hk0 : k = 0
        · have hb0 : B = 0 := by rcases HM.out with ⟨_, h⟩ | ⟨h, _⟩; exact h; omega
          have hm := Lib.hid (show zs.take (k + 1) = [c] by rw [HZ.out, hk0]; rfl)
          subst hb0
          go_wp2_with fail
          go_roundg (zs.length - (k + 1))
          case measure => omega
          case rel => exact ⟨k + 1, _, c, N, by omega, rfl, by go_num, rfl, rfl, V4, HS3, Lib.hid (.inr ⟨by omega, by rw [hm.out]; rfl, HNf.out.symm⟩), W4⟩
        · have hBM := Lib.hid (show B = bst f (zs.take k) ∧ M = f B by rcases HM.out with ⟨h, _⟩ | ⟨_, h⟩; omega; exact h)
          have hcB := (HCl.out B (by rw [hBM.out.1]; exact List.mem_of_mem_take (bst_mem_le (f := f) (zs.take k) (take_ne (by omega) hk)).1)).c0
          have hb0 : (B == 0) = false := by simp; omega
          have hb1 : ¬ B = 0 := by omega
          by_cases hlt2 : N < M
          · have hlt3 : (N : Int) < (M : Int) := by omega
            have hR := Lib.hid (show c = bst f (zs.take (k + 1)) by rw [HZ.out, bst_snoc (take_ne (by omega) hk), ← hBM.out.1, if_pos (by rw [HNf.out, ← hBM.out.2]; exact hlt2)])
            go_wp2_with fail
            go_roundg (zs.length - (k + 1))
            case measure => omega
            case rel => exact ⟨k + 1, _, c, N, by omega, rfl, by go_num, rfl, rfl, V4, HS3, Lib.hid (.inr ⟨by omega, hR.out, HNf.out.symm⟩), W4⟩
          · have hlt3 : ¬ (N : Int) < (M : Int) := by omega
            have hR := Lib.hid (show B = bst f (zs.take (k + 1)) by rw [HZ.out, bst_snoc (take_ne (by omega) hk), ← hBM.out.1, if_neg (by rw [HNf.out, ← hBM.out.2]; exact hlt2)])
            go_wp2_with fail
            go_roundg (zs.length - (k + 1))
            case measure => omega
            case rel => exact ⟨k + 1, _, B, M, by omega, rfl, by go_num, rfl, rfl, V4, HS3, Lib.hid (.inr ⟨by omega, hR.out, hBM.out.2⟩), W4⟩
    · obtain rfl : k = zs.length := by omega
      have hR := Lib.hid (show B = bst f zs by
        rcases HM.out with ⟨h, _⟩ | ⟨_, h, _⟩
        · exact absurd (List.length_eq_zero_iff.1 h) HN.out
        · rwa [List.take_length] at h)
      go_wp2_with fail
      go_ret2
      exact ⟨by rw [hR.out, HG.out]; rfl, HW.out.out⟩
end Go.Proofs.YtmdnlnjapkcanaaDoor
