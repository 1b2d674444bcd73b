/- Accidentals: the signature of a measure. -/
import Derived.Test.YthmdjpfjaojihaaDoorAb
import Derived.Deep.MidRow
import Derived.Laws.ResultCell
namespace Go.Proofs.YthmdjpfjaojihaaDoor
open Go.RowKit
set_option linter.unusedVariables false
set_option linter.unusedSimpArgs false

/-- the alterations in force under a signature -/
def frI (f : Int) (i : Nat) : Int := alI f ((i % 7 : Nat) : Int)
/-- 77 numbers as values -/
def arL (vs : Nat → Int) : List Value := (List.range 77).map fun i => Value.int .i64 (vs i)
theorem arL_len (vs : Nat → Int) : (arL vs).length = 77 := by simp [arL]
theorem arL_at (vs : Nat → Int) {j : Nat} (h : j < 77) : (arL vs)[j]? = some (.int .i64 (vs j)) := by simp [arL, h]
theorem arL_eq {vs us : Nat → Int} (h : ∀ j, j < 77 → vs j = us j) : arL vs = arL us := by
  unfold arL
  apply List.map_congr_left
  intro i hi
  rw [h i (by simpa using hi)]
theorem arL_one (vs : Nat → Int) : (arL vs).toArray.all (·.oneCell') = true := all_oneCell_toArray (fun v hv => by
  unfold arL at hv
  simp only [List.mem_map] at hv
  obtain ⟨i, _, rfl⟩ := hv
  rfl)
def z77 : Array Value := (arL fun _ => 0).toArray
theorem zero77 (w : World) : (zeroValue 58).run Tryd.prog w = .ok (.agg z77) w := by kernel_rfl
theorem size77 : (Tryd.prog.info? 58).map (·.size) = some 77 := by kernel_rfl
theorem tab_new (w : World) (xs : Array Value) (t : TypeId) (n : Nat) (hn : n = w.heap.size) : ∀ (i : Nat) (v : Value), xs[i]? = some v → (w.alloc (.cells xs t)).cell? ⟨n, i, none⟩ = some v := by
  intro i v h
  subst hn
  simp [h]
/-- n cells of a block that the call made -/
def Fil (w : World) (b n : Nat) (vs : Nat → Int) : Prop := ∀ j : Nat, j < n → w.cell? ⟨b, j, none⟩ = some (.int .i64 (vs j)) ∧ w.frozen? ⟨b, j, none⟩ = false
theorem Fil.lt {w : World} {b n : Nat} {vs : Nat → Int} (h : Fil w b n vs) (hn : 0 < n) : b < w.heap.size := lt_of_cell (h 0 hn).1
theorem Fil.up {w w' : World} {b n : Nat} {vs : Nat → Int} (h : Fil w b n vs) (hb : Below w.heap.size w w') : Fil w' b n vs := fun j hj => ⟨cell_up hb (h j hj).1, (hb.frozen (p := ⟨b, j, none⟩) (lt_of_cell (h j hj).1)).trans (h j hj).2⟩
theorem Fil.eq {w : World} {b n : Nat} {vs us : Nat → Int} (h : Fil w b n vs) (e : ∀ j, j < n → vs j = us j) : Fil w b n us := fun j hj => by rw [← e j hj]; exact h j hj
theorem Fil.set {w : World} {b n : Nat} {vs : Nat → Int} (h : Fil w b n vs) (i : Nat) (hi : i < n) (u : Int) : Fil (w.setCell ⟨b, i, none⟩ (.int .i64 u)) b n (fun j => if j = i then u else vs j) := by
  intro j hj
  have hi' := h i hi
  have hj' := h j hj
  by_cases e : j = i
  · subst e
    simp [go_sem, hi'.1, hi'.2]
  · have e' : i ≠ j := fun h => e h.symm
    simp [go_sem, hj'.1, hj'.2, e, e']
theorem Fil.other {w : World} {b c i n : Nat} {vs : Nat → Int} {u : Value} (h : Fil w b n vs) (hn : c ≠ b) : Fil (w.setCell ⟨c, i, none⟩ u) b n vs := fun j hj => by
  obtain ⟨h1, h2⟩ := h j hj
  have hn' : b ≠ c := fun e => hn e.symm
  exact ⟨by simp [go_sem, *], by simp [go_sem, *]⟩
theorem Fil.new (w : World) (t : TypeId) (n : Nat) (hn : n = w.heap.size) : Fil (w.alloc (.cells z77 t)) n 77 (fun _ => 0) := by
  intro j hj
  refine ⟨tab_new w z77 t n hn j _ (by simp [z77, arL, hj]), ?_⟩
  subst hn
  simp [go_sem]
theorem Fil.range {w : World} {b : Nat} {vs : Nat → Int} (h : Fil w b 77 vs) : w.rangeAt b 0 (arL vs) := fun j v hv => by
  have hj : j < 77 := by have := (List.getElem?_eq_some_iff.1 hv).1; rwa [arL_len] at this
  rw [arL_at vs hj] at hv
  cases hv
  rw [Nat.zero_add]
  exact (h j hj).1
theorem Fil.there {w : World} {b : Nat} {vs : Nat → Int} (h : Fil w b 77 vs) (us : Nat → Int) : w.there b 0 (arL us).toArray.size := fun j hj => by
  have hj : j < 77 := by simpa [arL_len] using hj
  rw [Nat.zero_add]
  exact ⟨by rw [(h j hj).1]; rfl, (h j hj).2⟩
/-- a whole array stored -/
theorem Fil.stored {w : World} {b : Nat} {vs us : Nat → Int} (h : Fil w b 77 vs) : Fil (w.setCells b 0 (arL us).toArray.toList) b 77 us := fun j hj => by
  have ht := h.there us
  refine ⟨?_, by rw [World.frozen?_setCells]; exact (h j hj).2⟩
  have := World.rangeAt_setCells_same w b 0 (arL us) (by simpa using ht) j _ (arL_at us hj)
  rw [Nat.zero_add] at this
  simpa using this
theorem below_setCells {B b : Nat} (hb : B ≤ b) (a : World) : ∀ (vs : List Value) (o : Nat) (w : World), Below B a w → Below B a (w.setCells b o vs)
  | [], _, _, h => h
  | v :: vs, o, w, h => below_setCells hb a vs (o + 1) _ (h.setCell (p := ⟨b, o, none⟩) hb v)
set_option maxRecDepth 100000 in
set_option maxHeartbeats 4000000 in
theorem sigA_ok (f : Int) (w : World) (h : Sg f) (hk : KT w) :
    Calls Tryd.prog 25 #[.int .i64 f] w fun e w' => e = .returned (.tuple #[.agg (arL (frI f)).toArray, .int .i64 0]) ∧ Below w.heap.size w w' := by
  have HP := Lib.hid h
  have HK := Lib.hid hk
  have hz := zero77
  have R0 := Lib.hid (((Fil.new w 58 w.heap.size rfl).up ((Below.refl _ _).alloc (Nat.le_refl _) (.cells z77 58))))
  have F0 := Lib.hid (Fil.new (w.alloc (.cells z77 58)) 58 (w.heap.size + 1) (by simp))
  have B0 := Lib.hid (((Bel.refl w).alloc (.cells z77 58)).alloc (.cells z77 58))
  clear h hk
  go_enter Tryd.func25, Tryd.ntmps25
  go_wp2_with fail
  generalize ((w.alloc (.cells z77 58)).alloc (.cells z77 58)) = W at *
  go_loopg [9] 7 (fun gm i wr => ∃ (k : Nat) (vs : Nat → Int), k ≤ 7 ∧ gm = 7 - k ∧ i = .int .i64 (k : Int) ∧ Hid (Fil wr w.heap.size 77 fun _ => 0) ∧ Hid (Fil wr (w.heap.size + 1) 77 vs) ∧ Hid (∀ j, j < 77 → j % 7 < k → vs j = frI f j) ∧ Hid (Bel w wr))
  case atStart => exact ⟨0, fun _ => 0, by omega, by omega, rfl, R0, F0, Lib.hid (fun j _ h => absurd h (by omega)), B0⟩
  case round =>
    obtain ⟨k, vs, hk, rfl, rfl, HR, HF, HV, HB⟩ := hrel
    clear R0 F0 B0
    by_cases hlt : k < 7
    · go_wp2_with fail
      refine (alterK_ok f (k : Int) _ HP.out (by omega) (by omega) (HK.out.below HB.out.out)).mono ?_
      rintro e w1 ⟨rfl, hb⟩
      have R1 := Lib.hid (HR.out.up hb)
      have F1 := Lib.hid (HF.out.up hb)
      have B1 := Lib.hid (HB.out.up hb)
      clear hb HR HF HB
      obtain ⟨A, hA⟩ : ∃ A, alI f (k : Int) = A := ⟨_, rfl⟩
      rw [hA]
      have HA := Lib.hid hA
      clear hA
      go_wp2_with fail
      go_loopg [8] (90 - k) (fun gm i wr => ∃ (n : Nat) (us : Nat → Int), n % 7 = k ∧ n ≤ 83 ∧ gm = 90 - n ∧ i = .int .i64 (n : Int) ∧ Hid (Fil wr w.heap.size 77 fun _ => 0) ∧ Hid (Fil wr (w.heap.size + 1) 77 us) ∧ Hid (∀ j, j < 77 → (j % 7 < k ∨ j % 7 = k ∧ j < n) → us j = frI f j) ∧ Hid (Bel w wr))
      case atStart => exact ⟨k, vs, by omega, by omega, by omega, rfl, R1, F1, Lib.hid (fun j hj h => HV.out j hj (by omega)), B1⟩
      case round =>
        obtain ⟨n, us, hnk, hn, rfl, rfl, HR, HF, HU, HB⟩ := hrel
        clear R1 F1 B1
        by_cases h77 : n < 77
        · obtain ⟨c0, c1⟩ := HF.out n h77
          have R2 := Lib.hid (HR.out.other (c := w.heap.size + 1) (i := n) (u := .int .i64 A) (by omega))
          have F2 := Lib.hid (HF.out.set n h77 A)
          have B2 := Lib.hid (HB.out.set (b := w.heap.size + 1) (by omega) n (.int .i64 A))
          have HU2 := Lib.hid (show ∀ j, j < 77 → (j % 7 < k ∨ j % 7 = k ∧ j < n + 7) → (fun j => if j = n then A else us j) j = frI f j from fun j hj h => by
            show (if j = n then A else us j) = _
            by_cases e : j = n
            · subst e
              rw [if_pos rfl]
              unfold frI
              rw [hnk]
              exact HA.out.symm
            · rw [if_neg e]
              exact HU.out j hj (by omega))
          clear HR HF HU HB
          go_wp2_with fail
          go_roundg (90 - (n + 7))
          case measure => omega
          case rel => exact ⟨n + 7, _, by omega, by omega, rfl, by go_num, R2, F2, HU2, B2⟩
        · go_wp2_with fail
          go_roundg (7 - (k + 1))
          case measure => omega
          case rel => exact ⟨k + 1, us, by omega, rfl, by go_num, HR, HF, Lib.hid (fun j hj h => HU.out j hj (by omega)), HB⟩
    · obtain rfl : k = 7 := by omega
      have HF7 := Lib.hid (HF.out.eq (us := frI f) (fun j hj => HV.out j hj (by omega)))
      have HS := Lib.hid (HR.out.stored (us := frI f))
      have HB2 := Lib.hid (below_setCells (Nat.le_refl _) w (arL (frI f)).toArray.toList 0 _ HB.out.out)
      clear HF HV HB
      go_wp2_with (first | (refine wpList_load_mid rfl 58 _ rfl (w.heap.size + 1) 0 rfl (arL (frI f)) _ HF7.out.range Tryd.underlying58 rfl (by rw [size77, arL_len]) ?_) | (refine wpList_store_mid rfl 58 _ _ rfl w.heap.size 0 (arL (frI f)).toArray rfl rfl (HR.out.there _) (by rw [size77]; simp [arL_len]) (arL_one _) ?_))
      have hl := run_loadVar_mid (P := Tryd.prog) (wr.setCells w.heap.size 0 (arL (frI f))) w.heap.size 0 58 (arL (frI f)) _ (by simpa using HS.out.range) Tryd.underlying58 rfl (by rw [size77, arL_len])
      exact bodyPost_ret (v := .tuple #[.agg (arL (frI f)).toArray, .int .i64 0]) (by rw [results_cell_tmp Tryd.results25]; simp [asAddr, hl, Result.andThen]) rfl ⟨rfl, by simpa using HB2.out⟩
end Go.Proofs.YthmdjpfjaojihaaDoor
