/- Spans: law Limit. -/
import Derived.Test.YtabafabebodojaaDoorSq
import Derived.Test.YtabafabebodojaaDoorSt
import Derived.Test.YtabafabebodojaaDoorSlm
namespace Go.Proofs.YtabafabebodojaaDoor
open Go.RowKit
set_option linter.unusedVariables false
set_option linter.unusedSimpArgs false

set_option maxRecDepth 100000 in
set_option maxHeartbeats 2000000 in
theorem check_many (n cap : Nat) (ad : Option Addr) (w : World) (h : 4096 < n) :
    Calls Tryd.prog 22 #[.slice ad n cap] w fun e w' => e = .returned (.tuple #[.int .i64 4096, .int .i64 9]) ∧ Below w.heap.size w w' := by
  have g0 : decide ((4096 : Int) < (n : Int)) = true := decide_eq_true (by omega)
  have g1 : decide (4096 < n) = true := decide_eq_true (by omega)
  have B0 := Lib.hid (Bel.refl w)
  go_enter Tryd.func22, Tryd.ntmps22
  go_wp2_with fail
  go_ret2
  exact ⟨rfl, B0.out.out⟩
set_option maxRecDepth 100000 in
set_option maxHeartbeats 4000000 in
theorem lim_n (z : Int) (w : World) (z0 : 0 ≤ z) (z1 : z ≤ 255) (hk : KT w) :
    Calls Tryd.prog 12 #[.bool false, .int .u8 z] w fun e w' => e = .returned (.bool true) ∧ Below w.heap.size w w' := by
  have HK := Lib.hid hk
  have H0 := Lib.hid (World.ownsRow_nil w w.heap.size 31 9)
  clear hk
  obtain ⟨i0, hi, iz0, iz1, iz2⟩ := info_parts infoS
  have hq0 : 0 ≤ z % 7 := by omega
  have hq1 : z % 7 ≤ 6 := by omega
  go_enter Tryd.func12, Tryd.ntmps12
  go_wp2_with fail
  go_loopg [6, 7] 4096 (fun gm v i wr => ∃ k : Nat, k ≤ 4096 ∧ gm = 4096 - k ∧ i = .int .i64 (k : Int) ∧ Hid (wr.ownsRow w.heap.size 31 9 v k (spsL (lmS (z % 7)) k)) ∧ Hid (Bel w wr) ∧ w.heap.size ≤ wr.heap.size)
  case atStart => exact ⟨0, by omega, by omega, rfl, H0, Lib.hid (Bel.refl w), Nat.le_refl _⟩
  case round =>
    clear H0
    obtain ⟨k, hk, rfl, rfl, HO, HB, hz⟩ := hrel
    by_cases hlt : k < 4096
    · have hki : (k : Int) < 4096 := by omega
      have B1 := HB
      have O1 := Lib.hid (HO.out.alloc (.cells #[.int .i64 (1 + z % 7), .int .i64 0, .int .i64 (2 * ((k : Int) / 128)), .int .i64 ((k : Int) % 128), .int .i64 0, .int .i64 0, .int .i64 (2 * ((k : Int) / 128) + 1), .int .i64 ((k : Int) % 128), .int .i64 0] 31))
      have HC := Lib.hid (show ∀ j u, (spc (lmS (z % 7) k))[j]? = some u → (wr.alloc (.cells #[.int .i64 (1 + z % 7), .int .i64 0, .int .i64 (2 * ((k : Int) / 128)), .int .i64 ((k : Int) % 128), .int .i64 0, .int .i64 0, .int .i64 (2 * ((k : Int) / 128) + 1), .int .i64 ((k : Int) % 128), .int .i64 0] 31)).cell? ((⟨wr.heap.size, 0, none⟩ : Addr).add j) = some u from cellS_one wr (lmS (z % 7) k))
      go_wp2_with (at_builtin; refine wpList_append_own _ rfl _ _ 43 rfl w.heap.size 31 i0 (.agg #[.int .i64 0, .int .i64 0, .int .i64 0, .int .i64 0, .int .i64 0, .int .i64 0, .int .i64 0, .int .i64 0, .int .i64 0]) 9 72 Tryd.underlying43 hi iz0 iz1 iz2 rfl (by decide) _ _ _ rfl O1.out ⟨_, 0, none⟩ 1 1 (spc (lmS (z % 7) k)) rfl rfl HC.out (by simp [Value.oneCell', spc]) (by unfold maxLen; omega) (by omega) (by simp; omega) ?_; intro v6 w6 hown6 hgrow6 _)
      have O6 := Lib.hid (show w6.ownsRow w.heap.size 31 9 v6 (k + 1) (spsL (lmS (z % 7)) (k + 1)) from by rw [spsL_next]; exact hown6)
      have B6 := Lib.hid (show Bel w w6 from Below.grown (B1.out.alloc _).out hgrow6 (by simp; omega) (fun j hj => (O1.out.lt j hj).1))
      have hz6 : w.heap.size ≤ w6.heap.size := by have := hgrow6.size; simp at this; omega
      clear hown6 hgrow6 B1 O1 HC
      go_wp2_with fail
      go_roundg (4096 - (k + 1))
      case measure => omega
      case rel => exact ⟨k + 1, by omega, rfl, by go_num, O6, B6, hz6⟩
    · obtain rfl : k = 4096 := by omega
      obtain ⟨ad2, cap2, rfl, hs⟩ := SpAt.of_sps HO.out
      have HS := Lib.hid hs
      clear hs HO
      go_wp2_with fail
      refine (check_ok 4096 cap2 ad2 (lmS (z % 7)) (-1) 0 _ (by omega) HS.out (lm_fst _ hq0 hq1)).mono ?_
      rintro e w2 ⟨rfl, hb⟩
      have B2 := Lib.hid (HB.out.up hb)
      have K2 := Lib.hid (HK.out.below B2.out.out)
      clear hb HB
      go_wp2_with fail
      refine (known_ok _ K2.out).mono ?_
      rintro e w3 ⟨rfl, hb⟩
      have B3 := Lib.hid (B2.out.up hb)
      clear hb B2
      go_wp2_with fail
      go_ret
      exact ⟨rfl, B3.out.out⟩
set_option maxRecDepth 100000 in
set_option maxHeartbeats 4000000 in
theorem lim_y (z : Int) (w : World) (z0 : 0 ≤ z) (z1 : z ≤ 255) (hk : KT w) :
    Calls Tryd.prog 12 #[.bool true, .int .u8 z] w fun e w' => e = .returned (.bool true) ∧ Below w.heap.size w w' := by
  have HK := Lib.hid hk
  have H0 := Lib.hid (World.ownsRow_nil w w.heap.size 31 9)
  clear hk
  obtain ⟨i0, hi, iz0, iz1, iz2⟩ := info_parts infoS
  have hq0 : 0 ≤ z % 7 := by omega
  have hq1 : z % 7 ≤ 6 := by omega
  go_enter Tryd.func12, Tryd.ntmps12
  go_wp2_with fail
  go_loopg [6, 7] 4097 (fun gm v i wr => ∃ k : Nat, k ≤ 4097 ∧ gm = 4097 - k ∧ i = .int .i64 (k : Int) ∧ Hid (wr.ownsRow w.heap.size 31 9 v k (spsL (lmS (z % 7)) k)) ∧ Hid (Bel w wr) ∧ w.heap.size ≤ wr.heap.size)
  case atStart => exact ⟨0, by omega, by omega, rfl, H0, Lib.hid (Bel.refl w), Nat.le_refl _⟩
  case round =>
    clear H0
    obtain ⟨k, hk, rfl, rfl, HO, HB, hz⟩ := hrel
    by_cases hlt : k < 4097
    · have hki : (k : Int) < 4097 := by omega
      have B1 := HB
      have O1 := Lib.hid (HO.out.alloc (.cells #[.int .i64 (1 + z % 7), .int .i64 0, .int .i64 (2 * ((k : Int) / 128)), .int .i64 ((k : Int) % 128), .int .i64 0, .int .i64 0, .int .i64 (2 * ((k : Int) / 128) + 1), .int .i64 ((k : Int) % 128), .int .i64 0] 31))
      have HC := Lib.hid (show ∀ j u, (spc (lmS (z % 7) k))[j]? = some u → (wr.alloc (.cells #[.int .i64 (1 + z % 7), .int .i64 0, .int .i64 (2 * ((k : Int) / 128)), .int .i64 ((k : Int) % 128), .int .i64 0, .int .i64 0, .int .i64 (2 * ((k : Int) / 128) + 1), .int .i64 ((k : Int) % 128), .int .i64 0] 31)).cell? ((⟨wr.heap.size, 0, none⟩ : Addr).add j) = some u from cellS_one wr (lmS (z % 7) k))
      go_wp2_with (at_builtin; refine wpList_append_own _ rfl _ _ 43 rfl w.heap.size 31 i0 (.agg #[.int .i64 0, .int .i64 0, .int .i64 0, .int .i64 0, .int .i64 0, .int .i64 0, .int .i64 0, .int .i64 0, .int .i64 0]) 9 72 Tryd.underlying43 hi iz0 iz1 iz2 rfl (by decide) _ _ _ rfl O1.out ⟨_, 0, none⟩ 1 1 (spc (lmS (z % 7) k)) rfl rfl HC.out (by simp [Value.oneCell', spc]) (by unfold maxLen; omega) (by omega) (by simp; omega) ?_; intro v6 w6 hown6 hgrow6 _)
      have O6 := Lib.hid (show w6.ownsRow w.heap.size 31 9 v6 (k + 1) (spsL (lmS (z % 7)) (k + 1)) from by rw [spsL_next]; exact hown6)
      have B6 := Lib.hid (show Bel w w6 from Below.grown (B1.out.alloc _).out hgrow6 (by simp; omega) (fun j hj => (O1.out.lt j hj).1))
      have hz6 : w.heap.size ≤ w6.heap.size := by have := hgrow6.size; simp at this; omega
      clear hown6 hgrow6 B1 O1 HC
      go_wp2_with fail
      go_roundg (4097 - (k + 1))
      case measure => omega
      case rel => exact ⟨k + 1, by omega, rfl, by go_num, O6, B6, hz6⟩
    · obtain rfl : k = 4097 := by omega
      obtain ⟨ad2, cap2, rfl, hs⟩ := SpAt.of_sps HO.out
      have HS := Lib.hid hs
      clear hs HO
      go_wp2_with fail
      refine (check_many 4097 cap2 ad2 _ (by omega)).mono ?_
      rintro e w2 ⟨rfl, hb⟩
      have B2 := Lib.hid (HB.out.up hb)
      have K2 := Lib.hid (HK.out.below B2.out.out)
      clear hb HB
      go_wp2_with fail
      refine (known_ok _ K2.out).mono ?_
      rintro e w3 ⟨rfl, hb⟩
      have B3 := Lib.hid (B2.out.up hb)
      clear hb B2
      go_wp2_with fail
      go_ret
      exact ⟨rfl, B3.out.out⟩
theorem law_SpannerLimit (c : Bool) (z : Int) (w : World) (z0 : 0 ≤ z) (z1 : z ≤ 255) (hk : KT w) :
    Calls Tryd.prog 12 #[.bool c, .int .u8 z] w fun e w' => e = .returned (.bool true) ∧ Below w.heap.size w w' := by
  cases c
  · exact lim_n z w z0 z1 hk
  · exact lim_y z w z0 z1 hk
end Go.Proofs.YtabafabebodojaaDoor
