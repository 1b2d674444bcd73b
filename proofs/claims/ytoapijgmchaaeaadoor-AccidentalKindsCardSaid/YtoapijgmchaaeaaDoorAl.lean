/- Accidentals: law AccidentalKinds. -/
import Derived.Test.YtoapijgmchaaeaaDoorAj
namespace Go.Proofs.YtoapijgmchaaeaaDoor
open Go.RowKit
set_option linter.unusedVariables false
set_option linter.unusedSimpArgs false

set_option maxRecDepth 100000 in
set_option maxHeartbeats 2000000 in
theorem isKind_y (k : Int) (w : World) (h0 : 1 ≤ k) (h1 : k ≤ 5) :
    Calls Tryd.prog 34 #[.int .i64 k] w fun e w' => e = .returned (.bool true) ∧ Below w.heap.size w w' := by
  have B0 := Lib.hid (Bel.refl w)
  go_enter Tryd.func34, Tryd.ntmps34
  go_wp2_with fail
  go_ret
  exact ⟨by first | rfl | (simp; done) | (simp [go_sem]; done) | (simp [go_sem]; omega), B0.out.out⟩
set_option maxRecDepth 100000 in
set_option maxHeartbeats 2000000 in
theorem isKind_lo (k : Int) (w : World) (h : k < 0) :
    Calls Tryd.prog 34 #[.int .i64 k] w fun e w' => e = .returned (.bool false) ∧ Below w.heap.size w w' := by
  have B0 := Lib.hid (Bel.refl w)
  go_enter Tryd.func34, Tryd.ntmps34
  go_wp2_with fail
  go_ret
  exact ⟨by first | rfl | (simp; done) | (simp [go_sem]; done) | (simp [go_sem]; omega), B0.out.out⟩
set_option maxRecDepth 100000 in
set_option maxHeartbeats 2000000 in
theorem isKind_hi (k : Int) (w : World) (h0 : 0 ≤ k) (h : 5 < k) :
    Calls Tryd.prog 34 #[.int .i64 k] w fun e w' => e = .returned (.bool false) ∧ Below w.heap.size w w' := by
  have B0 := Lib.hid (Bel.refl w)
  go_enter Tryd.func34, Tryd.ntmps34
  go_wp2_with fail
  go_ret
  exact ⟨by first | rfl | (simp; done) | (simp [go_sem]; done) | (simp [go_sem]; omega), B0.out.out⟩
set_option maxRecDepth 100000 in
set_option maxHeartbeats 2000000 in
theorem alter_y (k : Int) (w : World) (h0 : 1 ≤ k) (h1 : k ≤ 5) :
    Calls Tryd.prog 26 #[.int .i64 k] w fun e w' => e = .returned (.tuple #[.int .i64 (k - 3), .int .i64 0]) ∧ Below w.heap.size w w' := by
  have B0 := Lib.hid (Bel.refl w)
  go_enter Tryd.func26, Tryd.ntmps26
  go_wp2_with fail
  refine (isKind_y k _ h0 h1).mono ?_
  rintro e w1 ⟨rfl, hb⟩
  have B1 := Lib.hid (B0.out.up hb)
  clear hb
  go_wp2_with fail
  exact bodyPost_ret (v := .tuple #[.int .i64 (k - 3), .int .i64 0]) (by first | (simp [results, Tryd.results26, go_sem]; done) | (simp [results, Tryd.results26, go_sem]; omega)) rfl ⟨rfl, B1.out.out⟩
set_option maxRecDepth 100000 in
set_option maxHeartbeats 2000000 in
theorem alter_lo (k : Int) (w : World) (h : k < 0) :
    Calls Tryd.prog 26 #[.int .i64 k] w fun e w' => e = .returned (.tuple #[.int .i64 0, .int .i64 11]) ∧ Below w.heap.size w w' := by
  have B0 := Lib.hid (Bel.refl w)
  go_enter Tryd.func26, Tryd.ntmps26
  go_wp2_with fail
  refine (isKind_lo k _ h).mono ?_
  rintro e w1 ⟨rfl, hb⟩
  have B1 := Lib.hid (B0.out.up hb)
  clear hb
  go_wp2_with fail
  exact bodyPost_ret (v := .tuple #[.int .i64 0, .int .i64 11]) (by first | (simp [results, Tryd.results26, go_sem]; done) | (simp [results, Tryd.results26, go_sem]; omega)) rfl ⟨rfl, B1.out.out⟩
set_option maxRecDepth 100000 in
set_option maxHeartbeats 2000000 in
theorem alter_hi (k : Int) (w : World) (h : 5 < k) :
    Calls Tryd.prog 26 #[.int .i64 k] w fun e w' => e = .returned (.tuple #[.int .i64 0, .int .i64 11]) ∧ Below w.heap.size w w' := by
  have B0 := Lib.hid (Bel.refl w)
  go_enter Tryd.func26, Tryd.ntmps26
  go_wp2_with fail
  refine (isKind_hi k _ (by omega) h).mono ?_
  rintro e w1 ⟨rfl, hb⟩
  have B1 := Lib.hid (B0.out.up hb)
  clear hb
  go_wp2_with fail
  exact bodyPost_ret (v := .tuple #[.int .i64 0, .int .i64 11]) (by first | (simp [results, Tryd.results26, go_sem]; done) | (simp [results, Tryd.results26, go_sem]; omega)) rfl ⟨rfl, B1.out.out⟩
set_option maxRecDepth 100000 in
set_option maxHeartbeats 2000000 in
theorem alter_0 (k : Int) (w : World) (h0 : k = 0) :
    Calls Tryd.prog 26 #[.int .i64 k] w fun e w' => e = .returned (.tuple #[.int .i64 0, .int .i64 11]) ∧ Below w.heap.size w w' := by
  have B0 := Lib.hid (Bel.refl w)
  subst h0
  go_enter Tryd.func26, Tryd.ntmps26
  go_wp2_with fail
  exact bodyPost_ret (v := .tuple #[.int .i64 0, .int .i64 11]) (by first | (simp [results, Tryd.results26, go_sem]; done) | (simp [results, Tryd.results26, go_sem]; omega)) rfl ⟨rfl, B0.out.out⟩
theorem alter_n (k : Int) (w : World) (h : k < 1 ∨ 5 < k) : Calls Tryd.prog 26 #[.int .i64 k] w fun e w' => e = .returned (.tuple #[.int .i64 0, .int .i64 11]) ∧ Below w.heap.size w w' := by
  rcases h with h | h
  · rcases (show k < 0 ∨ k = 0 by omega) with h | h
    · exact alter_lo k w h
    · exact alter_0 k w h
  · exact alter_hi k w h
set_option maxRecDepth 100000 in
set_option maxHeartbeats 2000000 in
theorem kinds_yy (a k : Int) (w : World) (a0 : -2 ≤ a) (a1 : a ≤ 2) (k0 : 1 ≤ k) (k1 : k ≤ 5) (hk : KT w) :
    Calls Tryd.prog 11 #[.int .i64 a, .int .i64 k] w fun e w' => e = .returned (.bool true) ∧ Below w.heap.size w w' := by
  have HK := Lib.hid hk
  have B0 := Lib.hid (Bel.refl w)
  clear hk
  go_enter Tryd.func11, Tryd.ntmps11
  go_wp2_with fail
  refine (of_y a _ a0 a1).mono ?_
  rintro e w1 ⟨rfl, hb⟩
  have B1 := Lib.hid (B0.out.up hb)
  clear hb
  go_wp2_with fail
  refine (alter_y k _ k0 k1).mono ?_
  rintro e w2 ⟨rfl, hb⟩
  have B2 := Lib.hid (B1.out.up hb)
  clear hb
  go_wp2_with fail
  refine (known_ok _ (HK.out.below B2.out)).mono ?_
  rintro e w3 ⟨rfl, hb⟩
  have B3 := Lib.hid (B2.out.up hb)
  clear hb
  go_wp2_with fail
  try (go_quiet (fail); go_wp2_with fail)
  try (go_quiet (fail); go_wp2_with fail)
  go_ret
  exact ⟨by first | rfl | (simp; done) | (simp [go_sem]; done) | (simp [go_sem]; omega), by first | exact B3.out.out | exact below_drewN B3.out.out _⟩
set_option maxRecDepth 100000 in
set_option maxHeartbeats 2000000 in
theorem kinds_yl (a k : Int) (w : World) (a0 : -2 ≤ a) (a1 : a ≤ 2) (k0 : k < 1) (hk : KT w) :
    Calls Tryd.prog 11 #[.int .i64 a, .int .i64 k] w fun e w' => e = .returned (.bool true) ∧ Below w.heap.size w w' := by
  have HK := Lib.hid hk
  have B0 := Lib.hid (Bel.refl w)
  clear hk
  go_enter Tryd.func11, Tryd.ntmps11
  go_wp2_with fail
  refine (of_y a _ a0 a1).mono ?_
  rintro e w1 ⟨rfl, hb⟩
  have B1 := Lib.hid (B0.out.up hb)
  clear hb
  go_wp2_with fail
  refine (alter_n k _ (.inl k0)).mono ?_
  rintro e w2 ⟨rfl, hb⟩
  have B2 := Lib.hid (B1.out.up hb)
  clear hb
  go_wp2_with fail
  refine (known_ok _ (HK.out.below B2.out)).mono ?_
  rintro e w3 ⟨rfl, hb⟩
  have B3 := Lib.hid (B2.out.up hb)
  clear hb
  go_wp2_with fail
  try (go_quiet (fail); go_wp2_with fail)
  try (go_quiet (fail); go_wp2_with fail)
  go_ret
  exact ⟨by first | rfl | (simp; done) | (simp [go_sem]; done) | (simp [go_sem]; omega), by first | exact B3.out.out | exact below_drewN B3.out.out _⟩
set_option maxRecDepth 100000 in
set_option maxHeartbeats 2000000 in
theorem kinds_yh (a k : Int) (w : World) (a0 : -2 ≤ a) (a1 : a ≤ 2) (k0 : 1 ≤ k) (k1 : 5 < k) (hk : KT w) :
    Calls Tryd.prog 11 #[.int .i64 a, .int .i64 k] w fun e w' => e = .returned (.bool true) ∧ Below w.heap.size w w' := by
  have HK := Lib.hid hk
  have B0 := Lib.hid (Bel.refl w)
  clear hk
  go_enter Tryd.func11, Tryd.ntmps11
  go_wp2_with fail
  refine (of_y a _ a0 a1).mono ?_
  rintro e w1 ⟨rfl, hb⟩
  have B1 := Lib.hid (B0.out.up hb)
  clear hb
  go_wp2_with fail
  refine (alter_n k _ (.inr k1)).mono ?_
  rintro e w2 ⟨rfl, hb⟩
  have B2 := Lib.hid (B1.out.up hb)
  clear hb
  go_wp2_with fail
  refine (known_ok _ (HK.out.below B2.out)).mono ?_
  rintro e w3 ⟨rfl, hb⟩
  have B3 := Lib.hid (B2.out.up hb)
  clear hb
  go_wp2_with fail
  try (go_quiet (fail); go_wp2_with fail)
  try (go_quiet (fail); go_wp2_with fail)
  go_ret
  exact ⟨by first | rfl | (simp; done) | (simp [go_sem]; done) | (simp [go_sem]; omega), by first | exact B3.out.out | exact below_drewN B3.out.out _⟩
set_option maxRecDepth 100000 in
set_option maxHeartbeats 2000000 in
theorem kinds_ly (a k : Int) (w : World) (a0 : a < -2) (k0 : 1 ≤ k) (k1 : k ≤ 5) (hk : KT w) :
    Calls Tryd.prog 11 #[.int .i64 a, .int .i64 k] w fun e w' => e = .returned (.bool true) ∧ Below w.heap.size w w' := by
  have HK := Lib.hid hk
  have B0 := Lib.hid (Bel.refl w)
  clear hk
  go_enter Tryd.func11, Tryd.ntmps11
  go_wp2_with fail
  refine (of_n a _ (.inl a0)).mono ?_
  rintro e w1 ⟨rfl, hb⟩
  have B1 := Lib.hid (B0.out.up hb)
  clear hb
  go_wp2_with fail
  refine (alter_y k _ k0 k1).mono ?_
  rintro e w2 ⟨rfl, hb⟩
  have B2 := Lib.hid (B1.out.up hb)
  clear hb
  go_wp2_with fail
  refine (known_ok _ (HK.out.below B2.out)).mono ?_
  rintro e w3 ⟨rfl, hb⟩
  have B3 := Lib.hid (B2.out.up hb)
  clear hb
  go_wp2_with fail
  try (go_quiet (fail); go_wp2_with fail)
  try (go_quiet (fail); go_wp2_with fail)
  go_ret
  exact ⟨by first | rfl | (simp; done) | (simp [go_sem]; done) | (simp [go_sem]; omega), by first | exact B3.out.out | exact below_drewN B3.out.out _⟩
set_option maxRecDepth 100000 in
set_option maxHeartbeats 2000000 in
theorem kinds_ll (a k : Int) (w : World) (a0 : a < -2) (k0 : k < 1) (hk : KT w) :
    Calls Tryd.prog 11 #[.int .i64 a, .int .i64 k] w fun e w' => e = .returned (.bool true) ∧ Below w.heap.size w w' := by
  have HK := Lib.hid hk
  have B0 := Lib.hid (Bel.refl w)
  clear hk
  go_enter Tryd.func11, Tryd.ntmps11
  go_wp2_with fail
  refine (of_n a _ (.inl a0)).mono ?_
  rintro e w1 ⟨rfl, hb⟩
  have B1 := Lib.hid (B0.out.up hb)
  clear hb
  go_wp2_with fail
  refine (alter_n k _ (.inl k0)).mono ?_
  rintro e w2 ⟨rfl, hb⟩
  have B2 := Lib.hid (B1.out.up hb)
  clear hb
  go_wp2_with fail
  refine (known_ok _ (HK.out.below B2.out)).mono ?_
  rintro e w3 ⟨rfl, hb⟩
  have B3 := Lib.hid (B2.out.up hb)
  clear hb
  go_wp2_with fail
  try (go_quiet (fail); go_wp2_with fail)
  try (go_quiet (fail); go_wp2_with fail)
  go_ret
  exact ⟨by first | rfl | (simp; done) | (simp [go_sem]; done) | (simp [go_sem]; omega), by first | exact B3.out.out | exact below_drewN B3.out.out _⟩
set_option maxRecDepth 100000 in
set_option maxHeartbeats 2000000 in
theorem kinds_lh (a k : Int) (w : World) (a0 : a < -2) (k0 : 1 ≤ k) (k1 : 5 < k) (hk : KT w) :
    Calls Tryd.prog 11 #[.int .i64 a, .int .i64 k] w fun e w' => e = .returned (.bool true) ∧ Below w.heap.size w w' := by
  have HK := Lib.hid hk
  have B0 := Lib.hid (Bel.refl w)
  clear hk
  go_enter Tryd.func11, Tryd.ntmps11
  go_wp2_with fail
  refine (of_n a _ (.inl a0)).mono ?_
  rintro e w1 ⟨rfl, hb⟩
  have B1 := Lib.hid (B0.out.up hb)
  clear hb
  go_wp2_with fail
  refine (alter_n k _ (.inr k1)).mono ?_
  rintro e w2 ⟨rfl, hb⟩
  have B2 := Lib.hid (B1.out.up hb)
  clear hb
  go_wp2_with fail
  refine (known_ok _ (HK.out.below B2.out)).mono ?_
  rintro e w3 ⟨rfl, hb⟩
  have B3 := Lib.hid (B2.out.up hb)
  clear hb
  go_wp2_with fail
  try (go_quiet (fail); go_wp2_with fail)
  try (go_quiet (fail); go_wp2_with fail)
  go_ret
  exact ⟨by first | rfl | (simp; done) | (simp [go_sem]; done) | (simp [go_sem]; omega), by first | exact B3.out.out | exact below_drewN B3.out.out _⟩
set_option maxRecDepth 100000 in
set_option maxHeartbeats 2000000 in
theorem kinds_hy (a k : Int) (w : World) (a0 : -2 ≤ a) (a1 : 2 < a) (k0 : 1 ≤ k) (k1 : k ≤ 5) (hk : KT w) :
    Calls Tryd.prog 11 #[.int .i64 a, .int .i64 k] w fun e w' => e = .returned (.bool true) ∧ Below w.heap.size w w' := by
  have HK := Lib.hid hk
  have B0 := Lib.hid (Bel.refl w)
  clear hk
  go_enter Tryd.func11, Tryd.ntmps11
  go_wp2_with fail
  refine (of_n a _ (.inr a1)).mono ?_
  rintro e w1 ⟨rfl, hb⟩
  have B1 := Lib.hid (B0.out.up hb)
  clear hb
  go_wp2_with fail
  refine (alter_y k _ k0 k1).mono ?_
  rintro e w2 ⟨rfl, hb⟩
  have B2 := Lib.hid (B1.out.up hb)
  clear hb
  go_wp2_with fail
  refine (known_ok _ (HK.out.below B2.out)).mono ?_
  rintro e w3 ⟨rfl, hb⟩
  have B3 := Lib.hid (B2.out.up hb)
  clear hb
  go_wp2_with fail
  try (go_quiet (fail); go_wp2_with fail)
  try (go_quiet (fail); go_wp2_with fail)
  go_ret
  exact ⟨by first | rfl | (simp; done) | (simp [go_sem]; done) | (simp [go_sem]; omega), by first | exact B3.out.out | exact below_drewN B3.out.out _⟩
set_option maxRecDepth 100000 in
set_option maxHeartbeats 2000000 in
theorem kinds_hl (a k : Int) (w : World) (a0 : -2 ≤ a) (a1 : 2 < a) (k0 : k < 1) (hk : KT w) :
    Calls Tryd.prog 11 #[.int .i64 a, .int .i64 k] w fun e w' => e = .returned (.bool true) ∧ Below w.heap.size w w' := by
  have HK := Lib.hid hk
  have B0 := Lib.hid (Bel.refl w)
  clear hk
  go_enter Tryd.func11, Tryd.ntmps11
  go_wp2_with fail
  refine (of_n a _ (.inr a1)).mono ?_
  rintro e w1 ⟨rfl, hb⟩
  have B1 := Lib.hid (B0.out.up hb)
  clear hb
  go_wp2_with fail
  refine (alter_n k _ (.inl k0)).mono ?_
  rintro e w2 ⟨rfl, hb⟩
  have B2 := Lib.hid (B1.out.up hb)
  clear hb
  go_wp2_with fail
  refine (known_ok _ (HK.out.below B2.out)).mono ?_
  rintro e w3 ⟨rfl, hb⟩
  have B3 := Lib.hid (B2.out.up hb)
  clear hb
  go_wp2_with fail
  try (go_quiet (fail); go_wp2_with fail)
  try (go_quiet (fail); go_wp2_with fail)
  go_ret
  exact ⟨by first | rfl | (simp; done) | (simp [go_sem]; done) | (simp [go_sem]; omega), by first | exact B3.out.out | exact below_drewN B3.out.out _⟩
set_option maxRecDepth 100000 in
set_option maxHeartbeats 2000000 in
theorem kinds_hh (a k : Int) (w : World) (a0 : -2 ≤ a) (a1 : 2 < a) (k0 : 1 ≤ k) (k1 : 5 < k) (hk : KT w) :
    Calls Tryd.prog 11 #[.int .i64 a, .int .i64 k] w fun e w' => e = .returned (.bool true) ∧ Below w.heap.size w w' := by
  have HK := Lib.hid hk
  have B0 := Lib.hid (Bel.refl w)
  clear hk
  go_enter Tryd.func11, Tryd.ntmps11
  go_wp2_with fail
  refine (of_n a _ (.inr a1)).mono ?_
  rintro e w1 ⟨rfl, hb⟩
  have B1 := Lib.hid (B0.out.up hb)
  clear hb
  go_wp2_with fail
  refine (alter_n k _ (.inr k1)).mono ?_
  rintro e w2 ⟨rfl, hb⟩
  have B2 := Lib.hid (B1.out.up hb)
  clear hb
  go_wp2_with fail
  refine (known_ok _ (HK.out.below B2.out)).mono ?_
  rintro e w3 ⟨rfl, hb⟩
  have B3 := Lib.hid (B2.out.up hb)
  clear hb
  go_wp2_with fail
  try (go_quiet (fail); go_wp2_with fail)
  try (go_quiet (fail); go_wp2_with fail)
  go_ret
  exact ⟨by first | rfl | (simp; done) | (simp [go_sem]; done) | (simp [go_sem]; omega), by first | exact B3.out.out | exact below_drewN B3.out.out _⟩
theorem law_AccidentalKinds (a k : Int) (w : World) (hk : KT w) :
    Calls Tryd.prog 11 #[.int .i64 a, .int .i64 k] w fun e w' => e = .returned (.bool true) ∧ Below w.heap.size w w' := by
  by_cases a0 : a < -2
  · by_cases k0 : k < 1
    · exact kinds_ll a k w a0 k0 hk
    · by_cases k1 : 5 < k
      · exact kinds_lh a k w a0 (by omega) k1 hk
      · exact kinds_ly a k w a0 (by omega) (by omega) hk
  · by_cases a1 : 2 < a
    · by_cases k0 : k < 1
      · exact kinds_hl a k w (by omega) a1 k0 hk
      · by_cases k1 : 5 < k
        · exact kinds_hh a k w (by omega) a1 (by omega) k1 hk
        · exact kinds_hy a k w (by omega) a1 (by omega) (by omega) hk
    · by_cases k0 : k < 1
      · exact kinds_yl a k w (by omega) (by omega) k0 hk
      · by_cases k1 : 5 < k
        · exact kinds_yh a k w (by omega) (by omega) (by omega) k1 hk
        · exact kinds_yy a k w (by omega) (by omega) (by omega) (by omega) hk
end Go.Proofs.YtoapijgmchaaeaaDoor
