/- Accidentals: known. -/
import Derived.Test.YthmdjpfjaojihaaDoorAi
namespace Go.Proofs.YthmdjpfjaojihaaDoor
open Go.RowKit
set_option linter.unusedVariables false
set_option linter.unusedSimpArgs false

/-- the four notes of the example -/
def K4 : List Nt := [⟨0, 6, -1, 4, false, 0⟩, ⟨1, 6, 0, 4, false, 0⟩, ⟨2, 6, 0, 4, false, 0⟩, ⟨3, 6, -1, 4, false, 0⟩]
theorem K4_err : errL 0 K4 = 0 := by decide +kernel
theorem K4_0 : disM K4 (-1) 0 = (0, false) := by decide +kernel
theorem K4_1 : disM K4 (-1) 1 = (3, false) := by decide +kernel
theorem K4_2 : disM K4 (-1) 2 = (0, false) := by decide +kernel
theorem K4_3 : disM K4 (-1) 3 = (2, false) := by decide +kernel
def K4a : Array Value := #[.int .i64 0, .int .i64 6, .int .i64 (-1), .int .i64 4, .bool false, .int .i64 0, .int .i64 1, .int .i64 6, .int .i64 0, .int .i64 4, .bool false, .int .i64 0, .int .i64 2, .int .i64 6, .int .i64 0, .int .i64 4, .bool false, .int .i64 0, .int .i64 3, .int .i64 6, .int .i64 (-1), .int .i64 4, .bool false, .int .i64 0]
theorem K4_at (w : World) (t : TypeId) (b : Nat) (hb : b = w.heap.size) : NtAt (w.alloc (.cells K4a t)) (some ⟨b, 0, none⟩) K4 := fun k n hn => by
  have hc := tab_new w K4a t b hb
  refine ⟨b, 0, rfl, ?_⟩
  match k, hn with
  | 0, hn => cases hn; exact ⟨hc _ _ rfl, hc _ _ rfl, hc _ _ rfl, hc _ _ rfl, hc _ _ rfl, hc _ _ rfl⟩
  | 1, hn => cases hn; exact ⟨hc _ _ rfl, hc _ _ rfl, hc _ _ rfl, hc _ _ rfl, hc _ _ rfl, hc _ _ rfl⟩
  | 2, hn => cases hn; exact ⟨hc _ _ rfl, hc _ _ rfl, hc _ _ rfl, hc _ _ rfl, hc _ _ rfl, hc _ _ rfl⟩
  | 3, hn => cases hn; exact ⟨hc _ _ rfl, hc _ _ rfl, hc _ _ rfl, hc _ _ rfl, hc _ _ rfl, hc _ _ rfl⟩
  | k + 4, hn => simp [K4] at hn
set_option maxRecDepth 100000 in
set_option maxHeartbeats 4000000 in
theorem known_ok (w : World) (hk : KT w) :
    Calls Tryd.prog 10 #[] w fun e w' => e = .returned (.bool true) ∧ Below w.heap.size w w' := by
  have HK := Lib.hid hk
  have B0 := Lib.hid ((((Bel.refl w).alloc (.cells #[.int .i64 6, .int .i64 (-1), .int .i64 4] 52)).alloc (.cells #[.int .i64 6, .int .i64 0, .int .i64 4] 52)).alloc (.cells K4a 61))
  have A0 := Lib.hid (K4_at ((w.alloc (.cells #[.int .i64 6, .int .i64 (-1), .int .i64 4] 52)).alloc (.cells #[.int .i64 6, .int .i64 0, .int .i64 4] 52)) 61 (w.heap.size + 1 + 1) (by simp))
  have KD := Lib.hid (Display_ok (-1) K4 (some ⟨w.heap.size + 1 + 1, 0, none⟩) 4 _ (by decide) (by decide) K4_err A0.out (HK.out.below B0.out.out))
  clear hk
  go_enter Tryd.func10, Tryd.ntmps10
  go_wp2_with fail
  refine KD.out.mono ?_
  rintro e w1 ⟨g, rfl, hm, hb⟩
  have B1 := Lib.hid (B0.out.up hb)
  obtain ⟨⟨m0, _⟩, _, _⟩ := hm 0 (by decide)
  obtain ⟨⟨m1, _⟩, _, _⟩ := hm 1 (by decide)
  obtain ⟨⟨m2, _⟩, _, _⟩ := hm 2 (by decide)
  obtain ⟨⟨m3, _⟩, _, _⟩ := hm 3 (by decide)
  rw [K4_0] at m0
  rw [K4_1] at m1
  rw [K4_2] at m2
  rw [K4_3] at m3
  simp only [Nat.zero_mul, Nat.one_mul, Nat.reduceMul] at m0 m1 m2 m3
  clear hm hb KD A0 B0 HK
  rw [show K4.length = 4 from rfl]
  go_wp2_with fail
  try (go_quiet (fail); go_wp2_with fail)
  try go_ret
  exact ⟨by first | rfl | (simp; done) | (simp [go_sem]; done), by first | exact B1.out.out | exact below_drewN B1.out.out _⟩
end Go.Proofs.YthmdjpfjaojihaaDoor
