/- The law PitchParses. -/
import Derived.Test.YtolfgomlokpopaaDoorNc
namespace Go.Proofs.YtolfgomlokpopaaDoor
open Go.RowKit
set_option linter.unusedVariables false
set_option linter.unusedSimpArgs false

set_option maxRecDepth 100000 in
set_option maxHeartbeats 2000000 in
theorem law_PitchParses (s : ByteArray) (w : World) (hz : s.size ≤ maxLen) (ht : PW w) :
    Calls Tryd.prog 9 #[.string s] w fun e w' => e = .returned (.bool true) ∧ Below w.heap.size w w' := by
  have T0 := Lib.hid ht
  clear ht
  unfold maxLen at hz
  go_enter Tryd.func9, Tryd.ntmps9
  go_wp2_with fail
  obtain ⟨S, hS⟩ : ∃ S, s.extract 0 (min (s.size : Int) 40).toNat = S := ⟨_, rfl⟩
  have hSz : S.size ≤ 40 := by rw [← hS, ByteArray.size_extract]; omega
  rw [hS]
  clear hS
  refine (parse_any S _ (by omega) T0.out).mono ?_
  rintro e w1 h1
  have hb := h1.2
  obtain ⟨k, a, o, p, q, hq, rfl⟩ := prs_ret h1
  obtain ⟨q0, q1⟩ := hq
  have H1 := Lib.hid h1
  clear h1
  have B1 := Lib.hid (((Bel.refl w).up hb).alloc (.cells #[.int .i64 k, .int .i64 a, .int .i64 o] 23))
  have T1 := Lib.hid ((T0.out.below hb).below ((Below.refl _ _).alloc (Nat.le_refl _) (.cells #[.int .i64 k, .int .i64 a, .int .i64 o] 23)))
  have X1 := Tri.new w1 (.int .i64 k) (.int .i64 a) (.int .i64 o) 23 w1.heap.size rfl
  clear hb T0
  unfold retP
  go_wp2_with fail
  refine (refParse_any S _ (by omega)).mono ?_
  rintro e w2 h2
  obtain rfl := prs_unique H1.out h2
  have hb := h2.2
  clear h2 H1
  have B2 := Lib.hid ((B1.out.up hb).alloc (.cells #[.int .i64 k, .int .i64 a, .int .i64 o] 23))
  have T2 := Lib.hid ((T1.out.below hb).below ((Below.refl _ _).alloc (Nat.le_refl _) (.cells #[.int .i64 k, .int .i64 a, .int .i64 o] 23)))
  have X2 := (X1.up hb).alloc (.cells #[.int .i64 k, .int .i64 a, .int .i64 o] 23)
  have Y2 := Tri.new w2 (.int .i64 k) (.int .i64 a) (.int .i64 o) 23 w2.heap.size rfl
  clear hb B1 T1 X1
  unfold retP
  go_wp2_with fail
  refine (known_any _ T2.out).mono ?_
  rintro e w3 ⟨rfl, hb⟩
  have B3 := Lib.hid (B2.out.up hb)
  have X3 := X2.up hb
  have Y3 := Y2.up hb
  clear hb B2 T2 X2 Y2
  obtain ⟨x0, x1, x2, x3, x4, x5, x6⟩ := id X3
  obtain ⟨y0, y1, y2, y3, y4, y5, y6⟩ := id Y3
  go_wp2_with fail
  go_ret
  exact ⟨by first | rfl | simp, B3.out.out⟩
end Go.Proofs.YtolfgomlokpopaaDoor
