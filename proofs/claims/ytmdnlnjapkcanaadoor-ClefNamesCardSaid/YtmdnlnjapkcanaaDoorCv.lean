/- Clefs: Name, Sign. -/
import Derived.Test.YtmdnlnjapkcanaaDoorCu
namespace Go.Proofs.YtmdnlnjapkcanaaDoor
open Go.RowKit
set_option linter.unusedVariables false
set_option linter.unusedSimpArgs false

set_option maxRecDepth 100000 in
set_option maxHeartbeats 2000000 in
theorem name_bad (c : Int) (w : World) (h : ¬ Cl c) (hc : CW w) :
    Calls Tryd.prog 31 #[.int .i64 c] w fun e w' => e = .returned (.tuple #[.string ⟨#[]⟩, .int .i64 11]) ∧ Below w.heap.size w w' := by
  have HP := Lib.hid h
  have B0 := Lib.hid (Bel.refl w)
  have C0 := Lib.hid hc
  go_enter Tryd.func31, Tryd.ntmps31
  go_wp2_with fail
  refine (checkC_bad c _ HP.out).mono ?_
  rintro e w1 ⟨rfl, hb⟩
  have B1 := Lib.hid (B0.out.up hb)
  have C1 := Lib.hid (C0.out.below hb)
  clear hb B0 C0 
  go_wp2_with fail
  go_ret2
  exact ⟨rfl, B1.out.out⟩
set_option maxRecDepth 100000 in
set_option maxHeartbeats 2000000 in
theorem name_ok (c : Int) (w : World) (h : Cl c) (hc : CW w) :
    Calls Tryd.prog 31 #[.int .i64 c] w fun e w' => e = .returned (.tuple #[.string (namB c), .int .i64 0]) ∧ Below w.heap.size w w' := by
  have HP := Lib.hid h
  obtain ⟨c0, c1⟩ := id h
  have B0 := Lib.hid (Bel.refl w)
  have C0 := Lib.hid hc
  go_enter Tryd.func31, Tryd.ntmps31
  go_wp2_with fail
  refine (checkC_ok c _ HP.out).mono ?_
  rintro e w1 ⟨rfl, hb⟩
  have B1 := Lib.hid (B0.out.up hb)
  have C1 := Lib.hid (C0.out.below hb)
  clear hb B0 C0 
  obtain ⟨q0, q1, q2, q3, q4, q5, q6⟩ := C1.out.c.row HP.out
  go_wp2_with fail
  try (go_quiet (fail); go_wp2_with fail)
  go_ret2
  exact ⟨rfl, by first | exact B1.out.out | exact below_drewN B1.out.out _⟩
set_option maxRecDepth 100000 in
set_option maxHeartbeats 2000000 in
theorem sign_bad (c : Int) (w : World) (h : ¬ Cl c) (hc : CW w) :
    Calls Tryd.prog 32 #[.int .i64 c] w fun e w' => e = .returned (.tuple #[.int .u8 0, .int .i64 0, .int .i64 0, .int .i64 11]) ∧ Below w.heap.size w w' := by
  have HP := Lib.hid h
  have B0 := Lib.hid (Bel.refl w)
  have C0 := Lib.hid hc
  go_enter Tryd.func32, Tryd.ntmps32
  go_wp2_with fail
  refine (checkC_bad c _ HP.out).mono ?_
  rintro e w1 ⟨rfl, hb⟩
  have B1 := Lib.hid (B0.out.up hb)
  have C1 := Lib.hid (C0.out.below hb)
  clear hb B0 C0 
  go_wp2_with fail
  exact bodyPost_ret (v := .tuple #[.int .u8 0, .int .i64 0, .int .i64 0, .int .i64 11]) (by first | (simp [results, Tryd.results32, go_sem]; done) | (simp [results, Tryd.results32, go_sem]; omega)) rfl ⟨rfl, B1.out.out⟩
set_option maxRecDepth 100000 in
set_option maxHeartbeats 2000000 in
theorem sign_ok (c : Int) (w : World) (h : Cl c) (hc : CW w) :
    Calls Tryd.prog 32 #[.int .i64 c] w fun e w' => e = .returned (.tuple #[.int .u8 (ltrI c), .int .i64 (linI c), .int .i64 (octI c), .int .i64 0]) ∧ Below w.heap.size w w' := by
  have HP := Lib.hid h
  obtain ⟨c0, c1⟩ := id h
  have B0 := Lib.hid (Bel.refl w)
  have C0 := Lib.hid hc
  go_enter Tryd.func32, Tryd.ntmps32
  go_wp2_with fail
  refine (checkC_ok c _ HP.out).mono ?_
  rintro e w1 ⟨rfl, hb⟩
  have B1 := Lib.hid (B0.out.up hb)
  have C1 := Lib.hid (C0.out.below hb)
  clear hb B0 C0 
  obtain ⟨q0, q1, q2, q3, q4, q5, q6⟩ := C1.out.c.row HP.out
  have t1 := tab_new w1 #[.string (namB c), .int .u8 (ltrI c), .int .i64 (linI c), .int .i64 (octI c), .int .i64 (midI c), .int .i64 (shaI c), .int .i64 (flaI c)] 64 _ rfl 1 _ rfl
  have t2 := tab_new w1 #[.string (namB c), .int .u8 (ltrI c), .int .i64 (linI c), .int .i64 (octI c), .int .i64 (midI c), .int .i64 (shaI c), .int .i64 (flaI c)] 64 _ rfl 2 _ rfl
  have t3 := tab_new w1 #[.string (namB c), .int .u8 (ltrI c), .int .i64 (linI c), .int .i64 (octI c), .int .i64 (midI c), .int .i64 (shaI c), .int .i64 (flaI c)] 64 _ rfl 3 _ rfl
  go_wp2_with fail
  try (go_quiet (fail); go_wp2_with fail)
  exact bodyPost_ret (v := .tuple #[.int .u8 (ltrI c), .int .i64 (linI c), .int .i64 (octI c), .int .i64 0]) (by first | (simp [results, Tryd.results32, go_sem]; done)) rfl ⟨rfl, by first | exact B1.out.alloc (.cells #[.string (namB c), .int .u8 (ltrI c), .int .i64 (linI c), .int .i64 (octI c), .int .i64 (midI c), .int .i64 (shaI c), .int .i64 (flaI c)] 64) | exact below_drewN (B1.out.alloc (.cells #[.string (namB c), .int .u8 (ltrI c), .int .i64 (linI c), .int .i64 (octI c), .int .i64 (midI c), .int .i64 (shaI c), .int .i64 (flaI c)] 64)) _⟩
end Go.Proofs.YtmdnlnjapkcanaaDoor
