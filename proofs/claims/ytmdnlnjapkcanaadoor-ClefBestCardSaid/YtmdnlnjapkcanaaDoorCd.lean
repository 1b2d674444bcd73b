/- Clefs: the table; Check, near. -/
import Derived.Test.YtmdnlnjapkcanaaDoorCb
import Derived.Test.YtmdnlnjapkcanaaDoorCc
namespace Go.Proofs.YtmdnlnjapkcanaaDoor
open Go.RowKit
set_option linter.unusedVariables false
set_option linter.unusedSimpArgs false

/-- there is such a clef -/
structure Cl (c : Int) : Prop where
  c0 : 1 ≤ c
  c1 : c ≤ 9
instance (c : Int) : Decidable (Cl c) := decidable_of_iff (1 ≤ c ∧ c ≤ 9) ⟨fun ⟨a, b⟩ => ⟨a, b⟩, fun ⟨a, b⟩ => ⟨a, b⟩⟩
theorem not_cl {c : Int} (h : ¬ Cl c) : c < 1 ∨ 1 ≤ c ∧ 9 < c := by
  by_cases h0 : c < 1
  · exact .inl h0
  · exact .inr ⟨by omega, by by_cases h1 : 9 < c; exact h1; exact absurd ⟨by omega, by omega⟩ h⟩
theorem cl_cases {c : Int} (h : Cl c) : c = 1 ∨ c = 2 ∨ c = 3 ∨ c = 4 ∨ c = 5 ∨ c = 6 ∨ c = 7 ∨ c = 8 ∨ c = 9 := by
  have := h.c0; have := h.c1; omega
def ltrI (c : Int) : Int := if c = 1 then 71 else if c = 2 then 70 else if c = 3 then 67 else if c = 4 then 67 else if c = 5 then 67 else if c = 6 then 67 else if c = 7 then 70 else if c = 8 then 71 else 70
def linI (c : Int) : Int := if c = 1 then -2 else if c = 2 then 2 else if c = 3 then 0 else if c = 4 then 2 else if c = 5 then -4 else if c = 6 then -2 else if c = 7 then 0 else if c = 8 then -2 else 2
def octI (c : Int) : Int := if c = 1 then 0 else if c = 2 then 0 else if c = 3 then 0 else if c = 4 then 0 else if c = 5 then 0 else if c = 6 then 0 else if c = 7 then 0 else if c = 8 then -1 else -1
def midI (c : Int) : Int := if c = 1 then 34 else if c = 2 then 22 else if c = 3 then 28 else if c = 4 then 26 else if c = 5 then 32 else if c = 6 then 30 else if c = 7 then 24 else if c = 8 then 27 else 15
def shaI (c : Int) : Int := if c = 1 then -1 else if c = 2 then -3 else if c = 3 then -2 else if c = 4 then -2 else if c = 5 then -2 else if c = 6 then -2 else if c = 7 then -2 else if c = 8 then -1 else -3
def flaI (c : Int) : Int := if c = 1 then -3 else if c = 2 then -5 else if c = 3 then -4 else if c = 4 then -2 else if c = 5 then -3 else if c = 6 then -3 else if c = 7 then -3 else if c = 8 then -3 else -5
theorem mid_bd (c : Int) : 15 ≤ midI c ∧ midI c ≤ 34 := by unfold midI; (repeat' split) <;> omega
theorem sha_bd (c : Int) : -3 ≤ shaI c ∧ shaI c ≤ -1 := by unfold shaI; (repeat' split) <;> omega
theorem fla_bd (c : Int) : -5 ≤ flaI c ∧ flaI c ≤ -2 := by unfold flaI; (repeat' split) <;> omega
def namB (c : Int) : ByteArray := if c = 1 then ⟨#[116, 114, 101, 98, 108, 101]⟩ else if c = 2 then ⟨#[98, 97, 115, 115]⟩ else if c = 3 then ⟨#[97, 108, 116, 111]⟩ else if c = 4 then ⟨#[116, 101, 110, 111, 114]⟩ else if c = 5 then ⟨#[115, 111, 112, 114, 97, 110, 111]⟩ else if c = 6 then ⟨#[109, 101, 122, 122, 111, 115, 111, 112, 114, 97, 110, 111]⟩ else if c = 7 then ⟨#[98, 97, 114, 105, 116, 111, 110, 101]⟩ else if c = 8 then ⟨#[116, 114, 101, 98, 108, 101, 56]⟩ else ⟨#[98, 97, 115, 115, 56]⟩
def tabV : List Value := [.string ⟨#[116, 114, 101, 98, 108, 101]⟩, .int .u8 71, .int .i64 (-2), .int .i64 0, .int .i64 34, .int .i64 (-1), .int .i64 (-3), .string ⟨#[98, 97, 115, 115]⟩, .int .u8 70, .int .i64 2, .int .i64 0, .int .i64 22, .int .i64 (-3), .int .i64 (-5), .string ⟨#[97, 108, 116, 111]⟩, .int .u8 67, .int .i64 0, .int .i64 0, .int .i64 28, .int .i64 (-2), .int .i64 (-4), .string ⟨#[116, 101, 110, 111, 114]⟩, .int .u8 67, .int .i64 2, .int .i64 0, .int .i64 26, .int .i64 (-2), .int .i64 (-2), .string ⟨#[115, 111, 112, 114, 97, 110, 111]⟩, .int .u8 67, .int .i64 (-4), .int .i64 0, .int .i64 32, .int .i64 (-2), .int .i64 (-3), .string ⟨#[109, 101, 122, 122, 111, 115, 111, 112, 114, 97, 110, 111]⟩, .int .u8 67, .int .i64 (-2), .int .i64 0, .int .i64 30, .int .i64 (-2), .int .i64 (-3), .string ⟨#[98, 97, 114, 105, 116, 111, 110, 101]⟩, .int .u8 70, .int .i64 0, .int .i64 0, .int .i64 24, .int .i64 (-2), .int .i64 (-3), .string ⟨#[116, 114, 101, 98, 108, 101, 56]⟩, .int .u8 71, .int .i64 (-2), .int .i64 (-1), .int .i64 27, .int .i64 (-1), .int .i64 (-3), .string ⟨#[98, 97, 115, 115, 56]⟩, .int .u8 70, .int .i64 2, .int .i64 (-1), .int .i64 15, .int .i64 (-3), .int .i64 (-5)]
def Tab (w : World) (b : Nat) : Prop := ∀ (i : Nat) (v : Value), tabV[i]? = some v → w.cell? ⟨b, i, none⟩ = some v
theorem Tab.up {w w' : World} {b : Nat} (h : Tab w b) (hb : Below w.heap.size w w') : Tab w' b := fun i v hv => cell_up hb (h i v hv)
/-- what row c of the table holds, cell by cell -/
structure Row7 (w : World) (b : Nat) (c : Int) : Prop where
  r0 : w.cell? ⟨b, (c.toNat - 1) * 7, none⟩ = some (.string (namB c))
  r1 : w.cell? ⟨b, (c.toNat - 1) * 7 + 1, none⟩ = some (.int .u8 (ltrI c))
  r2 : w.cell? ⟨b, (c.toNat - 1) * 7 + 2, none⟩ = some (.int .i64 (linI c))
  r3 : w.cell? ⟨b, (c.toNat - 1) * 7 + 3, none⟩ = some (.int .i64 (octI c))
  r4 : w.cell? ⟨b, (c.toNat - 1) * 7 + 4, none⟩ = some (.int .i64 (midI c))
  r5 : w.cell? ⟨b, (c.toNat - 1) * 7 + 5, none⟩ = some (.int .i64 (shaI c))
  r6 : w.cell? ⟨b, (c.toNat - 1) * 7 + 6, none⟩ = some (.int .i64 (flaI c))
theorem Tab.row {w : World} {b : Nat} (h : Tab w b) {c : Int} (hc : Cl c) : Row7 w b c := by
  rcases cl_cases hc with rfl | rfl | rfl | rfl | rfl | rfl | rfl | rfl | rfl
  · exact ⟨h 0 _ rfl, h 1 _ rfl, h 2 _ rfl, h 3 _ rfl, h 4 _ rfl, h 5 _ rfl, h 6 _ rfl⟩
  · exact ⟨h 7 _ rfl, h 8 _ rfl, h 9 _ rfl, h 10 _ rfl, h 11 _ rfl, h 12 _ rfl, h 13 _ rfl⟩
  · exact ⟨h 14 _ rfl, h 15 _ rfl, h 16 _ rfl, h 17 _ rfl, h 18 _ rfl, h 19 _ rfl, h 20 _ rfl⟩
  · exact ⟨h 21 _ rfl, h 22 _ rfl, h 23 _ rfl, h 24 _ rfl, h 25 _ rfl, h 26 _ rfl, h 27 _ rfl⟩
  · exact ⟨h 28 _ rfl, h 29 _ rfl, h 30 _ rfl, h 31 _ rfl, h 32 _ rfl, h 33 _ rfl, h 34 _ rfl⟩
  · exact ⟨h 35 _ rfl, h 36 _ rfl, h 37 _ rfl, h 38 _ rfl, h 39 _ rfl, h 40 _ rfl, h 41 _ rfl⟩
  · exact ⟨h 42 _ rfl, h 43 _ rfl, h 44 _ rfl, h 45 _ rfl, h 46 _ rfl, h 47 _ rfl, h 48 _ rfl⟩
  · exact ⟨h 49 _ rfl, h 50 _ rfl, h 51 _ rfl, h 52 _ rfl, h 53 _ rfl, h 54 _ rfl, h 55 _ rfl⟩
  · exact ⟨h 56 _ rfl, h 57 _ rfl, h 58 _ rfl, h 59 _ rfl, h 60 _ rfl, h 61 _ rfl, h 62 _ rfl⟩
/-- the package's variables -/
structure CW (w : World) : Prop where
  t : PT w
  k : KT w
  c : Tab w 0
theorem CW.below {w w' : World} (h : CW w) (hb : Below w.heap.size w w') : CW w' := ⟨h.t.below hb, h.k.below hb, h.c.up hb⟩
theorem CW.alloc {w : World} (h : CW w) (o : Obj) : CW (w.alloc o) := h.below ((Below.refl _ _).alloc (Nat.le_refl _) o)
set_option maxRecDepth 100000 in
set_option maxHeartbeats 2000000 in
theorem checkC_ok (c : Int) (w : World) (h : Cl c) :
    Calls Tryd.prog 15 #[.int .i64 c] w fun e w' => e = .returned (.int .i64 0) ∧ Below w.heap.size w w' := by
  have B0 := Lib.hid (Bel.refl w)
  obtain ⟨c0, c1⟩ := h
  go_enter Tryd.func15, Tryd.ntmps15
  go_wp2_with fail
  go_ret
  exact ⟨by first | rfl | (simp; done) | (simp [go_sem]; done) | (simp [go_sem]; omega), B0.out.out⟩
set_option maxRecDepth 100000 in
set_option maxHeartbeats 2000000 in
theorem checkC_lo (c : Int) (w : World) (h : c < 1) :
    Calls Tryd.prog 15 #[.int .i64 c] w fun e w' => e = .returned (.int .i64 11) ∧ Below w.heap.size w w' := by
  have B0 := Lib.hid (Bel.refl w)
  go_enter Tryd.func15, Tryd.ntmps15
  go_wp2_with fail
  go_ret
  exact ⟨by first | rfl | (simp; done) | (simp [go_sem]; done) | (simp [go_sem]; omega), B0.out.out⟩
set_option maxRecDepth 100000 in
set_option maxHeartbeats 2000000 in
theorem checkC_hi (c : Int) (w : World) (h0 : 1 ≤ c) (h : 9 < c) :
    Calls Tryd.prog 15 #[.int .i64 c] w fun e w' => e = .returned (.int .i64 11) ∧ Below w.heap.size w w' := by
  have B0 := Lib.hid (Bel.refl w)
  go_enter Tryd.func15, Tryd.ntmps15
  go_wp2_with fail
  go_ret
  exact ⟨by first | rfl | (simp; done) | (simp [go_sem]; done) | (simp [go_sem]; omega), B0.out.out⟩
theorem checkC_bad (c : Int) (w : World) (h : ¬ Cl c) : Calls Tryd.prog 15 #[.int .i64 c] w fun e w' => e = .returned (.int .i64 11) ∧ Below w.heap.size w w' := by
  rcases not_cl h with h | ⟨h0, h⟩
  · exact checkC_lo c w h
  · exact checkC_hi c w h0 h
set_option maxRecDepth 100000 in
set_option maxHeartbeats 2000000 in
theorem valid_ok (c : Int) (w : World) (h : Cl c) :
    Calls Tryd.prog 19 #[.int .i64 c] w fun e w' => e = .returned (.bool true) ∧ Below w.heap.size w w' := by
  have B0 := Lib.hid (Bel.refl w)
  obtain ⟨c0, c1⟩ := h
  go_enter Tryd.func19, Tryd.ntmps19
  go_wp2_with fail
  go_ret
  exact ⟨by first | rfl | (simp; done) | (simp [go_sem]; done) | (simp [go_sem]; omega), B0.out.out⟩
set_option maxRecDepth 100000 in
set_option maxHeartbeats 2000000 in
theorem valid_lo (c : Int) (w : World) (h : c < 1) :
    Calls Tryd.prog 19 #[.int .i64 c] w fun e w' => e = .returned (.bool false) ∧ Below w.heap.size w w' := by
  have B0 := Lib.hid (Bel.refl w)
  go_enter Tryd.func19, Tryd.ntmps19
  go_wp2_with fail
  go_ret
  exact ⟨by first | rfl | (simp; done) | (simp [go_sem]; done) | (simp [go_sem]; omega), B0.out.out⟩
set_option maxRecDepth 100000 in
set_option maxHeartbeats 2000000 in
theorem valid_hi (c : Int) (w : World) (h0 : 1 ≤ c) (h : 9 < c) :
    Calls Tryd.prog 19 #[.int .i64 c] w fun e w' => e = .returned (.bool false) ∧ Below w.heap.size w w' := by
  have B0 := Lib.hid (Bel.refl w)
  go_enter Tryd.func19, Tryd.ntmps19
  go_wp2_with fail
  go_ret
  exact ⟨by first | rfl | (simp; done) | (simp [go_sem]; done) | (simp [go_sem]; omega), B0.out.out⟩
theorem valid_bad (c : Int) (w : World) (h : ¬ Cl c) : Calls Tryd.prog 19 #[.int .i64 c] w fun e w' => e = .returned (.bool false) ∧ Below w.heap.size w w' := by
  rcases not_cl h with h | ⟨h0, h⟩
  · exact valid_lo c w h
  · exact valid_hi c w h0 h
set_option maxRecDepth 100000 in
set_option maxHeartbeats 2000000 in
theorem near_ok (p : Int) (w : World) (h0 : -200 ≤ p) (h1 : p ≤ 200) :
    Calls Tryd.prog 35 #[.int .i64 p] w fun e w' => e = .returned (.bool true) ∧ Below w.heap.size w w' := by
  have B0 := Lib.hid (Bel.refl w)
  go_enter Tryd.func35, Tryd.ntmps35
  go_wp2_with fail
  go_ret
  exact ⟨by first | rfl | (simp; done) | (simp [go_sem]; done) | (simp [go_sem]; omega), B0.out.out⟩
set_option maxRecDepth 100000 in
set_option maxHeartbeats 2000000 in
theorem near_lo (p : Int) (w : World) (h : p < -200) :
    Calls Tryd.prog 35 #[.int .i64 p] w fun e w' => e = .returned (.bool false) ∧ Below w.heap.size w w' := by
  have B0 := Lib.hid (Bel.refl w)
  go_enter Tryd.func35, Tryd.ntmps35
  go_wp2_with fail
  go_ret
  exact ⟨by first | rfl | (simp; done) | (simp [go_sem]; done) | (simp [go_sem]; omega), B0.out.out⟩
set_option maxRecDepth 100000 in
set_option maxHeartbeats 2000000 in
theorem near_hi (p : Int) (w : World) (h0 : -200 ≤ p) (h : 200 < p) :
    Calls Tryd.prog 35 #[.int .i64 p] w fun e w' => e = .returned (.bool false) ∧ Below w.heap.size w w' := by
  have B0 := Lib.hid (Bel.refl w)
  go_enter Tryd.func35, Tryd.ntmps35
  go_wp2_with fail
  go_ret
  exact ⟨by first | rfl | (simp; done) | (simp [go_sem]; done) | (simp [go_sem]; omega), B0.out.out⟩
theorem near_bad (p : Int) (w : World) (h : p < -200 ∨ 200 < p) : Calls Tryd.prog 35 #[.int .i64 p] w fun e w' => e = .returned (.bool false) ∧ Below w.heap.size w w' := by
  by_cases k : p < -200
  · exact near_lo p w k
  · exact near_hi p w (by omega) (by omega)
end Go.Proofs.YtmdnlnjapkcanaaDoor
