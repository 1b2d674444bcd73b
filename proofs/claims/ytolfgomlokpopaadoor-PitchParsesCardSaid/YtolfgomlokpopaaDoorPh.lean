/- Pitches: the walk of Name. -/
import Derived.Test.YtolfgomlokpopaaDoorPg
namespace Go.Proofs.YtolfgomlokpopaaDoor
open Go.RowKit
set_option linter.unusedVariables false
set_option linter.unusedSimpArgs false

def lettersB : ByteArray := ⟨#[67, 68, 69, 70, 71, 65, 66]⟩
/-- the name of a pitch: its step, its alteration and two, its octave -/
def nameB (i k : Nat) (o : Int) : ByteArray := lettersB.extract i (i + 1) ++ signAt k ++ itoaB o
theorem sign_cell {w : World} (h : PW w) (k : Nat) (hk : k < 5) : w.cell? ⟨1, k, none⟩ = some (.string (signAt k)) := by
  match k, hk with
  | 0, _ => exact h.s0
  | 1, _ => exact h.s1
  | 2, _ => exact h.s2
  | 3, _ => exact h.s3
  | 4, _ => exact h.s4
theorem sign_size (k : Nat) : (signAt k).size ≤ 2 := by
  match k with
  | 0 => decide
  | 1 => decide
  | 2 => decide
  | 3 => decide
  | 4 => decide
  | n + 5 => exact (by decide : (⟨#[35, 35]⟩ : ByteArray).size ≤ 2)
theorem itoaB_size {o : Int} (h0 : -1 ≤ o) (h1 : o ≤ 9) : (itoaB o).size ≤ 21 := by
  have := Lib.itoa_length_le o (by omega) (by omega)
  rw [size_list]; simpa [itoaB] using this
theorem lett_size (i : Nat) : (lettersB.extract i (i + 1)).size ≤ 7 := by
  rw [ByteArray.size_extract]
  have : lettersB.size = 7 := rfl
  omega

set_option maxRecDepth 100000 in
set_option maxHeartbeats 2000000 in
theorem name_ok (i k : Nat) (o : Int) (w : World) (hp : Pit (i : Int) ((k : Int) - 2) o) (ht : PW w) :
    Calls Tryd.prog 26 #[.agg #[.int .i64 (i : Int), .int .i64 ((k : Int) - 2), .int .i64 o]] w fun e w' => e = .returned (.tuple #[.string (nameB i k o), .int .i64 0]) ∧ Below w.heap.size w w' := by
  have HP := Lib.hid hp
  have h1 := hp.s1; have h3 := hp.a1; have h2 := hp.a0; have h4 := hp.o0; have h5 := hp.o1
  have HT := Lib.hid (ht.alloc (.cells #[.int .i64 (i : Int), .int .i64 ((k : Int) - 2), .int .i64 o] 23))
  have B0 := Lib.hid ((Bel.refl w).alloc (.cells #[.int .i64 (i : Int), .int .i64 ((k : Int) - 2), .int .i64 o] 23))
  have X0 := Tri.new w (.int .i64 (i : Int)) (.int .i64 ((k : Int) - 2)) (.int .i64 o) 23 w.heap.size rfl
  clear ht hp
  go_enter Tryd.func26, Tryd.ntmps26
  go_wp2_with fail
  refine (check_ok _ _ _ _ HP.out HT.out.t).mono ?_
  rintro e w1 ⟨rfl, hb⟩
  have B1 := Lib.hid (B0.out.up hb)
  have T1 := Lib.hid (HT.out.below hb)
  have X1 := X0.up hb
  clear hb X0 B0
  obtain ⟨x0, x1, x2, x3, x4, x5, x6⟩ := id X1
  have z1 := lett_size i
  have z2 := sign_size k
  have z3 := itoaB_size h4 h5
  unfold lettersB at z1
  have cs := sign_cell T1.out k (by omega)
  go_wp2_with fail
  refine Qt.regionAll (by kernel_rfl) (by kernel_rfl) ?_
  intro T f F hne
  have HB := Lib.hid (fun t => B1.out.up (F.below t))
  have HW := Lib.hid (fun t => T1.out.below (F.below t))
  have YP := fun t => X1.up (F.below t)
  have a1 := fun t => (YP t).c0; have a2 := fun t => (YP t).c1; have a3 := fun t => (YP t).c2
  have a4 := fun t => sign_cell (HW.out t) k (by omega)
  clear x0 x1 x2 x3 x4 x5 x6 cs
  repeat (go_big_quiet_step (first | (go_at_call 38; exact F.call (itoa_call _ _ (by omega) (by omega) (HW.out _).tab))))
  refine wpQuiet_nil ?_
  rintro _ ⟨t, rfl⟩
  go_wp2
  go_ret2
  exact ⟨rfl, (HB.out t).out⟩
end Go.Proofs.YtolfgomlokpopaaDoor
