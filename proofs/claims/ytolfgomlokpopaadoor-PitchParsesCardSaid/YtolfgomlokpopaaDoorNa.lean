/- The reference's Name. -/
import Derived.Test.YtolfgomlokpopaaDoorQa
import Derived.Test.YtolfgomlokpopaaDoorPk
import Derived.Deep.RegionWith
import Derived.Laws.IdiomStrings
import Derived.Deep.DeepCutAuto
namespace Go.Proofs.YtolfgomlokpopaaDoor
open Go.RowKit
set_option linter.unusedVariables false
set_option linter.unusedSimpArgs false

theorem signTab (w : World) (n : Nat) (hn : n = w.heap.size) {a : Int} (a0 : -2 ≤ a) (a1 : a ≤ 2) : (w.alloc (.cells #[.string ⟨#[98, 98]⟩, .string ⟨#[98]⟩, .string ⟨#[]⟩, .string ⟨#[35]⟩, .string ⟨#[35, 35]⟩] 9)).cell? ⟨n, (a + 2).toNat, none⟩ = some (.string (signAt (a + 2).toNat)) := by
  subst hn
  rcases (show a = -2 ∨ a = -1 ∨ a = 0 ∨ a = 1 ∨ a = 2 by omega) with rfl | rfl | rfl | rfl | rfl <;> simp [signAt]
theorem conv1 (w : World) (b : UInt8) (z : Int) (hz : z = (b.toNat : Int)) :
    (convert 68 9 (.slice (some ⟨w.heap.size, 0, none⟩) 1 1)).run Tryd.prog (w.alloc (.cells #[.int .u8 z] 5)) = .ok (.string ⟨#[b]⟩) (w.alloc (.cells #[.int .u8 z] 5)) := by
  subst hz
  refine run_convert_bytes_back (l := [b]) _ _ _ 5 _ 1 Tryd.underlying68 Tryd.underlying5 Tryd.underlying9 ?_
  intro j hj
  have : j = 0 := by simp at hj; exact hj
  subst this
  simp [Addr.add]
theorem itoa_m1 : itoaB (-1) = ⟨#[45, 49]⟩ := by unfold itoaB; rw [itoa_oct (by omega) (by omega)]; rfl
theorem itoa_0 : itoaB 0 = ⟨#[48]⟩ := by unfold itoaB; rw [itoa_oct (by omega) (by omega)]; rfl
theorem itoa_1 : itoaB 1 = ⟨#[49]⟩ := by unfold itoaB; rw [itoa_oct (by omega) (by omega)]; rfl
theorem itoa_2 : itoaB 2 = ⟨#[50]⟩ := by unfold itoaB; rw [itoa_oct (by omega) (by omega)]; rfl
theorem itoa_3 : itoaB 3 = ⟨#[51]⟩ := by unfold itoaB; rw [itoa_oct (by omega) (by omega)]; rfl
theorem itoa_4 : itoaB 4 = ⟨#[52]⟩ := by unfold itoaB; rw [itoa_oct (by omega) (by omega)]; rfl
theorem itoa_5 : itoaB 5 = ⟨#[53]⟩ := by unfold itoaB; rw [itoa_oct (by omega) (by omega)]; rfl
theorem itoa_6 : itoaB 6 = ⟨#[54]⟩ := by unfold itoaB; rw [itoa_oct (by omega) (by omega)]; rfl
theorem itoa_7 : itoaB 7 = ⟨#[55]⟩ := by unfold itoaB; rw [itoa_oct (by omega) (by omega)]; rfl
theorem itoa_8 : itoaB 8 = ⟨#[56]⟩ := by unfold itoaB; rw [itoa_oct (by omega) (by omega)]; rfl
theorem itoa_9 : itoaB 9 = ⟨#[57]⟩ := by unfold itoaB; rw [itoa_oct (by omega) (by omega)]; rfl
set_option maxRecDepth 100000 in
set_option maxHeartbeats 2000000 in
theorem refName_ok (i : Nat) (a o : Int) (w : World) (s1 : i ≤ 6) (a0 : -2 ≤ a) (a1 : a ≤ 2) (o0 : -1 ≤ o) (o1 : o ≤ 9) :
    Calls Tryd.prog 28 #[.agg #[.int .i64 (i : Int), .int .i64 a, .int .i64 o]] w fun e w' => e = .returned (.string (nameB i (a + 2).toNat o)) ∧ Below w.heap.size w w' := by
  have z1 := lett_size i
  have z2 := sign_size (a + 2).toNat
  unfold lettersB at z1
  have i0 : (0 : Int) ≤ (i : Int) := by omega
  have i1 : (i : Int) ≤ 6 := by omega
  have i2 : (i : Int) + 1 ≤ 7 := by omega
  have i4 : (i : Int) ≤ (i : Int) + 1 := by omega
  have i3 : IntKind.i64.wrap ((i : Int) + 1) = (i : Int) + 1 := (IntWalk.i64_left _).trans (IntWalk.wrap64_in _ ⟨by omega, by omega⟩)
  have i5 : IntKind.i64.wrap (a + 2) = a + 2 := (IntWalk.i64_left _).trans (IntWalk.wrap64_in _ ⟨by omega, by omega⟩)
  have X0 := Tri.new w (.int .i64 (i : Int)) (.int .i64 a) (.int .i64 o) 23 w.heap.size rfl
  have B1 := Lib.hid (((Bel.refl w).alloc (.cells #[.int .i64 (i : Int), .int .i64 a, .int .i64 o] 23)).alloc (.cells #[.string ⟨#[98, 98]⟩, .string ⟨#[98]⟩, .string ⟨#[]⟩, .string ⟨#[35]⟩, .string ⟨#[35, 35]⟩] 9))
  have X1 := X0.alloc (.cells #[.string ⟨#[98, 98]⟩, .string ⟨#[98]⟩, .string ⟨#[]⟩, .string ⟨#[35]⟩, .string ⟨#[35, 35]⟩] 9)
  have Z := signTab (w.alloc (.cells #[.int .i64 (i : Int), .int .i64 a, .int .i64 o] 23)) (w.heap.size + 1) (by simp) a0 a1
  obtain ⟨x0, x1, x2, x3, x4, x5, x6⟩ := id X0
  obtain ⟨y0, y1, y2, y3, y4, y5, y6⟩ := id X1
  go_enter Tryd.func28, Tryd.ntmps28
  go_wp2_with fail
  go_cut [3] (fun v wx => v = .string (lettersB.extract i (i + 1) ++ signAt (a + 2).toNat) ∧ Bel w wx ∧ Tri wx w.heap.size (.int .i64 (i : Int)) (.int .i64 a) (.int .i64 o))
  case first =>
    go_region_with (fail)
    all_goals (go_wp2_with fail; go_meet)
    all_goals exact ⟨rfl, Below.drew B1.out.out, X1.up ((Below.refl _ _).drew)⟩
  case rest =>
    obtain ⟨rfl, hB, hX⟩ := hcut
    clear X0 X1 x0 x1 x2 x3 x4 x5 x6 y0 y1 y2 y3 y4 y5 y6 Z B1
    have HB := Lib.hid hB
    clear hB
    obtain ⟨x0, x1, x2, x3, x4, x5, x6⟩ := id hX
    have z3 : (lettersB.extract i (i + 1)).size ≤ 7 := lett_size i
    have HN : Hid (nameB i (a + 2).toNat o = lettersB.extract i (i + 1) ++ signAt (a + 2).toNat ++ itoaB o) := rfl
    have z4 : (lettersB.extract i (i + 1) ++ signAt (a + 2).toNat).size ≤ 9 := by rw [ByteArray.size_append]; omega
    generalize lettersB.extract i (i + 1) ++ signAt (a + 2).toNat = S at *
    clear z1 z2 z3 i0 i1 i2 i3 i4 i5
    rcases (show o = -1 ∨ o = 0 ∨ o = 1 ∨ o = 2 ∨ o = 3 ∨ o = 4 ∨ o = 5 ∨ o = 6 ∨ o = 7 ∨ o = 8 ∨ o = 9 by omega) with rfl | rfl | rfl | rfl | rfl | rfl | rfl | rfl | rfl | rfl | rfl
    · skip
      go_wp2_with fail
      go_ret
      exact ⟨by rw [HN.out, itoa_m1]; rfl, HB.out⟩
    · have kc := conv1 wc 48 48 rfl
      go_wp2_with fail
      go_ret
      exact ⟨by rw [HN.out, itoa_0]; rfl, by first | exact HB.out.alloc _ | exact Below.drew (HB.out.alloc _) | exact below_drewN (HB.out.alloc _) _⟩
    · have kc := conv1 wc 49 49 rfl
      go_wp2_with fail
      go_ret
      exact ⟨by rw [HN.out, itoa_1]; rfl, by first | exact HB.out.alloc _ | exact Below.drew (HB.out.alloc _) | exact below_drewN (HB.out.alloc _) _⟩
    · have kc := conv1 wc 50 50 rfl
      go_wp2_with fail
      go_ret
      exact ⟨by rw [HN.out, itoa_2]; rfl, by first | exact HB.out.alloc _ | exact Below.drew (HB.out.alloc _) | exact below_drewN (HB.out.alloc _) _⟩
    · have kc := conv1 wc 51 51 rfl
      go_wp2_with fail
      go_ret
      exact ⟨by rw [HN.out, itoa_3]; rfl, by first | exact HB.out.alloc _ | exact Below.drew (HB.out.alloc _) | exact below_drewN (HB.out.alloc _) _⟩
    · have kc := conv1 wc 52 52 rfl
      go_wp2_with fail
      go_ret
      exact ⟨by rw [HN.out, itoa_4]; rfl, by first | exact HB.out.alloc _ | exact Below.drew (HB.out.alloc _) | exact below_drewN (HB.out.alloc _) _⟩
    · have kc := conv1 wc 53 53 rfl
      go_wp2_with fail
      go_ret
      exact ⟨by rw [HN.out, itoa_5]; rfl, by first | exact HB.out.alloc _ | exact Below.drew (HB.out.alloc _) | exact below_drewN (HB.out.alloc _) _⟩
    · have kc := conv1 wc 54 54 rfl
      go_wp2_with fail
      go_ret
      exact ⟨by rw [HN.out, itoa_6]; rfl, by first | exact HB.out.alloc _ | exact Below.drew (HB.out.alloc _) | exact below_drewN (HB.out.alloc _) _⟩
    · have kc := conv1 wc 55 55 rfl
      go_wp2_with fail
      go_ret
      exact ⟨by rw [HN.out, itoa_7]; rfl, by first | exact HB.out.alloc _ | exact Below.drew (HB.out.alloc _) | exact below_drewN (HB.out.alloc _) _⟩
    · have kc := conv1 wc 56 56 rfl
      go_wp2_with fail
      go_ret
      exact ⟨by rw [HN.out, itoa_8]; rfl, by first | exact HB.out.alloc _ | exact Below.drew (HB.out.alloc _) | exact below_drewN (HB.out.alloc _) _⟩
    · have kc := conv1 wc 57 57 rfl
      go_wp2_with fail
      go_ret
      exact ⟨by rw [HN.out, itoa_9]; rfl, by first | exact HB.out.alloc _ | exact Below.drew (HB.out.alloc _) | exact below_drewN (HB.out.alloc _) _⟩
end Go.Proofs.YtolfgomlokpopaaDoor
