/- Spans: names. -/
import Derived.Test.YtabafabebodojaaDoorSo
namespace Go.Proofs.YtabafabebodojaaDoor
open Go.RowKit Go.Lib
set_option linter.unusedVariables false
set_option linter.unusedSimpArgs false

def ntx (i : Nat) : ByteArray := ⟨(txtL.getD i []).toArray⟩
def nfd (N : ByteArray) : Nat := if ntx 0 = N then 1 else if ntx 1 = N then 2 else if ntx 2 = N then 3 else if ntx 3 = N then 4 else if ntx 4 = N then 5 else if ntx 5 = N then 6 else if ntx 6 = N then 7 else 0
theorem ntx_inj : ∀ j k : Fin 7, ntx j = ntx k → j = k := by decide +kernel
theorem nfd_at {N : ByteArray} {k : Nat} (hk : k < 7) (h : ntx k = N) : nfd N = k + 1 := by
  subst h
  have no : ∀ j : Nat, (hj : j < 7) → j ≠ k → ¬ ntx j = ntx k := fun j hj hne e => hne (congrArg Fin.val (ntx_inj ⟨j, hj⟩ ⟨k, hk⟩ e))
  unfold nfd
  match k, hk, no with
  | 0, _, no => rw [if_pos rfl]
  | 1, _, no => rw [if_neg (no 0 (by omega) (by omega)), if_pos rfl]
  | 2, _, no => rw [if_neg (no 0 (by omega) (by omega)), if_neg (no 1 (by omega) (by omega)), if_pos rfl]
  | 3, _, no => rw [if_neg (no 0 (by omega) (by omega)), if_neg (no 1 (by omega) (by omega)), if_neg (no 2 (by omega) (by omega)), if_pos rfl]
  | 4, _, no => rw [if_neg (no 0 (by omega) (by omega)), if_neg (no 1 (by omega) (by omega)), if_neg (no 2 (by omega) (by omega)), if_neg (no 3 (by omega) (by omega)), if_pos rfl]
  | 5, _, no => rw [if_neg (no 0 (by omega) (by omega)), if_neg (no 1 (by omega) (by omega)), if_neg (no 2 (by omega) (by omega)), if_neg (no 3 (by omega) (by omega)), if_neg (no 4 (by omega) (by omega)), if_pos rfl]
  | 6, _, no => rw [if_neg (no 0 (by omega) (by omega)), if_neg (no 1 (by omega) (by omega)), if_neg (no 2 (by omega) (by omega)), if_neg (no 3 (by omega) (by omega)), if_neg (no 4 (by omega) (by omega)), if_neg (no 5 (by omega) (by omega)), if_pos rfl]
theorem nfd_some {N : ByteArray} {F : Nat} (h : nfd N = F) (hF : F ≠ 0) : F ≤ 7 ∧ ntx (F - 1) = N := by
  subst h
  unfold nfd at hF ⊢
  repeat' split
  all_goals first | (refine ⟨by omega, ?_⟩; simpa using (by assumption)) | (simp_all; done)
theorem nfd_none {N : ByteArray} (h : ∀ k, k < 7 → ntx k ≠ N) : nfd N = 0 := by
  unfold nfd
  rw [if_neg (h 0 (by omega)), if_neg (h 1 (by omega)), if_neg (h 2 (by omega)), if_neg (h 3 (by omega)), if_neg (h 4 (by omega)), if_neg (h 5 (by omega)), if_neg (h 6 (by omega))]
theorem beq_yes {a b : ByteArray} (h : a = b) : (a.toList == b.toList) = true := by rw [h]; simp
theorem beq_no {a b : ByteArray} (h : a ≠ b) : (a.toList == b.toList) = false := by
  simp only [beq_eq_false_iff_ne, ne_eq]
  intro e
  rw [Go.ByteArray.toList_eq, Go.ByteArray.toList_eq] at e
  exact h (ByteArray.ext (Array.toList_inj.1 e))
theorem idx_nm_0 (w : World) : (Instr.index 95 (.agg #[.string ⟨#[115, 108, 117, 114]⟩, .string ⟨#[99, 114, 101, 115, 99, 101, 110, 100, 111]⟩, .string ⟨#[100, 105, 109, 105, 110, 117, 101, 110, 100, 111]⟩, .string ⟨#[56, 118, 97]⟩, .string ⟨#[56, 118, 98]⟩, .string ⟨#[112, 101, 100, 97, 108]⟩, .string ⟨#[116, 114, 105, 108, 108]⟩]) (.int .i64 0)).run Tryd.prog w = .ok (.string (ntx 0)) w := by kernel_rfl
theorem idx_nm_1 (w : World) : (Instr.index 95 (.agg #[.string ⟨#[115, 108, 117, 114]⟩, .string ⟨#[99, 114, 101, 115, 99, 101, 110, 100, 111]⟩, .string ⟨#[100, 105, 109, 105, 110, 117, 101, 110, 100, 111]⟩, .string ⟨#[56, 118, 97]⟩, .string ⟨#[56, 118, 98]⟩, .string ⟨#[112, 101, 100, 97, 108]⟩, .string ⟨#[116, 114, 105, 108, 108]⟩]) (.int .i64 1)).run Tryd.prog w = .ok (.string (ntx 1)) w := by kernel_rfl
theorem idx_nm_2 (w : World) : (Instr.index 95 (.agg #[.string ⟨#[115, 108, 117, 114]⟩, .string ⟨#[99, 114, 101, 115, 99, 101, 110, 100, 111]⟩, .string ⟨#[100, 105, 109, 105, 110, 117, 101, 110, 100, 111]⟩, .string ⟨#[56, 118, 97]⟩, .string ⟨#[56, 118, 98]⟩, .string ⟨#[112, 101, 100, 97, 108]⟩, .string ⟨#[116, 114, 105, 108, 108]⟩]) (.int .i64 2)).run Tryd.prog w = .ok (.string (ntx 2)) w := by kernel_rfl
theorem idx_nm_3 (w : World) : (Instr.index 95 (.agg #[.string ⟨#[115, 108, 117, 114]⟩, .string ⟨#[99, 114, 101, 115, 99, 101, 110, 100, 111]⟩, .string ⟨#[100, 105, 109, 105, 110, 117, 101, 110, 100, 111]⟩, .string ⟨#[56, 118, 97]⟩, .string ⟨#[56, 118, 98]⟩, .string ⟨#[112, 101, 100, 97, 108]⟩, .string ⟨#[116, 114, 105, 108, 108]⟩]) (.int .i64 3)).run Tryd.prog w = .ok (.string (ntx 3)) w := by kernel_rfl
theorem idx_nm_4 (w : World) : (Instr.index 95 (.agg #[.string ⟨#[115, 108, 117, 114]⟩, .string ⟨#[99, 114, 101, 115, 99, 101, 110, 100, 111]⟩, .string ⟨#[100, 105, 109, 105, 110, 117, 101, 110, 100, 111]⟩, .string ⟨#[56, 118, 97]⟩, .string ⟨#[56, 118, 98]⟩, .string ⟨#[112, 101, 100, 97, 108]⟩, .string ⟨#[116, 114, 105, 108, 108]⟩]) (.int .i64 4)).run Tryd.prog w = .ok (.string (ntx 4)) w := by kernel_rfl
theorem idx_nm_5 (w : World) : (Instr.index 95 (.agg #[.string ⟨#[115, 108, 117, 114]⟩, .string ⟨#[99, 114, 101, 115, 99, 101, 110, 100, 111]⟩, .string ⟨#[100, 105, 109, 105, 110, 117, 101, 110, 100, 111]⟩, .string ⟨#[56, 118, 97]⟩, .string ⟨#[56, 118, 98]⟩, .string ⟨#[112, 101, 100, 97, 108]⟩, .string ⟨#[116, 114, 105, 108, 108]⟩]) (.int .i64 5)).run Tryd.prog w = .ok (.string (ntx 5)) w := by kernel_rfl
theorem idx_nm_6 (w : World) : (Instr.index 95 (.agg #[.string ⟨#[115, 108, 117, 114]⟩, .string ⟨#[99, 114, 101, 115, 99, 101, 110, 100, 111]⟩, .string ⟨#[100, 105, 109, 105, 110, 117, 101, 110, 100, 111]⟩, .string ⟨#[56, 118, 97]⟩, .string ⟨#[56, 118, 98]⟩, .string ⟨#[112, 101, 100, 97, 108]⟩, .string ⟨#[116, 114, 105, 108, 108]⟩]) (.int .i64 6)).run Tryd.prog w = .ok (.string (ntx 6)) w := by kernel_rfl
theorem idx_nm (k : Nat) (hk : k < 7) (w : World) : (Instr.index 95 (.agg #[.string ⟨#[115, 108, 117, 114]⟩, .string ⟨#[99, 114, 101, 115, 99, 101, 110, 100, 111]⟩, .string ⟨#[100, 105, 109, 105, 110, 117, 101, 110, 100, 111]⟩, .string ⟨#[56, 118, 97]⟩, .string ⟨#[56, 118, 98]⟩, .string ⟨#[112, 101, 100, 97, 108]⟩, .string ⟨#[116, 114, 105, 108, 108]⟩]) (.int .i64 (k : Int))).run Tryd.prog w = .ok (.string (ntx k)) w := by
  match k, hk with
  | 0, _ => exact idx_nm_0 w
  | 1, _ => exact idx_nm_1 w
  | 2, _ => exact idx_nm_2 w
  | 3, _ => exact idx_nm_3 w
  | 4, _ => exact idx_nm_4 w
  | 5, _ => exact idx_nm_5 w
  | 6, _ => exact idx_nm_6 w
theorem KT.at {w : World} (h : KT w) (k : Nat) (hk : k < 7) : w.cell? ⟨0, k, none⟩ = some (.string (ntx k)) := by
  match k, hk with
  | 0, _ => exact h.all 0 (by omega)
  | 1, _ => exact h.all 1 (by omega)
  | 2, _ => exact h.all 2 (by omega)
  | 3, _ => exact h.all 3 (by omega)
  | 4, _ => exact h.all 4 (by omega)
  | 5, _ => exact h.all 5 (by omega)
  | 6, _ => exact h.all 6 (by omega)
set_option maxRecDepth 100000 in
set_option maxHeartbeats 2000000 in
theorem name_y (j : Nat) (hj : j < 7) (w : World) (hk : KT w) : Calls Tryd.prog 37 #[.int .i64 ((j : Int) + 1)] w fun e w' => e = .returned (.string (ntx j)) ∧ Below w.heap.size w w' := by
  have HK := Lib.hid hk
  clear hk
  go_enter Tryd.func37, Tryd.ntmps37
  go_wp2_with fail
  refine (isKind_at ((j : Int) + 1) true _ (by unfold isK; rw [decide_eq_true (show 1 ≤ (j : Int) + 1 by omega), decide_eq_true (show (j : Int) + 1 ≤ 7 by omega)]; rfl)).mono ?_
  rintro e w1 ⟨rfl, hb⟩
  have B1 := Lib.hid (Bel.up (Bel.refl w) hb)
  have t := (HK.out.below hb).at j hj
  clear hb
  go_wp2_with fail
  go_ret
  exact ⟨rfl, B1.out.out⟩
set_option maxRecDepth 100000 in
set_option maxHeartbeats 2000000 in
theorem name_n (k : Int) (h : isK k = false) (w : World) : Calls Tryd.prog 37 #[.int .i64 k] w fun e w' => e = .returned (.string ⟨#[]⟩) ∧ Below w.heap.size w w' := by
  go_enter Tryd.func37, Tryd.ntmps37
  go_wp2_with fail
  refine (isKind_at k false _ h).mono ?_
  rintro e w1 ⟨rfl, hb⟩
  have B1 := Lib.hid (Bel.up (Bel.refl w) hb)
  clear hb
  go_wp2_with fail
  go_ret
  exact ⟨rfl, B1.out.out⟩
set_option maxRecDepth 100000 in
set_option maxHeartbeats 4000000 in
theorem parse_at (N : ByteArray) (F : Nat) (E : Int) (h : nfd N = F) (hE : E = if F = 0 then 32 else 0) (w : World) (hk : KT w) :
    Calls Tryd.prog 36 #[.string N] w fun e w' => e = .returned (.tuple #[.int .i64 (F : Int), .int .i64 E]) ∧ Below w.heap.size w w' := by
  have t0 : w.cell? ⟨0, 0, none⟩ = some (.string ⟨#[115, 108, 117, 114]⟩) := hk.all 0 (by omega)
  have t1 : w.cell? ⟨0, 1, none⟩ = some (.string ⟨#[99, 114, 101, 115, 99, 101, 110, 100, 111]⟩) := hk.all 1 (by omega)
  have t2 : w.cell? ⟨0, 2, none⟩ = some (.string ⟨#[100, 105, 109, 105, 110, 117, 101, 110, 100, 111]⟩) := hk.all 2 (by omega)
  have t3 : w.cell? ⟨0, 3, none⟩ = some (.string ⟨#[56, 118, 97]⟩) := hk.all 3 (by omega)
  have t4 : w.cell? ⟨0, 4, none⟩ = some (.string ⟨#[56, 118, 98]⟩) := hk.all 4 (by omega)
  have t5 : w.cell? ⟨0, 5, none⟩ = some (.string ⟨#[112, 101, 100, 97, 108]⟩) := hk.all 5 (by omega)
  have t6 : w.cell? ⟨0, 6, none⟩ = some (.string ⟨#[116, 114, 105, 108, 108]⟩) := hk.all 6 (by omega)
  have HF := Lib.hid h
  have HE := Lib.hid hE
  clear h hE hk
  go_enter Tryd.func36, Tryd.ntmps36
  go_wp2_with fail
  clear t0 t1 t2 t3 t4 t5 t6
  go_loopg [7] 7 (fun gm i wr => ∃ k : Nat, k ≤ 7 ∧ gm = 7 - k ∧ i = .int .i64 (k : Int) ∧ Hid (∀ j, j < k → ntx j ≠ N) ∧ Hid (Bel w wr))
  case atStart => exact ⟨0, by omega, by omega, rfl, Lib.hid (fun j hj => absurd hj (by omega)), Lib.hid (Bel.refl w)⟩
  case round =>
    obtain ⟨k, hk, rfl, rfl, HN, HB⟩ := hrel
    by_cases hlt : k < 7
    · have hix := idx_nm k hlt
      by_cases he : ntx k = N
      · have hF : F = k + 1 := by rw [← HF.out, nfd_at hlt he]
        have hE : E = 0 := by rw [HE.out, if_neg (by omega)]
        have hq := beq_yes he.symm
        subst hF hE
        clear he
        go_wp2_with fail
        go_ret2
        exact ⟨by simp, HB.out.out⟩
      · have hq := beq_no (fun e => he e.symm)
        have HH := Lib.hid he
        clear he
        go_wp2_with fail
        go_roundg (7 - (k + 1))
        case measure => omega
        case rel => exact ⟨k + 1, by omega, rfl, by go_num, Lib.hid (fun j hj => by
            by_cases e : j = k
            · subst e; exact HH.out
            · exact HN.out j (by omega)), HB⟩
    · obtain rfl : k = 7 := by omega
      have hF : F = 0 := by rw [← HF.out]; exact nfd_none (fun j hj => HN.out j (by omega))
      have hE : E = 32 := by rw [HE.out, if_pos hF]
      subst hF hE
      go_wp2_with fail
      go_ret2
      exact ⟨rfl, HB.out.out⟩
set_option maxRecDepth 100000 in
set_option maxHeartbeats 2000000 in
theorem rnames_ok (w : World) : Calls Tryd.prog 35 #[] w fun e w' => ∃ b, e = .returned (.slice (some ⟨b, 0, none⟩) 7 7) ∧ Below w.heap.size w w' ∧ ∀ k, k < 7 → w'.cell? ⟨b, k, none⟩ = some (.string (ntx k)) := by
  have B0 := Lib.hid ((Bel.refl w).alloc (.cells #[.string ⟨#[115, 108, 117, 114]⟩, .string ⟨#[99, 114, 101, 115, 99, 101, 110, 100, 111]⟩, .string ⟨#[100, 105, 109, 105, 110, 117, 101, 110, 100, 111]⟩, .string ⟨#[56, 118, 97]⟩, .string ⟨#[56, 118, 98]⟩, .string ⟨#[112, 101, 100, 97, 108]⟩, .string ⟨#[116, 114, 105, 108, 108]⟩] 9))
  have T0 := tab_new w #[.string ⟨#[115, 108, 117, 114]⟩, .string ⟨#[99, 114, 101, 115, 99, 101, 110, 100, 111]⟩, .string ⟨#[100, 105, 109, 105, 110, 117, 101, 110, 100, 111]⟩, .string ⟨#[56, 118, 97]⟩, .string ⟨#[56, 118, 98]⟩, .string ⟨#[112, 101, 100, 97, 108]⟩, .string ⟨#[116, 114, 105, 108, 108]⟩] 9 w.heap.size rfl
  have HT := Lib.hid (show ∀ k, k < 7 → (w.alloc (.cells #[.string ⟨#[115, 108, 117, 114]⟩, .string ⟨#[99, 114, 101, 115, 99, 101, 110, 100, 111]⟩, .string ⟨#[100, 105, 109, 105, 110, 117, 101, 110, 100, 111]⟩, .string ⟨#[56, 118, 97]⟩, .string ⟨#[56, 118, 98]⟩, .string ⟨#[112, 101, 100, 97, 108]⟩, .string ⟨#[116, 114, 105, 108, 108]⟩] 9)).cell? ⟨w.heap.size, k, none⟩ = some (.string (ntx k)) from fun k hk => by
    match k, hk with
    | 0, _ => exact T0 0 _ rfl
    | 1, _ => exact T0 1 _ rfl
    | 2, _ => exact T0 2 _ rfl
    | 3, _ => exact T0 3 _ rfl
    | 4, _ => exact T0 4 _ rfl
    | 5, _ => exact T0 5 _ rfl
    | 6, _ => exact T0 6 _ rfl
    )
  clear T0
  go_enter Tryd.func35, Tryd.ntmps35
  go_wp2_with fail
  go_ret
  exact ⟨_, rfl, B0.out.out, HT.out⟩
end Go.Proofs.YtabafabebodojaaDoor
