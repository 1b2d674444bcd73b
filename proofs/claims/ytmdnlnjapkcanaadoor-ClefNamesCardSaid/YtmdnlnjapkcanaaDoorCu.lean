/- Clefs: Find, Name, Sign; law ClefNames. -/
import Derived.Test.YtmdnlnjapkcanaaDoorCj
import Derived.Deep.MidRow
namespace Go.Proofs.YtmdnlnjapkcanaaDoor
open Go.RowKit
set_option linter.unusedVariables false
set_option linter.unusedSimpArgs false

def fnd (s : ByteArray) : Nat := if namB 1 = s then 1 else if namB 2 = s then 2 else if namB 3 = s then 3 else if namB 4 = s then 4 else if namB 5 = s then 5 else if namB 6 = s then 6 else if namB 7 = s then 7 else if namB 8 = s then 8 else if namB 9 = s then 9 else 0
theorem namB_ne : ∀ i j : Fin 9, i ≠ j → namB ((i.val : Int) + 1) ≠ namB ((j.val : Int) + 1) := by decide
theorem fnd_some {s : ByteArray} {k : Nat} (h : fnd s = k) (hk : k ≠ 0) : k ≤ 9 ∧ namB (k : Int) = s := by
  unfold fnd at h
  split at h
  · subst h; exact ⟨by omega, by assumption⟩
  split at h
  · subst h; exact ⟨by omega, by assumption⟩
  split at h
  · subst h; exact ⟨by omega, by assumption⟩
  split at h
  · subst h; exact ⟨by omega, by assumption⟩
  split at h
  · subst h; exact ⟨by omega, by assumption⟩
  split at h
  · subst h; exact ⟨by omega, by assumption⟩
  split at h
  · subst h; exact ⟨by omega, by assumption⟩
  split at h
  · subst h; exact ⟨by omega, by assumption⟩
  split at h
  · subst h; exact ⟨by omega, by assumption⟩
  omega
theorem fnd_hit {s : ByteArray} {k : Nat} (h1 : 1 ≤ k) (h9 : k ≤ 9) (h : namB (k : Int) = s) : fnd s = k := by
  subst h
  match k, h1, h9 with
  | 1, _, _ => exact (by decide : fnd (namB 1) = 1)
  | 2, _, _ => exact (by decide : fnd (namB 2) = 2)
  | 3, _, _ => exact (by decide : fnd (namB 3) = 3)
  | 4, _, _ => exact (by decide : fnd (namB 4) = 4)
  | 5, _, _ => exact (by decide : fnd (namB 5) = 5)
  | 6, _, _ => exact (by decide : fnd (namB 6) = 6)
  | 7, _, _ => exact (by decide : fnd (namB 7) = 7)
  | 8, _, _ => exact (by decide : fnd (namB 8) = 8)
  | 9, _, _ => exact (by decide : fnd (namB 9) = 9)
theorem beq_yes {a b : ByteArray} (h : a = b) : (a.toList == b.toList) = true := by rw [h]; simp
theorem beq_no {a b : ByteArray} (h : a ≠ b) : (a.toList == b.toList) = false := by
  simp only [beq_eq_false_iff_ne, ne_eq]
  intro e
  rw [Go.ByteArray.toList_eq, Go.ByteArray.toList_eq] at e
  exact h (ByteArray.ext (Array.toList_inj.1 e))
theorem idx_0 (w : World) : (Instr.index 65 (.agg tabV.toArray) (.int .i64 0)).run Tryd.prog w = .ok (.agg #[.string ⟨#[116, 114, 101, 98, 108, 101]⟩, .int .u8 71, .int .i64 (-2), .int .i64 0, .int .i64 34, .int .i64 (-1), .int .i64 (-3)]) w := by kernel_rfl
theorem idx_1 (w : World) : (Instr.index 65 (.agg tabV.toArray) (.int .i64 1)).run Tryd.prog w = .ok (.agg #[.string ⟨#[98, 97, 115, 115]⟩, .int .u8 70, .int .i64 2, .int .i64 0, .int .i64 22, .int .i64 (-3), .int .i64 (-5)]) w := by kernel_rfl
theorem idx_2 (w : World) : (Instr.index 65 (.agg tabV.toArray) (.int .i64 2)).run Tryd.prog w = .ok (.agg #[.string ⟨#[97, 108, 116, 111]⟩, .int .u8 67, .int .i64 0, .int .i64 0, .int .i64 28, .int .i64 (-2), .int .i64 (-4)]) w := by kernel_rfl
theorem idx_3 (w : World) : (Instr.index 65 (.agg tabV.toArray) (.int .i64 3)).run Tryd.prog w = .ok (.agg #[.string ⟨#[116, 101, 110, 111, 114]⟩, .int .u8 67, .int .i64 2, .int .i64 0, .int .i64 26, .int .i64 (-2), .int .i64 (-2)]) w := by kernel_rfl
theorem idx_4 (w : World) : (Instr.index 65 (.agg tabV.toArray) (.int .i64 4)).run Tryd.prog w = .ok (.agg #[.string ⟨#[115, 111, 112, 114, 97, 110, 111]⟩, .int .u8 67, .int .i64 (-4), .int .i64 0, .int .i64 32, .int .i64 (-2), .int .i64 (-3)]) w := by kernel_rfl
theorem idx_5 (w : World) : (Instr.index 65 (.agg tabV.toArray) (.int .i64 5)).run Tryd.prog w = .ok (.agg #[.string ⟨#[109, 101, 122, 122, 111, 115, 111, 112, 114, 97, 110, 111]⟩, .int .u8 67, .int .i64 (-2), .int .i64 0, .int .i64 30, .int .i64 (-2), .int .i64 (-3)]) w := by kernel_rfl
theorem idx_6 (w : World) : (Instr.index 65 (.agg tabV.toArray) (.int .i64 6)).run Tryd.prog w = .ok (.agg #[.string ⟨#[98, 97, 114, 105, 116, 111, 110, 101]⟩, .int .u8 70, .int .i64 0, .int .i64 0, .int .i64 24, .int .i64 (-2), .int .i64 (-3)]) w := by kernel_rfl
theorem idx_7 (w : World) : (Instr.index 65 (.agg tabV.toArray) (.int .i64 7)).run Tryd.prog w = .ok (.agg #[.string ⟨#[116, 114, 101, 98, 108, 101, 56]⟩, .int .u8 71, .int .i64 (-2), .int .i64 (-1), .int .i64 27, .int .i64 (-1), .int .i64 (-3)]) w := by kernel_rfl
theorem idx_8 (w : World) : (Instr.index 65 (.agg tabV.toArray) (.int .i64 8)).run Tryd.prog w = .ok (.agg #[.string ⟨#[98, 97, 115, 115, 56]⟩, .int .u8 70, .int .i64 2, .int .i64 (-1), .int .i64 15, .int .i64 (-3), .int .i64 (-5)]) w := by kernel_rfl
theorem idx_any (k : Nat) (hk : k < 9) (w : World) : (Instr.index 65 (.agg tabV.toArray) (.int .i64 (k : Int))).run Tryd.prog w = .ok (.agg #[.string (namB ((k : Int) + 1)), .int .u8 (ltrI ((k : Int) + 1)), .int .i64 (linI ((k : Int) + 1)), .int .i64 (octI ((k : Int) + 1)), .int .i64 (midI ((k : Int) + 1)), .int .i64 (shaI ((k : Int) + 1)), .int .i64 (flaI ((k : Int) + 1))]) w := by
  match k, hk with
  | 0, _ => exact idx_0 w
  | 1, _ => exact idx_1 w
  | 2, _ => exact idx_2 w
  | 3, _ => exact idx_3 w
  | 4, _ => exact idx_4 w
  | 5, _ => exact idx_5 w
  | 6, _ => exact idx_6 w
  | 7, _ => exact idx_7 w
  | 8, _ => exact idx_8 w
set_option maxRecDepth 100000 in
set_option maxHeartbeats 4000000 in
theorem find_any (S : ByteArray) (w : World) (hc : CW w) :
    Calls Tryd.prog 30 #[.string S] w fun e w' => e = .returned (.tuple #[.int .i64 (fnd S : Int), .int .i64 (if fnd S = 0 then 8 else 0)]) ∧ Below w.heap.size w w' := by
  have B0 := Lib.hid (Bel.refl w)
  have C0 := Lib.hid hc
  clear hc
  have HX := Lib.hid (fun (k : Nat) (h1 : 1 ≤ k) (h9 : k ≤ 9) (h : namB (k : Int) = S) => fnd_hit h1 h9 h)
  have HY := Lib.hid (fun (k : Nat) (h : fnd S = k) (hk : k ≠ 0) => fnd_some h hk)
  obtain ⟨F, hF⟩ : ∃ F, fnd S = F := ⟨_, rfl⟩
  rw [hF]
  simp only [hF] at HX HY
  clear hF
  obtain ⟨E, hE⟩ : ∃ E : Int, (if F = 0 then (8 : Int) else 0) = E := ⟨_, rfl⟩
  rw [hE]
  replace hE := Lib.hid hE
  go_enter Tryd.func30, Tryd.ntmps30
  go_wp2_with (refine wpList_load_mid rfl 65 _ rfl 0 0 rfl tabV _ (fun j v hv => by rw [Nat.zero_add]; exact C0.out.c j v hv) Tryd.underlying65 rfl (by kernel_rfl) ?_)
  go_loopg [7] 9 (fun gm i wr => ∃ k : Nat, k ≤ 9 ∧ gm = 9 - k ∧ i = .int .i64 (k : Int) ∧ Hid (F = 0 ∨ k < F) ∧ Hid (Bel w wr))
  case atStart => exact ⟨0, by omega, by omega, rfl, Lib.hid (by omega), B0⟩
  case round =>
    obtain ⟨k, hk, rfl, rfl, HF, HB⟩ := hrel
    clear B0
    by_cases hlt : k < 9
    · have hix := idx_any k hlt
      have B1 := Lib.hid (HB.out.alloc (.cells #[.string (namB ((k : Int) + 1)), .int .u8 (ltrI ((k : Int) + 1)), .int .i64 (linI ((k : Int) + 1)), .int .i64 (octI ((k : Int) + 1)), .int .i64 (midI ((k : Int) + 1)), .int .i64 (shaI ((k : Int) + 1)), .int .i64 (flaI ((k : Int) + 1))] 64))
      have c0 := tab_new wr #[.string (namB ((k : Int) + 1)), .int .u8 (ltrI ((k : Int) + 1)), .int .i64 (linI ((k : Int) + 1)), .int .i64 (octI ((k : Int) + 1)), .int .i64 (midI ((k : Int) + 1)), .int .i64 (shaI ((k : Int) + 1)), .int .i64 (flaI ((k : Int) + 1))] 64 wr.heap.size rfl 0 _ rfl
      generalize ltrI ((k : Int) + 1) = x1 at *
      generalize linI ((k : Int) + 1) = x2 at *
      generalize octI ((k : Int) + 1) = x3 at *
      generalize midI ((k : Int) + 1) = x4 at *
      generalize shaI ((k : Int) + 1) = x5 at *
      generalize flaI ((k : Int) + 1) = x6 at *
      have hcast : ((k + 1 : Nat) : Int) = (k : Int) + 1 := by omega
      by_cases he : namB ((k : Int) + 1) = S
      · have hF := Lib.hid (show F = k + 1 from HX.out (k + 1) (by omega) (by omega) (by rw [hcast]; exact he))
        have hq := beq_yes he
        clear he hcast
        generalize namB ((k : Int) + 1) = NB at *
        go_wp2_with fail
        go_ret2
        exact ⟨by rw [← hE.out, hF.out, if_neg (by omega)]; rfl, B1.out.out⟩
      · have hF := Lib.hid (show F = 0 ∨ k + 1 < F by
          rcases HF.out with h | h
          · exact .inl h
          · refine .inr ?_
            have h2 := HY.out F rfl (by omega)
            have h3 : F ≠ k + 1 := fun e => he (by rw [← hcast, ← e]; exact h2.2)
            omega)
        have hq := beq_no he
        clear he hcast
        generalize namB ((k : Int) + 1) = NB at *
        go_wp2_with fail
        go_roundg (9 - (k + 1))
        case measure => omega
        case rel => exact ⟨k + 1, by omega, rfl, by go_num, hF, B1⟩
    · obtain rfl : k = 9 := by omega
      have hF := Lib.hid (show F = 0 by
        rcases HF.out with h | h
        · exact h
        · have := (HY.out F rfl (by omega)).1
          omega)
      go_wp2_with fail
      go_ret2
      exact ⟨by rw [← hE.out, hF.out]; rfl, HB.out.out⟩
end Go.Proofs.YtmdnlnjapkcanaaDoor
