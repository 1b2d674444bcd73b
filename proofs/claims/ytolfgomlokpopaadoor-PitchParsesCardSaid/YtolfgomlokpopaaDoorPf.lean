/- Pitches: the walks of the names' parts. -/
import Derived.Test.YtolfgomlokpopaaDoorPe
import Derived.Test.YtolfgomlokpopaaDoorShelf
import Derived.Lib.AppendIntMem
import Derived.Lib.QuietBelow
import Derived.Lib.ItoaLen
import Derived.Laws.Strings
namespace Go.Proofs.YtolfgomlokpopaaDoor
open Go.RowKit Go.Sort
set_option linter.unusedVariables false
set_option linter.unusedSimpArgs false

def Tab (w : World) : Prop := Lib.TabIs Tryd.prog w "internal/strconv.uint64pow10" .u64 Lib.pow10Tab
theorem Tab.below {w w' : World} (h : Tab w) (hb : Below w.heap.size w w') : Tab w' := Lib.tabBelow_of_tabIs h w' hb
theorem below_grow (w : World) (k : Nat) (os : Array Obj) : Below w.heap.size w (Sort.grow (w.drewN k) os) := by
  have h := below_regrown w (w.drawn + k) os
  exact h
def itoaB (n : Int) : ByteArray := ⟨(Lib.itoa n).toArray⟩
theorem itoa_call (n : Int) (w : World) (h0 : -9223372036854775808 ≤ n) (h1 : n ≤ 9223372036854775807) (ht : Tab w) :
    Calls Tryd.prog 38 #[.int .i64 n] w fun e w' => e = .returned (.string (itoaB n)) ∧ Below w.heap.size w w' :=
  (Tryd.strconv_Itoa n h0 h1 w ht).mono fun e w' ⟨he, k, os, hw⟩ => ⟨he, hw ▸ below_grow w k os⟩
def signAt : Nat → ByteArray
  | 0 => ⟨#[98, 98]⟩
  | 1 => ⟨#[98]⟩
  | 2 => ⟨#[]⟩
  | 3 => ⟨#[35]⟩
  | _ => ⟨#[35, 35]⟩
/-- all tables of the program read as they are laid -/
structure PW (w : World) : Prop where
  t : PT w
  tab : Tab w
  s0 : w.cell? ⟨1, 0, none⟩ = some (.string ⟨#[98, 98]⟩)
  s1 : w.cell? ⟨1, 1, none⟩ = some (.string ⟨#[98]⟩)
  s2 : w.cell? ⟨1, 2, none⟩ = some (.string ⟨#[]⟩)
  s3 : w.cell? ⟨1, 3, none⟩ = some (.string ⟨#[35]⟩)
  s4 : w.cell? ⟨1, 4, none⟩ = some (.string ⟨#[35, 35]⟩)
theorem PW.below {w w' : World} (h : PW w) (hb : Below w.heap.size w w') : PW w' :=
  ⟨h.t.below hb, h.tab.below hb, cell_up hb h.s0, cell_up hb h.s1, cell_up hb h.s2, cell_up hb h.s3, cell_up hb h.s4⟩
theorem PW.alloc {w : World} (h : PW w) (o : Obj) : PW (w.alloc o) := h.below ((Below.refl _ _).alloc (Nat.le_refl _) o)
theorem beq_yes {a b : ByteArray} (h : a = b) : (a.toList == b.toList) = true := by rw [h]; simp
theorem beq_no {a b : ByteArray} (h : a ≠ b) : (a.toList == b.toList) = false := by
  simp only [beq_eq_false_iff_ne, ne_eq]
  intro e
  rw [Go.ByteArray.toList_eq, Go.ByteArray.toList_eq] at e
  exact h (ByteArray.ext (Array.toList_inj.1 e))
theorem idxS_0 (w : World) : (Instr.index 61 (.agg #[.string ⟨#[98, 98]⟩, .string ⟨#[98]⟩, .string ⟨#[]⟩, .string ⟨#[35]⟩, .string ⟨#[35, 35]⟩]) (.int .i64 0)).run Tryd.prog w = .ok (.string ⟨#[98, 98]⟩) w := by kernel_rfl
theorem idxS_1 (w : World) : (Instr.index 61 (.agg #[.string ⟨#[98, 98]⟩, .string ⟨#[98]⟩, .string ⟨#[]⟩, .string ⟨#[35]⟩, .string ⟨#[35, 35]⟩]) (.int .i64 1)).run Tryd.prog w = .ok (.string ⟨#[98]⟩) w := by kernel_rfl
theorem idxS_2 (w : World) : (Instr.index 61 (.agg #[.string ⟨#[98, 98]⟩, .string ⟨#[98]⟩, .string ⟨#[]⟩, .string ⟨#[35]⟩, .string ⟨#[35, 35]⟩]) (.int .i64 2)).run Tryd.prog w = .ok (.string ⟨#[]⟩) w := by kernel_rfl
theorem idxS_3 (w : World) : (Instr.index 61 (.agg #[.string ⟨#[98, 98]⟩, .string ⟨#[98]⟩, .string ⟨#[]⟩, .string ⟨#[35]⟩, .string ⟨#[35, 35]⟩]) (.int .i64 3)).run Tryd.prog w = .ok (.string ⟨#[35]⟩) w := by kernel_rfl
theorem idxS_4 (w : World) : (Instr.index 61 (.agg #[.string ⟨#[98, 98]⟩, .string ⟨#[98]⟩, .string ⟨#[]⟩, .string ⟨#[35]⟩, .string ⟨#[35, 35]⟩]) (.int .i64 4)).run Tryd.prog w = .ok (.string ⟨#[35, 35]⟩) w := by kernel_rfl
theorem idxS_any (k : Nat) (hk : k < 5) (w : World) : (Instr.index 61 (.agg #[.string ⟨#[98, 98]⟩, .string ⟨#[98]⟩, .string ⟨#[]⟩, .string ⟨#[35]⟩, .string ⟨#[35, 35]⟩]) (.int .i64 (k : Int))).run Tryd.prog w = .ok (.string (signAt k)) w := by
  match k, hk with
  | 0, _ => exact idxS_0 w
  | 1, _ => exact idxS_1 w
  | 2, _ => exact idxS_2 w
  | 3, _ => exact idxS_3 w
  | 4, _ => exact idxS_4 w

/-- what parseSign returns -/
def SgnPost (s : ByteArray) (w : World) (e : Ending) (w' : World) : Prop :=
  (∃ k : Nat, k < 5 ∧ signAt k = s ∧ e = .returned (.tuple #[.int .i64 ((k : Int) - 2), .bool true]) ∧ w = w') ∨
  ((∀ k : Nat, k < 5 → signAt k ≠ s) ∧ e = .returned (.tuple #[.int .i64 0, .bool false]) ∧ w = w')
set_option maxRecDepth 100000 in
set_option maxHeartbeats 1000000 in
theorem parseSign_any (s : ByteArray) (w : World) (ht : PW w) :
    Calls Tryd.prog 41 #[.string s] w (SgnPost s w) := by
  obtain ⟨c0, c1, c2, c3, c4⟩ := And.intro ht.s0 (And.intro ht.s1 (And.intro ht.s2 (And.intro ht.s3 ht.s4)))
  clear ht
  go_enter Tryd.func41, Tryd.ntmps41
  go_wp2_with fail
  clear c0 c1 c2 c3 c4
  go_loop [7] (fun i => ∃ k : Nat, k ≤ 5 ∧ i = .int .i64 k ∧ Hid (∀ j : Nat, j < k → signAt j ≠ s)) (fun i => 5 - (intOf i).toNat)
  case atStart => exact ⟨0, by omega, rfl, Lib.hid (fun j hj => absurd hj (by omega))⟩
  case round =>
    obtain ⟨k, hk, rfl, HN⟩ := hrel
    by_cases hlt : k < 5
    · have ik := idxS_any k hlt
      by_cases hm : signAt k = s
      · have hm' := beq_yes hm
        have HM := Lib.hid hm
        clear hm
        go_wp2_with fail
        go_ret2
        exact .inl ⟨k, hlt, HM.out, rfl, rfl⟩
      · have hm' := beq_no hm
        have HM := Lib.hid hm
        clear hm
        go_wp2_with fail
        go_round
        case rel => exact ⟨k + 1, by omega, by go_num, Lib.hid (fun j hj => by
          by_cases e : j = k
          · subst e; exact HM.out
          · exact HN.out j (by omega))⟩
        case measure => simp [intOf]; omega
    · obtain rfl : k = 5 := by omega
      go_wp2_with fail
      go_ret2
      exact .inr ⟨HN.out, rfl, rfl⟩

/-- what parseOctave returns -/
def OctPost (s : ByteArray) (w : World) (e : Ending) (w' : World) : Prop :=
  (∃ o : Int, -1 ≤ o ∧ o ≤ 9 ∧ itoaB o = s ∧ e = .returned (.tuple #[.int .i64 o, .bool true]) ∧ Below w.heap.size w w') ∨
  ((∀ o : Int, -1 ≤ o → o ≤ 9 → itoaB o ≠ s) ∧ e = .returned (.tuple #[.int .i64 0, .bool false]) ∧ Below w.heap.size w w')
set_option maxRecDepth 100000 in
set_option maxHeartbeats 1000000 in
theorem parseOctave_any (s : ByteArray) (w : World) (ht : Tab w) :
    Calls Tryd.prog 42 #[.string s] w (OctPost s w) := by
  have HT := Lib.hid ht
  clear ht
  go_enter Tryd.func42, Tryd.ntmps42
  go_wp2_with fail
  go_loopg [4] 11 (fun gm i wr => ∃ o : Int, -1 ≤ o ∧ o ≤ 10 ∧ gm = (10 - o).toNat ∧ i = .int .i64 o ∧ Hid (∀ j : Int, -1 ≤ j → j < o → itoaB j ≠ s) ∧ Hid (Bel w wr))
  case atStart => exact ⟨-1, by omega, by omega, rfl, rfl, Lib.hid (fun j h0 h1 => absurd h1 (by omega)), Lib.hid (Bel.refl w)⟩
  case round =>
    obtain ⟨o, o0, o1, rfl, rfl, HN, HB⟩ := hrel
    by_cases hlt : o ≤ 9
    · go_wp2_with fail
      refine (itoa_call o _ (by omega) (by omega) (HT.out.below HB.out.out)).mono ?_
      rintro e w2 ⟨rfl, hb⟩
      have H2 := Lib.hid (HB.out.up hb)
      clear hb HB
      by_cases hm : itoaB o = s
      · have hm' := beq_yes hm
        have HM := Lib.hid hm
        clear hm
        go_wp2_with fail
        go_ret2
        exact .inl ⟨o, o0, hlt, HM.out, rfl, H2.out.out⟩
      · have hm' := beq_no hm
        have HM := Lib.hid hm
        clear hm
        go_wp2_with fail
        go_roundg (10 - (o + 1)).toNat
        case measure => omega
        case rel => exact ⟨o + 1, by omega, by omega, rfl, rfl, Lib.hid (fun j h0 h1 => by
          by_cases e : j = o
          · subst e; exact HM.out
          · exact HN.out j h0 (by omega)), H2⟩
    · obtain rfl : o = 10 := by omega
      go_wp2_with fail
      go_ret2
      exact .inr ⟨fun j h0 h1 => HN.out j h0 (by omega), rfl, HB.out.out⟩
end Go.Proofs.YtolfgomlokpopaaDoor
