/- The walks of the text of a fraction and of the numbers in a text. -/
import Derived.Test.YtknojlccfjdpeaaDoorRe
import Derived.Test.YtknojlccfjdpeaaDoorShelf
import Derived.Lib.AppendIntMem
import Derived.Lib.QuietBelow
import Derived.Lib.AtoiErrMem
import Derived.Lib.ItoaLen
namespace Go.Proofs.YtknojlccfjdpeaaDoor
open Go.RowKit Go.Sort
set_option linter.unusedVariables false

/-- The table of powers of ten reads as it is laid. -/
def Tab (w : World) : Prop := Lib.TabIs Tryd.prog w "internal/strconv.uint64pow10" .u64 Lib.pow10Tab
theorem Tab.below {w w' : World} (h : Tab w) (hb : Below w.heap.size w w') : Tab w' := Lib.tabBelow_of_tabIs h w' hb

theorem below_grow (w : World) (k : Nat) (os : Array Obj) : Below w.heap.size w (Sort.grow (w.drewN k) os) := by
  have h := below_regrown w (w.drawn + k) os
  exact h

theorem itoa_call (n : Int) (w : World) (h0 : -9223372036854775808 ≤ n) (h1 : n ≤ 9223372036854775807) (ht : Tab w) :
    Calls Tryd.prog 18 #[.int .i64 n] w fun e w' => e = .returned (.string ⟨(Lib.itoa n).toArray⟩) ∧ Below w.heap.size w w' :=
  (Tryd.strconv_Itoa n h0 h1 w ht).mono fun e w' ⟨he, k, os, hw⟩ => ⟨he, hw ▸ below_grow w k os⟩

theorem atoi_call (s : ByteArray) (n : Int) (hl : s.size ≤ 18) (h : Lib.atoi s.data.toList = some n) (w : World) :
    Calls Tryd.prog 34 #[.string s] w fun e w' => e = .returned (.tuple #[.int .i64 n, .nilIface]) ∧ Below w.heap.size w w' :=
  (Tryd.strconv_Atoi s n hl h w).mono fun e w' ⟨he, t, hw⟩ => ⟨he, hw ▸ Lib.bytesWorld_below w _ t⟩

set_option maxHeartbeats 400000 in
theorem text_int (a : Int) (w : World) (a0 : -1073741824 ≤ a) (a1 : a ≤ 1073741824) (ht : Tab w) :
    Calls Tryd.prog 8 #[.agg #[.int .i64 a, .int .i64 0]] w fun e w' => e = .returned (.string ⟨(Lib.itoa a).toArray⟩) ∧ Below w.heap.size w w' := by
  have HT := Lib.hid (ht.below ((Below.refl _ _).alloc (Nat.le_refl _) (.cells #[.int .i64 a, .int .i64 0] 24)))
  clear ht
  go_enter Tryd.func8, Tryd.ntmps8
  go_wp2_with fail
  refine (itoa_call a _ (by omega) (by omega) HT.out).mono ?_
  rintro e w1 ⟨rfl, hb⟩
  go_wp2
  go_ret
  exact ⟨rfl, ((Below.refl _ _).alloc (Nat.le_refl _) _).trans (hb.mono (by simp))⟩

theorem ret_str {a b : ByteArray} (h : a.data.toList = b.data.toList) : Ending.returned (.string a) = .returned (.string b) := by
  rw [ByteArray.ext (Array.toList_inj.1 h)]
theorem not_long {n m : Nat} (h : n ≤ 21) (hm : m ≤ 100) : ¬ 9223372036854775807 < n + m := by omega
set_option maxHeartbeats 400000 in
theorem text_frac (a m : Int) (w : World) (a0 : -1073741824 ≤ a) (a1 : a ≤ 1073741824) (m0 : 1 ≤ m) (m1 : m ≤ 1073741823) (ht : Tab w) :
    Calls Tryd.prog 8 #[.agg #[.int .i64 a, .int .i64 m]] w fun e w' => e = .returned (.string ⟨(Lib.itoa a ++ 47 :: Lib.itoa (m + 1)).toArray⟩) ∧ Below w.heap.size w w' := by
  have hz : (m == 0) = false := by simp; omega
  have HT := Lib.hid ht
  clear ht
  have l1 := Lib.itoa_length_le a (by omega) (by omega)
  have l2 := Lib.itoa_length_le (m + 1) (by omega) (by omega)
  have n1 := not_long (m := 1) l1 (by omega)
  go_enter Tryd.func8, Tryd.ntmps8
  go_wp2
  refine Qt.regionAll (by kernel_rfl) (by kernel_rfl) ?_
  intro T f F hne
  have HB := Lib.hid (fun t => Below.trans ((Below.refl _ _).alloc (Nat.le_refl _) _) ((F.below t).mono (by simp)) : ∀ t, Below w.heap.size w (f t))
  have hc := F.cell
  have hf := F.frozen
  repeat (go_big_quiet_step (first | (go_at_call 19; exact F.call (den_any _ _ _ (by omega) (by omega))) | (go_at_call 18; exact F.call (itoa_call _ _ (by omega) (by omega) (HT.out.below (HB.out _))))))
  refine wpQuiet_nil ?_
  rintro _ ⟨t, rfl⟩
  go_wp2
  go_ret
  exact ⟨ret_str (by simp), HB.out t⟩

end Go.Proofs.YtknojlccfjdpeaaDoor
