/- Tuplets: those that contain an event. -/
import Derived.Test.YtidggmfgbcmklaaTll
namespace Go.Proofs.Ytidggmfgbcmklaa
open Go.RowKit
set_option linter.unusedVariables false
set_option linter.unusedSimpArgs false

/-- the tuplets among the first k that contain an event -/
def ownL (f : Nat → Tp) (x : Int) (k : Nat) : List Nat := (List.range k).filter fun j => decide ((f j).has x)
def subF (f : Nat → Tp) (x : Int) (n : Nat) : Nat → Tp := fun j => f ((ownL f x n).getD j 0)
theorem ownL_len (f : Nat → Tp) (x : Int) (k : Nat) : (ownL f x k).length = cnt f x k := (cnt_filter k).symm
theorem ownL_succ (f : Nat → Tp) (x : Int) (k : Nat) : ownL f x (k + 1) = ownL f x k ++ (if (f k).has x then [k] else []) := by
  unfold ownL
  rw [List.range_succ, List.filter_append]
  by_cases h : (f k).has x <;> simp [h]
theorem ownL_pre (f : Nat → Tp) (x : Int) (k d : Nat) : ∃ t, ownL f x (k + d) = ownL f x k ++ t := by
  induction d with
  | zero => exact ⟨[], by simp⟩
  | succ d ih =>
    obtain ⟨t, ht⟩ := ih
    exact ⟨t ++ (if (f (k + d)).has x then [k + d] else []), by rw [show k + (d + 1) = (k + d) + 1 from rfl, ownL_succ, ht, List.append_assoc]⟩
theorem subF_at {f : Nat → Tp} {x : Int} {k n : Nat} (hk : k < n) (hx : (f k).has x) : subF f x n (cnt f x k) = f k := by
  unfold subF
  obtain ⟨t, ht⟩ := ownL_pre f x (k + 1) (n - (k + 1))
  rw [show k + 1 + (n - (k + 1)) = n by omega, ownL_succ, if_pos hx] at ht
  rw [ht, List.append_assoc, List.getD_eq_getElem?_getD, List.getElem?_append_right (by rw [ownL_len]; exact Nat.le_refl _), ownL_len, Nat.sub_self]
  rfl
theorem sub_rat {f : Nat → Tp} {x : Int} {n : Nat} : ∀ k, k ≤ n → rat (subF f x n) x (cnt f x k) = rat f x k := by
  intro k
  induction k with
  | zero => intro _; rfl
  | succ k ih =>
    intro hk
    have h := ih (by omega)
    by_cases hx : (f k).has x
    · rw [show cnt f x (k + 1) = cnt f x k + 1 from if_pos hx, rat_yes (subF_at (by omega) hx) hx, rat_yes rfl hx, h]
    · rw [show cnt f x (k + 1) = cnt f x k from if_neg hx, rat_no rfl hx, h]
theorem good.sorted {f : Nat → Tp} {ev : Int} {k : Nat} (h : good f ev k) : ∀ {j i : Nat}, j ≤ i → i < k → ¬ (f i).after (f j) := by
  intro j i hji
  induction i with
  | zero => intro _; obtain rfl : j = 0 := by omega
            unfold Tp.after; omega
  | succ i ih =>
    intro hi
    by_cases e : j = i + 1
    · subst e; unfold Tp.after; omega
    · have h1 := ih (by omega) (by omega)
      have h2 := (h.parts hi).2.1
      unfold Tp.after at h1 h2 ⊢
      simp only [Nat.add_sub_cancel] at h2
      omega
theorem ownL_at {f : Nat → Tp} {x : Int} {n i : Nat} (hi : i < cnt f x n) : ∃ p, (ownL f x n)[i]? = some p ∧ p < n ∧ (f p).has x ∧ subF f x n i = f p := by
  have hl : i < (ownL f x n).length := by rw [ownL_len]; exact hi
  obtain ⟨p, hp⟩ : ∃ p, (ownL f x n)[i]? = some p := ⟨_, List.getElem?_eq_getElem hl⟩
  have hm := List.mem_of_getElem? hp
  unfold ownL at hm
  have hm := List.mem_filter.1 hm
  refine ⟨p, hp, List.mem_range.1 hm.1, of_decide_eq_true hm.2, ?_⟩
  unfold subF
  rw [List.getD_eq_getElem?_getD, hp]; rfl
theorem ownL_lt {f : Nat → Tp} {x : Int} {n i j p q : Nat} (hp : (ownL f x n)[i]? = some p) (hq : (ownL f x n)[j]? = some q) (hij : i < j) : p < q := by
  have hs : (ownL f x n).Pairwise (· < ·) := List.Pairwise.filter _ List.pairwise_lt_range
  obtain ⟨h1, rfl⟩ := List.getElem?_eq_some_iff.1 hp
  obtain ⟨h2, rfl⟩ := List.getElem?_eq_some_iff.1 hq
  exact List.pairwise_iff_getElem.1 hs i j h1 h2 hij
theorem sub_chk {f : Nat → Tp} {x : Int} {n : Nat} (h : chk f n 128 = 0) : chk (subF f x n) (cnt f x n) 128 = 0 := by
  have hg := (chk_zero h).2.2.2
  have hc := (Gd.chk h).ct x
  refine chk_ok (by omega) (by omega) (fun i hi => ?_)
  obtain ⟨p, hp, hpn, hpx, hpe⟩ := ownL_at hi
  have hpp := hg.parts hpn
  have key : ∀ k, k < i → ∃ q, q < p ∧ (f q).has x ∧ subF f x n k = f q := fun k hk => by
    obtain ⟨q, hq, hqn, hqx, hqe⟩ := ownL_at (f := f) (x := x) (n := n) (i := k) (by omega)
    exact ⟨q, ownL_lt hq hp hk, hqx, hqe⟩
  unfold err1
  rw [hpe, if_neg (fun g => g hpp.1)]
  rw [if_neg (fun g => by
    obtain ⟨q, hq, hqx, hqe⟩ := key (i - 1) (by omega)
    rw [hqe] at g
    exact hg.sorted (show q ≤ p by omega) hpn g.2)]
  have hok : okP (subF f x n) i := by
   refine ⟨?_, fun k hk => ?_⟩
   · refine Nat.lt_of_le_of_lt (m := i) ?_ (by omega)
     unfold opn
     exact Nat.le_trans (List.length_filter_le _ _) (by simp)
   · obtain ⟨hki, hke⟩ := mem_opn.1 hk
     obtain ⟨q, hq, hqx, hqe⟩ := key k hki
     rw [hqe] at hke ⊢
     rw [hpe] at hke ⊢
     exact hpp.2.2.2 q (mem_opn.2 ⟨hq, hke⟩)
  rw [if_neg (fun g => g hok)]
theorem sub_lenE {f : Nat → Tp} {x t : Int} {n : Nat} : lenE (subF f x n) (cnt f x n) x t = lenE f n x t := by
  unfold lenE; rw [sub_rat n (Nat.le_refl n)]
theorem sub_lenV {f : Nat → Tp} {x t : Int} {n : Nat} : lenV (subF f x n) (cnt f x n) x t = lenV f n x t := by
  unfold lenV; rw [sub_rat n (Nat.le_refl n), sub_lenE]
theorem infoT : (Try.prog.info? 52).map (fun i => (i.zero, i.size, i.bytes)) = some (some (.agg #[.int .i64 0, .int .i64 0, .int .i64 0, .int .i64 0]), 4, 32) := by kernel_rfl
theorem TsAt.grown {w w' : World} {ad : Option Addr} {n : Nat} {f : Nat → Tp} {row : Option Nat} (h : TsAt w ad n f) (hg : w.grownBy w' row) (hne : ∀ b off, ad = some ⟨b, off, none⟩ → some b ≠ row) : TsAt w' ad n f := fun k hk => by
  obtain ⟨b, off, e, h0, h1, h2, h3⟩ := h k hk
  have hb := hg.block b (lt_of_cell h0) (hne b off e)
  exact ⟨b, off, e, (World.cell?_of_block (w := w) (a := ⟨b, _, none⟩) hb).trans h0, (World.cell?_of_block (w := w) (a := ⟨b, _, none⟩) hb).trans h1, (World.cell?_of_block (w := w) (a := ⟨b, _, none⟩) hb).trans h2, (World.cell?_of_block (w := w) (a := ⟨b, _, none⟩) hb).trans h3⟩
/-- a row of tuplets of the call's own -/
def OwnT (w : World) (base : Nat) (v : Value) (n : Nat) (h : Nat → Tp) : Prop := w.ownsRow base 52 4 v n (flatT h n)
theorem OwnT.up {w w' : World} {base n : Nat} {v : Value} {h : Nat → Tp} (hx : OwnT w base v n h) (hb : Below w.heap.size w w') : OwnT w' base v n h := World.ownsRow.kept hx (grown_of_below hb) (by cases v.ownBlock <;> simp)
end Go.Proofs.Ytidggmfgbcmklaa
