/- Durations: Sum. -/
import Derived.Test.YtoobfcekgfgipaaDoorDm
namespace Go.Proofs.YtoobfcekgfgipaaDoor
open Go.RowKit
set_option linter.unusedVariables false
set_option linter.unusedSimpArgs false

/-- a slice of note values -/
def VsAt (w : World) (ad : Option Addr) (L : List (Int × Int)) : Prop := ∀ (k : Nat) (x : Int × Int), L[k]? = some x → ∃ b off, ad = some ⟨b, off, none⟩ ∧ w.cell? ⟨b, off + k * 2, none⟩ = some (.int .i64 x.1) ∧ w.cell? ⟨b, off + k * 2 + 1, none⟩ = some (.int .i64 x.2)
theorem VsAt.up {w w' : World} {ad : Option Addr} {L : List (Int × Int)} (h : VsAt w ad L) (hb : Below w.heap.size w w') : VsAt w' ad L := fun k x hx => by
  obtain ⟨b, off, h0, h1, h2⟩ := h k x hx
  exact ⟨b, off, h0, cell_up hb h1, cell_up hb h2⟩
/-- the sum of the first k values; whether they are valid -/
def sumT (L : List (Int × Int)) (k : Nat) : Int := ((L.take k).map fun x => lenV x.1 x.2).foldl (· + ·) 0
def okT (L : List (Int × Int)) (k : Nat) : Prop := ∀ (j : Nat) (x : Int × Int), j < k → L[j]? = some x → Va x.1 x.2
theorem okT_succ {L : List (Int × Int)} {k : Nat} {x : Int × Int} (h : okT L k) (hx : L[k]? = some x) (hv : Va x.1 x.2) : okT L (k + 1) := fun j y hj hy => by
  by_cases e : j = k
  · subst e; rw [hx] at hy; cases hy; exact hv
  · exact h j y (by omega) hy
theorem sumT_succ {L : List (Int × Int)} {k : Nat} {x : Int × Int} (hx : L[k]? = some x) : sumT L (k + 1) = sumT L k + lenV x.1 x.2 := by
  unfold sumT
  rw [List.take_add_one, hx]
  simp
theorem sumT_bd {L : List (Int × Int)} : ∀ {k : Nat}, k ≤ L.length → okT L k → 0 ≤ sumT L k ∧ sumT L k ≤ 7257600 * (k : Int) := by
  intro k
  induction k with
  | zero => intro _ _; simp [sumT]
  | succ k ih =>
    intro hk h
    obtain ⟨x, hx⟩ : ∃ x, L[k]? = some x := ⟨_, List.getElem?_eq_getElem (by omega)⟩
    have h1 := ih (by omega) (fun j y hj hy => h j y (by omega) hy)
    have h2 := lenV_bd (h k x (by omega) hx)
    rw [sumT_succ hx]
    omega
set_option maxRecDepth 100000 in
set_option maxHeartbeats 4000000 in
theorem sum_long (L : List (Int × Int)) (ad : Option Addr) (cap : Nat) (w : World) (hl : 1024 < L.length) :
    Calls Tryd.prog 16 #[.slice ad L.length cap] w fun e w' => e = .returned (.tuple #[.int .i64 0, .int .i64 5]) ∧ Below w.heap.size w w' := by
  have B0 := Lib.hid (Bel.refl w)
  have hd : decide (1024 < L.length) = true := decide_eq_true hl
  have hd2 : decide (1024 < (L.length : Int)) = true := decide_eq_true (by omega)
  go_enter Tryd.func16, Tryd.ntmps16
  go_wp2_with fail
  go_ret2
  exact ⟨rfl, B0.out.out⟩
set_option maxRecDepth 100000 in
set_option maxHeartbeats 4000000 in
theorem sum_y (L : List (Int × Int)) (ad : Option Addr) (cap : Nat) (w : World) (hl : L.length ≤ 1024) (hg : okT L L.length) (h : VsAt w ad L) :
    Calls Tryd.prog 16 #[.slice ad L.length cap] w fun e w' => e = .returned (.tuple #[.int .i64 (sumT L L.length), .int .i64 0]) ∧ Below w.heap.size w w' := by
  have B0 := Lib.hid (Bel.refl w)
  have H0 := Lib.hid h
  have hd : decide (1024 < L.length) = false := decide_eq_false (by omega)
  have hd2 : decide (1024 < (L.length : Int)) = false := decide_eq_false (by omega)
  clear h
  go_enter Tryd.func16, Tryd.ntmps16
  go_wp2_with fail
  go_loopg [4, 14] L.length (fun gm t i wr => ∃ k : Nat, k ≤ L.length ∧ gm = L.length - k ∧ i = .int .i64 (k : Int) ∧ t = .int .i64 (sumT L k) ∧ okT L k ∧ Hid (Bel w wr) ∧ Hid (VsAt wr ad L))
  case atStart => exact ⟨0, by omega, by omega, rfl, by rfl, fun j x hj => by omega, B0, H0⟩
  case round =>
    clear B0 H0
    obtain ⟨k, hk, rfl, rfl, rfl, hok, HB, HL⟩ := hrel
    obtain ⟨W0, hW0, HB, HL⟩ : ∃ W0, W0 = _ ∧ Hid (Bel w W0) ∧ Hid (VsAt W0 ad L) := ⟨_, rfl, HB, HL⟩
    subst hW0
    by_cases hlt : k < L.length
    · obtain ⟨x, hx⟩ : ∃ x, L[k]? = some x := ⟨_, List.getElem?_eq_getElem (by omega)⟩
      obtain ⟨b, off, rfl, c0, c1⟩ := HL.out k x hx
      have HB1 := Lib.hid (HB.out.alloc (.cells #[.int .i64 x.1, .int .i64 x.2] 23))
      have HL1 := Lib.hid (HL.out.up ((Below.refl _ _).alloc (Nat.le_refl _) (.cells #[.int .i64 x.1, .int .i64 x.2] 23)))
      obtain ⟨_, y0, y1, _, _⟩ := Duo.new W0 (.int .i64 x.1) (.int .i64 x.2) 23 W0.heap.size rfl
      have hv : Va x.1 x.2 := hg k x hlt hx
      have HK := Lib.hid (fun u => ticks_y x.1 x.2 u hv)
      have HO := Lib.hid (okT_succ hok hx hv)
      have HS := Lib.hid (sumT_succ hx)
      obtain ⟨s0, s1⟩ := sumT_bd (by omega) hok
      obtain ⟨t0, t1⟩ := lenV_bd hv
      obtain ⟨X, Y⟩ := x
      simp only at *
      generalize lenV X Y = Z at *
      generalize sumT L k = S at *
      clear hx hok hv
      go_wp2_with fail
      refine (HK.out _).mono ?_
      rintro e w2 ⟨rfl, hb⟩
      have HB2 := Lib.hid (HB1.out.up hb)
      have HL2 := Lib.hid (HL1.out.up hb)
      clear hb c0 c1 y0 y1 HB1 HL1 HB HL
      go_wp2_with fail
      go_roundg (L.length - (k + 1))
      case measure => omega
      case rel => exact ⟨k + 1, by omega, rfl, by go_num, by rw [HS.out], HO.out, HB2, HL2⟩
    · obtain rfl : k = L.length := by omega
      go_wp2_with fail
      go_ret2
      exact ⟨rfl, HB.out.out⟩
set_option maxRecDepth 100000 in
set_option maxHeartbeats 4000000 in
theorem sum_n (L : List (Int × Int)) (ad : Option Addr) (cap : Nat) (w : World) (hl : L.length ≤ 1024) (m : Nat) (z : Int × Int) (hz : L[m]? = some z) (hn : ¬ Va z.1 z.2) (hg : okT L m) (h : VsAt w ad L) :
    Calls Tryd.prog 16 #[.slice ad L.length cap] w fun e w' => e = .returned (.tuple #[.int .i64 0, .int .i64 17]) ∧ Below w.heap.size w w' := by
  have B0 := Lib.hid (Bel.refl w)
  have H0 := Lib.hid h
  have hd : decide (1024 < L.length) = false := decide_eq_false (by omega)
  have hd2 : decide (1024 < (L.length : Int)) = false := decide_eq_false (by omega)
  clear h
  have hml : m < L.length := (List.getElem?_eq_some_iff.1 hz).1
  go_enter Tryd.func16, Tryd.ntmps16
  go_wp2_with fail
  go_loopg [4, 14] L.length (fun gm t i wr => ∃ k : Nat, k ≤ m ∧ gm = L.length - k ∧ i = .int .i64 (k : Int) ∧ t = .int .i64 (sumT L k) ∧ okT L k ∧ Hid (Bel w wr) ∧ Hid (VsAt wr ad L))
  case atStart => exact ⟨0, by omega, by omega, rfl, by rfl, fun j x hj => by omega, B0, H0⟩
  case round =>
    clear B0 H0
    obtain ⟨k, hk, rfl, rfl, rfl, hok, HB, HL⟩ := hrel
    obtain ⟨W0, hW0, HB, HL⟩ : ∃ W0, W0 = _ ∧ Hid (Bel w W0) ∧ Hid (VsAt W0 ad L) := ⟨_, rfl, HB, HL⟩
    subst hW0
    by_cases hlt : k < m
    · obtain ⟨x, hx⟩ : ∃ x, L[k]? = some x := ⟨_, List.getElem?_eq_getElem (by omega)⟩
      obtain ⟨b, off, rfl, c0, c1⟩ := HL.out k x hx
      have HB1 := Lib.hid (HB.out.alloc (.cells #[.int .i64 x.1, .int .i64 x.2] 23))
      have HL1 := Lib.hid (HL.out.up ((Below.refl _ _).alloc (Nat.le_refl _) (.cells #[.int .i64 x.1, .int .i64 x.2] 23)))
      obtain ⟨_, y0, y1, _, _⟩ := Duo.new W0 (.int .i64 x.1) (.int .i64 x.2) 23 W0.heap.size rfl
      have hv : Va x.1 x.2 := hg k x hlt hx
      have HK := Lib.hid (fun u => ticks_y x.1 x.2 u hv)
      have HO := Lib.hid (okT_succ hok hx hv)
      have HS := Lib.hid (sumT_succ hx)
      obtain ⟨s0, s1⟩ := sumT_bd (by omega) hok
      obtain ⟨t0, t1⟩ := lenV_bd hv
      obtain ⟨X, Y⟩ := x
      simp only at *
      generalize lenV X Y = Z at *
      generalize sumT L k = S at *
      clear hx hok hv
      go_wp2_with fail
      refine (HK.out _).mono ?_
      rintro e w2 ⟨rfl, hb⟩
      have HB2 := Lib.hid (HB1.out.up hb)
      have HL2 := Lib.hid (HL1.out.up hb)
      clear hb c0 c1 y0 y1 HB1 HL1 HB HL
      go_wp2_with fail
      go_roundg (L.length - (k + 1))
      case measure => omega
      case rel => exact ⟨k + 1, by omega, rfl, by go_num, by rw [HS.out], HO.out, HB2, HL2⟩
    · obtain rfl : k = m := by omega
      obtain ⟨x, hx⟩ : ∃ x, L[k]? = some x := ⟨_, List.getElem?_eq_getElem (by omega)⟩
      obtain ⟨b, off, rfl, c0, c1⟩ := HL.out k x hx
      have HB1 := Lib.hid (HB.out.alloc (.cells #[.int .i64 x.1, .int .i64 x.2] 23))
      have HL1 := Lib.hid (HL.out.up ((Below.refl _ _).alloc (Nat.le_refl _) (.cells #[.int .i64 x.1, .int .i64 x.2] 23)))
      obtain ⟨_, y0, y1, _, _⟩ := Duo.new W0 (.int .i64 x.1) (.int .i64 x.2) 23 W0.heap.size rfl
      obtain rfl : x = z := Option.some.inj (hx.symm.trans hz)
      have HK := Lib.hid (fun u => ticks_n x.1 x.2 u hn)
      obtain ⟨X, Y⟩ := x
      simp only at *
      clear hx hz hn
      go_wp2_with fail
      refine (HK.out _).mono ?_
      rintro e w2 ⟨rfl, hb⟩
      have HB2 := Lib.hid (HB1.out.up hb)
      clear hb c0 c1 y0 y1 HB1 HL1
      go_wp2_with fail
      go_ret2
      exact ⟨rfl, HB2.out.out⟩
end Go.Proofs.YtoobfcekgfgipaaDoor
