/- Clefs: ledger lines. -/
import Derived.Test.YtmdnlnjapkcanaaDoorCd
namespace Go.Proofs.YtmdnlnjapkcanaaDoor
open Go.RowKit
set_option linter.unusedVariables false
set_option linter.unusedSimpArgs false

theorem infoI : (Tryd.prog.info? 3).map (fun i => (i.zero, i.size, i.bytes)) = some (some (.int .i64 0), 1, 8) := by kernel_rfl
def ints (l : List Int) : List Value := l.map (.int .i64)
theorem ints_snoc (l : List Int) (x : Int) : ints (l ++ [x]) = ints l ++ [.int .i64 x] := by simp [ints]
/-- what the loops of the reference's Signature keep -/
structure RS (w wr : World) (v : Value) (l : List Int) : Prop where
  bel : Bel w wr
  own : wr.ownsRow w.heap.size 3 1 v l.length (ints l)
theorem cell1_new (w : World) (x : Value) (t : TypeId) (n : Nat) (hn : n = w.heap.size) : ∀ (j : Nat) (u : Value), [x][j]? = some u → (w.alloc (.cells #[x] t)).cell? ((⟨n, 0, none⟩ : Addr).add j) = some u := by
  intro j u hj
  subst hn
  match j, hj with
  | 0, hj => simp at hj; subst hj; simp [Addr.add]
  | j + 1, hj => simp at hj
theorem ownUp {w w' : World} {base : Nat} {e : TypeId} {size : Nat} {v : Value} {n : Nat} {xs : List Value} (h : w.ownsRow base e size v n xs) (hb : Below w.heap.size w w') : w'.ownsRow base e size v n xs :=
  h.kept (row := none) ⟨hb.os, hb.tape, hb.output, hb.size, fun k hk _ => hb.block k hk⟩ (by cases v.ownBlock <;> simp)
theorem RS.up {w wr w' : World} {v : Value} {l : List Int} (h : RS w wr v l) (hb : Below wr.heap.size wr w') : RS w w' v l := ⟨h.bel.up hb, ownUp h.own hb⟩
theorem row1_own {w : World} {base : Nat} {v : Value} {L : List Int} (h : w.ownsRow base 3 1 v L.length (ints L)) : ∃ ad cap, v = .slice ad L.length cap ∧ (L ≠ [] → ∃ g, ad = some ⟨g, 0, none⟩ ∧ Row1 w g L) := by
  have own := h
  rcases h.2 with ⟨h1, h0⟩ | ⟨g, cap, cur, rfl, hg, _, _⟩
  · have : L = [] := List.length_eq_zero_iff.1 h0
    subst this
    exact ⟨_, _, h1, fun h => absurd rfl h⟩
  · refine ⟨_, _, rfl, fun _ => ⟨g, rfl, fun k x hx => ?_⟩⟩
    have hk := (List.getElem?_eq_some_iff.1 hx).1
    rw [own.cellAt k (by omega)]
    simp [ints, hx]
/-- the ledger lines up to the k-th, above (s = 1) or below (s = -1) the staff -/
def ledK (s : Int) (k : Nat) : List Int := (List.range k).map fun i : Nat => s * (6 + 2 * (i : Int))
theorem ledK_len (s : Int) (k : Nat) : (ledK s k).length = k := by simp [ledK]
theorem ledK_snoc (s : Int) (k : Nat) : ledK s (k + 1) = ledK s k ++ [s * (6 + 2 * (k : Int))] := by simp [ledK, List.range_succ]
def ledN (p : Int) : Nat := ((p - 4) / 2).toNat
def ledL (p : Int) : List Int := if p < -200 ∨ 200 < p then [] else ledK 1 (ledN p) ++ ledK (-1) (ledN (-p))
theorem ledN_neg {p : Int} (h : p < 6) : ledN p = 0 := by unfold ledN; omega
set_option maxRecDepth 100000 in
set_option maxHeartbeats 2000000 in
theorem led_far (p : Int) (w : World) (h : p < -200 ∨ 200 < p) :
    Calls Tryd.prog 22 #[.int .i64 p] w fun e w' => ∃ v, e = .returned v ∧ w'.ownsRow w.heap.size 3 1 v (ledL p).length (ints (ledL p)) ∧ Below w.heap.size w w' := by
  have B0 := Lib.hid (Bel.refl w)
  have HP := Lib.hid h
  clear h
  go_enter Tryd.func22, Tryd.ntmps22
  go_wp2_with fail
  refine (near_bad p _ HP.out).mono ?_
  rintro e w1 ⟨rfl, hb⟩
  have B1 := Lib.hid (B0.out.up hb)
  clear hb B0
  go_wp2_with fail
  go_ret
  refine ⟨_, rfl, ?_, B1.out.out⟩
  rw [show ledL p = [] from if_pos HP.out]
  exact World.ownsRow_nil _ _ _ _
set_option maxRecDepth 100000 in
set_option maxHeartbeats 2000000 in
theorem led_up (p : Int) (w : World) (h0 : -200 ≤ p) (h1 : p ≤ 200) (h : 0 ≤ p) :
    Calls Tryd.prog 22 #[.int .i64 p] w fun e w' => ∃ v, e = .returned v ∧ w'.ownsRow w.heap.size 3 1 v (ledK (1) (ledN p)).length (ints (ledK (1) (ledN p))) ∧ Below w.heap.size w w' := by
  obtain ⟨i0, hi, hz0, hz1, hz2⟩ := info_parts infoI
  obtain ⟨M, hM⟩ : ∃ M : Nat, ledN p = M := ⟨_, rfl⟩
  rw [hM]
  unfold ledN at hM
  go_enter Tryd.func22, Tryd.ntmps22
  go_wp2_with fail
  refine (near_ok p _ h0 h1).mono ?_
  rintro e w1 ⟨rfl, hb⟩
  have HA := Lib.hid (show RS w w1 (.slice none 0 0) (ledK (1) 0) from ⟨hb, World.ownsRow_nil _ _ _ _⟩)
  clear hb
  go_wp2_with fail
  go_loopg [4, 5] M (fun gm out i wr => ∃ k : Nat, k ≤ M ∧ gm = M - k ∧ i = .int .i64 (6 + 2 * (k : Int)) ∧ Hid (RS w wr out (ledK (1) k)))
  case atStart => exact ⟨0, by omega, by omega, rfl, HA⟩
  case round =>
    obtain ⟨k, hk, rfl, rfl, HS⟩ := hrel
    clear HA
    by_cases hlt : k < M
    · have hc1 : 6 + 2 * (k : Int) ≤ p := by omega
      have hl := Lib.hid (show (ledK (1) k).length ≤ 200 by rw [ledK_len]; omega)
      have hw : w.heap.size ≤ wr.heap.size := HS.out.bel.size
      go_wp2_with (first | (at_builtin; refine wpList_append_own _ rfl _ _ 41 rfl w.heap.size 3 i0 (.int .i64 0) 1 8 Tryd.underlying41 hi hz0 hz1 hz2 rfl (by decide) _ _ _ rfl (HS.out.own.alloc _) ⟨wr.heap.size, 0, none⟩ 1 1 [.int .i64 (6 + 2 * (k : Int))] rfl rfl (cell1_new _ _ _ _ rfl) (by simp [Value.oneCell']) (by have := hl.out; unfold maxLen; omega) (by have := hl.out; omega) (by simp; omega) ?_; intro v' w2 hown' hgrow _))
      go_roundg (M - (k + 1))
      case measure => omega
      case rel =>
        refine ⟨k + 1, by omega, rfl, by go_num, Lib.hid ⟨Below.grown (HS.out.bel.alloc _) hgrow (by simp; omega) (fun r hr => (HS.out.own.lt r hr).1), ?_⟩⟩
        rw [ledK_snoc, List.length_append, ints_snoc]
        simpa using hown'
    · have e : M = k := by omega
      subst e
      have hc1 : ¬ 6 + 2 * (M : Int) ≤ p := by omega
      go_wp2_with fail
      go_ret
      exact ⟨_, rfl, HS.out.own, HS.out.bel.out⟩
set_option maxRecDepth 100000 in
set_option maxHeartbeats 2000000 in
theorem led_dn (p : Int) (w : World) (h0 : -200 ≤ p) (h1 : p ≤ 200) (h : p < 0) :
    Calls Tryd.prog 22 #[.int .i64 p] w fun e w' => ∃ v, e = .returned v ∧ w'.ownsRow w.heap.size 3 1 v (ledK (-1) (ledN (-p))).length (ints (ledK (-1) (ledN (-p)))) ∧ Below w.heap.size w w' := by
  obtain ⟨i0, hi, hz0, hz1, hz2⟩ := info_parts infoI
  obtain ⟨M, hM⟩ : ∃ M : Nat, ledN (-p) = M := ⟨_, rfl⟩
  rw [hM]
  unfold ledN at hM
  go_enter Tryd.func22, Tryd.ntmps22
  go_wp2_with fail
  refine (near_ok p _ h0 h1).mono ?_
  rintro e w1 ⟨rfl, hb⟩
  have HA := Lib.hid (show RS w w1 (.slice none 0 0) (ledK (-1) 0) from ⟨hb, World.ownsRow_nil _ _ _ _⟩)
  clear hb
  go_wp2_with fail
  go_loopg [4, 5] M (fun gm out i wr => ∃ k : Nat, k ≤ M ∧ gm = M - k ∧ i = .int .i64 (6 + 2 * (k : Int)) ∧ Hid (RS w wr out (ledK (-1) k)))
  case atStart => exact ⟨0, by omega, by omega, rfl, HA⟩
  case round =>
    obtain ⟨k, hk, rfl, rfl, HS⟩ := hrel
    clear HA
    by_cases hlt : k < M
    · have hc1 : 6 + 2 * (k : Int) ≤ (-p) := by omega
      have hl := Lib.hid (show (ledK (-1) k).length ≤ 200 by rw [ledK_len]; omega)
      have hw : w.heap.size ≤ wr.heap.size := HS.out.bel.size
      go_wp2_with (first | (at_builtin; refine wpList_append_own _ rfl _ _ 41 rfl w.heap.size 3 i0 (.int .i64 0) 1 8 Tryd.underlying41 hi hz0 hz1 hz2 rfl (by decide) _ _ _ rfl (HS.out.own.alloc _) ⟨wr.heap.size, 0, none⟩ 1 1 [.int .i64 (-(6 + 2 * (k : Int)))] rfl rfl (cell1_new _ _ _ _ rfl) (by simp [Value.oneCell']) (by have := hl.out; unfold maxLen; omega) (by have := hl.out; omega) (by simp; omega) ?_; intro v' w2 hown' hgrow _))
      go_roundg (M - (k + 1))
      case measure => omega
      case rel =>
        refine ⟨k + 1, by omega, rfl, by go_num, Lib.hid ⟨Below.grown (HS.out.bel.alloc _) hgrow (by simp; omega) (fun r hr => (HS.out.own.lt r hr).1), ?_⟩⟩
        rw [ledK_snoc, List.length_append, ints_snoc]
        simpa using hown'
    · have e : M = k := by omega
      subst e
      have hc1 : ¬ 6 + 2 * (M : Int) ≤ (-p) := by omega
      go_wp2_with fail
      go_ret
      exact ⟨_, rfl, HS.out.own, HS.out.bel.out⟩
theorem led_any (p : Int) (w : World) :
    Calls Tryd.prog 22 #[.int .i64 p] w fun e w' => ∃ v, e = .returned v ∧ w'.ownsRow w.heap.size 3 1 v (ledL p).length (ints (ledL p)) ∧ Below w.heap.size w w' := by
  by_cases h : p < -200 ∨ 200 < p
  · exact led_far p w h
  · have e0 : ledL p = ledK 1 (ledN p) ++ ledK (-1) (ledN (-p)) := if_neg h
    by_cases k : 0 ≤ p
    · rw [e0, ledN_neg (p := -p) (by omega), show ledK (-1) 0 = [] from rfl, List.append_nil]
      exact led_up p w (by omega) (by omega) k
    · rw [e0, ledN_neg (p := p) (by omega), show ledK 1 0 = [] from rfl, List.nil_append]
      exact led_dn p w (by omega) (by omega) (by omega)
end Go.Proofs.YtmdnlnjapkcanaaDoor
