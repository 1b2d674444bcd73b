/- Spans: list. -/
import Derived.Test.YtabafabebodojaaDoorSn
import Derived.Test.YtabafabebodojaaDoorSo
namespace Go.Proofs.YtabafabebodojaaDoor
open Go Go.RowKit
set_option linter.unusedVariables false
set_option linter.unusedSimpArgs false

def spsL (f : Nat → Sp) (k : Nat) : List Value := ((List.range k).map f).flatMap spc
theorem spsL_next (f : Nat → Sp) (k : Nat) : spsL f (k + 1) = spsL f k ++ spc (f k) := by simp [spsL, List.range_succ]
theorem cellS_one (w : World) (s : Sp) : ∀ j u, (spc s)[j]? = some u → (w.alloc (.cells #[.int .i64 s.k, .int .i64 s.f.m, .int .i64 s.f.a, .int .i64 s.f.s, .int .i64 s.f.v, .int .i64 s.t.m, .int .i64 s.t.a, .int .i64 s.t.s, .int .i64 s.t.v] 31)).cell? ((⟨w.heap.size, 0, none⟩ : Addr).add j) = some u := fun j u hj => by
  rw [Addr.add_mid]
  have := tab_new w #[.int .i64 s.k, .int .i64 s.f.m, .int .i64 s.f.a, .int .i64 s.f.s, .int .i64 s.f.v, .int .i64 s.t.m, .int .i64 s.t.a, .int .i64 s.t.s, .int .i64 s.t.v] 31 w.heap.size rfl j u (by simpa [spc] using hj)
  simpa using this
theorem SpAt.of_sps {w : World} {base : Nat} {v : Value} {n : Nat} {f : Nat → Sp} (h : w.ownsRow base 31 9 v n (spsL f n)) : ∃ ad cap, v = .slice ad n cap ∧ SpAt w ad n f := by
  obtain ⟨ad, cap, e, hs⟩ := SpAt.of_row (L := (List.range n).map f) (by simpa [spsL] using h)
  refine ⟨ad, cap, by simpa using e, fun k hk => ?_⟩
  have := hs k (by simpa using hk)
  simpa [List.getD_eq_getElem?_getD, hk] using this
set_option maxRecDepth 100000 in
set_option maxHeartbeats 4000000 in
theorem list_ok (n cap : Nat) (ad : Option Addr) (f : Nat → Sp) (w : World) (hn : n ≤ 4097) (h : SpAt w ad n f) :
    Calls Tryd.prog 23 #[.slice ad n cap] w fun e w' => ∃ v, e = .returned v ∧ Below w.heap.size w w' ∧ w'.ownsRow w.heap.size 31 9 v n (spsL f n) := by
  have HR := Lib.hid h
  have H0 := Lib.hid (World.ownsRow_nil w w.heap.size 31 9)
  clear h
  obtain ⟨i0, hi, iz0, iz1, iz2⟩ := info_parts infoS
  go_enter Tryd.func23, Tryd.ntmps23
  go_wp2_with fail
  go_loopg [3, 4] n (fun gm v i wr => ∃ k : Nat, k ≤ n ∧ gm = n - k ∧ i = .int .i64 (k : Int) ∧ Hid (wr.ownsRow w.heap.size 31 9 v k (spsL f k)) ∧ Hid (Bel w wr) ∧ w.heap.size ≤ wr.heap.size)
  case atStart => exact ⟨0, by omega, by omega, rfl, H0, Lib.hid (Bel.refl w), Nat.le_refl _⟩
  case round =>
    clear H0
    obtain ⟨k, hk, rfl, rfl, HO, HB, hz⟩ := hrel
    by_cases hlt : k < n
    · obtain ⟨b, off, rfl, q0, q1, q2, q3, q4, q5, q6, q7, q8⟩ := (HR.out.up HB.out.out) k hlt
      go_wp2_with fail
      refine (own_ok (f k) _).mono ?_
      rintro e w1 ⟨rfl, hb⟩
      have B1 := Lib.hid (HB.out.up hb)
      have O1 := Lib.hid ((HO.out.kept (grown_of_below hb none) (Classical.em _)).alloc (.cells #[.int .i64 (f k).k, .int .i64 (f k).f.m, .int .i64 (f k).f.a, .int .i64 (f k).f.s, .int .i64 (f k).f.v, .int .i64 (f k).t.m, .int .i64 (f k).t.a, .int .i64 (f k).t.s, .int .i64 (f k).t.v] 31))
      have hz1 : w.heap.size ≤ w1.heap.size := by have := hb.size; omega
      clear hb HB HO q0 q1 q2 q3 q4 q5 q6 q7 q8
      go_wp2_with (at_builtin; (refine wpList_append_own _ rfl _ _ 43 rfl w.heap.size 31 i0 (.agg #[.int .i64 0, .int .i64 0, .int .i64 0, .int .i64 0, .int .i64 0, .int .i64 0, .int .i64 0, .int .i64 0, .int .i64 0]) 9 72 Tryd.underlying43 hi iz0 iz1 iz2 rfl (by decide) _ _ _ rfl O1.out ⟨_, 0, none⟩ 1 1 (spc (f k)) rfl rfl (cellS_one w1 (f k)) (by simp [Value.oneCell', spc]) (by unfold maxLen; omega) (by omega) (by first | (simp; omega) | omega) ?_); intro v6 w6 hown6 hgrow6 _)
      have O6 := Lib.hid (show w6.ownsRow w.heap.size 31 9 v6 (k + 1) (spsL f (k + 1)) from by rw [spsL_next]; exact hown6)
      have B6 := Lib.hid (show Bel w w6 from Below.grown (B1.out.alloc _).out hgrow6 (by simp; omega) (fun j hj => (O1.out.lt j hj).1))
      have hz6 : w.heap.size ≤ w6.heap.size := by have := hgrow6.size; simp at this; omega
      clear hown6 hgrow6 B1 O1
      go_wp2_with fail
      go_roundg (n - (k + 1))
      case measure => omega
      case rel => exact ⟨k + 1, by omega, rfl, by go_num, O6, B6, hz6⟩
    · obtain rfl : n = k := by omega
      go_wp2_with fail
      go_ret
      exact ⟨_, rfl, HB.out.out, HO.out⟩
end Go.Proofs.YtabafabebodojaaDoor
