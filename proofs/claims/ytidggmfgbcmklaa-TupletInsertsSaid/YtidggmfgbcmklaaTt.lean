/- Tuplets: to. -/
import Derived.Test.YtidggmfgbcmklaaTs
namespace Go.Proofs.Ytidggmfgbcmklaa
open Go.RowKit
set_option linter.unusedVariables false
set_option linter.unusedSimpArgs false

/-- the cells of the first k tuplets -/
def tpC (t : Tp) : List Value := [.int .i64 t.F, .int .i64 t.C, .int .i64 t.A, .int .i64 t.N]
def flatT (f : Nat → Tp) : Nat → List Value
  | 0 => []
  | k + 1 => flatT f k ++ tpC (f k)
theorem flatT_len (f : Nat → Tp) (k : Nat) : (flatT f k).length = k * 4 := by
  induction k with
  | zero => rfl
  | succ k ih => show (flatT f k ++ tpC (f k)).length = _; rw [List.length_append, ih]; simp [tpC]; omega
theorem flatT_at (f : Nat → Tp) (n k j : Nat) (hk : k < n) (hj : j < 4) : (flatT f n)[k * 4 + j]? = (tpC (f k))[j]? := by
  induction n with
  | zero => omega
  | succ n ih =>
    show (flatT f n ++ tpC (f n))[k * 4 + j]? = _
    by_cases e : k < n
    · rw [List.getElem?_append_left (by rw [flatT_len]; omega)]; exact ih e
    · obtain rfl : k = n := by omega
      rw [List.getElem?_append_right (by rw [flatT_len]; omega), flatT_len, show k * 4 + j - k * 4 = j by omega]
theorem TsAt.own {wr : World} {base n e : Nat} {v : Value} {f : Nat → Tp} (h : wr.ownsRow base e 4 v n (flatT f n)) : ∃ ad cap, v = .slice ad n cap ∧ TsAt wr ad n f ∧ n ≤ cap := by
  obtain ⟨hl, hr⟩ := h
  rcases hr with ⟨rfl, h0⟩ | ⟨g, cap, cur, rfl, hg, hc, hn, _, hs, ht⟩
  · subst h0
    exact ⟨none, 0, rfl, fun k hk => by omega, by omega⟩
  · refine ⟨_, cap, rfl, fun k hk => ⟨g, 0, rfl, ?_⟩, hn⟩
    have rd : ∀ (j : Nat) (u : Value), j < 4 → (tpC (f k))[j]? = some u → wr.cell? ⟨g, 0 + k * 4 + j, none⟩ = some u := fun j u hj hu => by
      rw [← flatT_at f n k j hk hj, ← ht, List.getElem?_take] at hu
      split at hu
      · rw [Nat.zero_add]
        simp at hu
        simp [World.cell?, hc, hu]
      · cases hu
    exact ⟨rd 0 _ (by omega) rfl, rd 1 _ (by omega) rfl, rd 2 _ (by omega) rfl, rd 3 _ (by omega) rfl⟩
theorem infoR : (Try.prog.info? 39).map (fun i => (i.zero, i.size, i.bytes)) = some (some (.agg #[.int .i64 0, .int .i64 0, .int .i64 0, .int .i64 0]), 4, 32) := by kernel_rfl
theorem cell4_new (w : World) (x y z u : Value) (t : TypeId) (b : Nat) (hb : b = w.heap.size) : ∀ (j : Nat) (v : Value), [x, y, z, u][j]? = some v → (w.alloc (.cells #[x, y, z, u] t)).cell? ((⟨b, 0, none⟩ : Addr).add j) = some v := by
  subst hb
  intro j v hj
  match j, hj with
  | 0, hj => simp at hj; subst hj; simp [Addr.add]
  | 1, hj => simp at hj; subst hj; simp [Addr.add]
  | 2, hj => simp at hj; subst hj; simp [Addr.add]
  | 3, hj => simp at hj; subst hj; simp [Addr.add]
set_option maxRecDepth 100000 in
set_option maxHeartbeats 4000000 in
theorem to_ok (f : Nat → Tp) (n cap : Nat) (ad : Option Addr) (w : World) (hn : n ≤ 20) (h : TsAt w ad n f) :
    Calls Try.prog 16 #[.slice ad n cap] w fun e w' => ∃ ad2 cap2, e = .returned (.slice ad2 n cap2) ∧ Below w.heap.size w w' ∧ TsAt w' ad2 n f := by
  have HT := Lib.hid h
  obtain ⟨i0, hinf, hz0, hz1, hz2⟩ := info_parts infoR
  have B0 := Lib.hid (Bel.refl w)
  have O0 := Lib.hid (show w.ownsRow w.heap.size 39 4 (.slice none 0 0) 0 (flatT f 0) from World.ownsRow_nil _ _ _ _)
  clear h
  go_enter Try.func16, Try.ntmps16
  go_wp2_with fail
  go_loopg [4, 3] n (fun gm i v wr => ∃ k : Nat, k ≤ n ∧ gm = n - k ∧ i = .int .i64 (k : Int) ∧ Hid (Bel w wr) ∧ Hid (wr.ownsRow w.heap.size 39 4 v k (flatT f k)))
  case atStart => exact ⟨0, by omega, by omega, rfl, B0, O0⟩
  case round =>
    clear B0 O0
    obtain ⟨k, hk, rfl, rfl, HB, HO⟩ := hrel
    obtain ⟨W0, hW0, HB, HO⟩ : ∃ W0, W0 = _ ∧ Hid (Bel w W0) ∧ Hid (W0.ownsRow w.heap.size 39 4 _ k (flatT f k)) := ⟨_, rfl, HB, HO⟩
    subst hW0
    have hws := HB.out.size
    by_cases hlt : k < n
    · obtain ⟨b, off, rfl, c0, c1, c2, c3⟩ := HT.out.up HB.out.out k hlt
      have h1 : decide ((k : Int) < (n : Int)) = true := decide_eq_true (by omega)
      have h2 : decide ((k : Int) < 20) = true := decide_eq_true (by omega)
      have HX := Lib.hid (show flatT f (k + 1) = flatT f k ++ tpC (f k) from rfl)
      go_wp2_with (first | (at_builtin; refine wpList_append_own _ rfl _ _ 27 rfl w.heap.size 39 i0 (.agg #[.int .i64 0, .int .i64 0, .int .i64 0, .int .i64 0]) 4 32 Try.underlying27 hinf hz0 hz1 hz2 rfl (by decide) _ _ _ rfl (HO.out.alloc _) ⟨W0.heap.size, 0, none⟩ 1 1 (tpC (f k)) rfl rfl (cell4_new _ _ _ _ _ _ _ rfl) (by simp [Value.oneCell', tpC]) (by unfold maxLen; omega) (by omega) (by simp; omega) ?_; intro v' w9 hown' hgrow _))
      go_roundg (n - (k + 1))
      case measure => omega
      case rel => exact ⟨k + 1, by omega, rfl, by go_num, Lib.hid (Below.grown (HB.out.alloc _) hgrow (by simp; omega) (fun r hr => (HO.out.lt r hr).1)), by rw [HX.out]; exact hown'⟩
    · obtain rfl : k = n := by omega
      obtain ⟨ad2, cap2, rfl, hT, _⟩ := TsAt.own HO.out
      have h1 : decide ((k : Int) < (k : Int)) = false := decide_eq_false (by omega)
      go_wp2_with fail
      go_ret
      exact ⟨_, _, rfl, HB.out.out, hT⟩
end Go.Proofs.Ytidggmfgbcmklaa
