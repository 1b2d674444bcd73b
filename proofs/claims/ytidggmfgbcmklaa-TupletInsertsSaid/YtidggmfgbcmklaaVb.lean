/- Tuplets: rows of tuplets. -/
import Derived.Test.YtidggmfgbcmklaaVa
namespace Go.Proofs.Ytidggmfgbcmklaa
open Go.RowKit
set_option linter.unusedVariables false
set_option linter.unusedSimpArgs false

/-- a row of tuplets in a block that the call made -/
def FilT (w : World) (g n : Nat) (h : Nat → Tp) : Prop := ∀ k, k < n → (w.cell? ⟨g, k * 4, none⟩ = some (.int .i64 (h k).F) ∧ w.frozen? ⟨g, k * 4, none⟩ = false) ∧ (w.cell? ⟨g, k * 4 + 1, none⟩ = some (.int .i64 (h k).C) ∧ w.frozen? ⟨g, k * 4 + 1, none⟩ = false) ∧ w.cell? ⟨g, k * 4 + 2, none⟩ = some (.int .i64 (h k).A) ∧ w.cell? ⟨g, k * 4 + 3, none⟩ = some (.int .i64 (h k).N)
theorem FilT.up {w w' : World} {g n : Nat} {h : Nat → Tp} (hx : FilT w g n h) (hb : Below w.heap.size w w') : FilT w' g n h := fun k hk => by
  obtain ⟨⟨a0, a1⟩, ⟨b0, b1⟩, c0, d0⟩ := hx k hk
  exact ⟨⟨cell_up hb a0, (hb.frozen (p := ⟨g, k * 4, none⟩) (lt_of_cell a0)).trans a1⟩, ⟨cell_up hb b0, (hb.frozen (p := ⟨g, k * 4 + 1, none⟩) (lt_of_cell b0)).trans b1⟩, cell_up hb c0, cell_up hb d0⟩
theorem FilT.ts {w : World} {g n : Nat} {h : Nat → Tp} (hx : FilT w g n h) : TsAt w (some ⟨g, 0, none⟩) n h := fun k hk => by
  obtain ⟨⟨a0, a1⟩, ⟨b0, b1⟩, c0, d0⟩ := hx k hk
  refine ⟨g, 0, rfl, ?_, ?_, ?_, ?_⟩ <;> (rw [Nat.zero_add]; assumption)
theorem FilT.eq {w : World} {g n : Nat} {h h2 : Nat → Tp} (hx : FilT w g n h) (e : ∀ k, k < n → h k = h2 k) : FilT w g n h2 := fun k hk => by rw [← e k hk]; exact hx k hk
theorem FilT.setF {w : World} {g n i : Nat} {h : Nat → Tp} (hx : FilT w g n h) (hi : i < n) (x : Int) : FilT (w.setCell ⟨g, i * 4, none⟩ (.int .i64 x)) g n (fun k => if k = i then ⟨x, (h i).C, (h i).A, (h i).N⟩ else h k) := fun k hk => by
  obtain ⟨⟨a0, a1⟩, ⟨b0, b1⟩, c0, d0⟩ := hx k hk
  obtain ⟨⟨z0, z1⟩, _⟩ := hx i hi
  by_cases e : k = i
  · subst e
    simp [go_sem, *]
  · have e1 : ¬ i * 4 = k * 4 := by omega
    have e2 : ¬ i * 4 = k * 4 + 1 := by omega
    have e3 : ¬ i * 4 = k * 4 + 2 := by omega
    have e4 : ¬ i * 4 = k * 4 + 3 := by omega
    have e5 : ¬ i = k := fun h => e h.symm
    simp [go_sem, *]
theorem FilT.setC {w : World} {g n i : Nat} {h : Nat → Tp} (hx : FilT w g n h) (hi : i < n) (x : Int) : FilT (w.setCell ⟨g, i * 4 + 1, none⟩ (.int .i64 x)) g n (fun k => if k = i then ⟨(h i).F, x, (h i).A, (h i).N⟩ else h k) := fun k hk => by
  obtain ⟨⟨a0, a1⟩, ⟨b0, b1⟩, c0, d0⟩ := hx k hk
  obtain ⟨_, ⟨z0, z1⟩, _⟩ := hx i hi
  by_cases e : k = i
  · subst e
    simp [go_sem, *]
  · have e1 : ¬ i * 4 + 1 = k * 4 := by omega
    have e2 : ¬ i * 4 + 1 = k * 4 + 1 := by omega
    have e3 : ¬ i * 4 + 1 = k * 4 + 2 := by omega
    have e4 : ¬ i * 4 + 1 = k * 4 + 3 := by omega
    have e5 : ¬ i = k := fun h => e h.symm
    simp [go_sem, *]
theorem FilT.own {w : World} {base n : Nat} {v : Value} {h : Nat → Tp} (hx : OwnT w base v n h) (hn : 0 < n) : ∃ g cap, v = .slice (some ⟨g, 0, none⟩) n cap ∧ base ≤ g ∧ FilT w g n h := by
  obtain ⟨hl, hr⟩ := hx
  rcases hr with ⟨rfl, h0⟩ | ⟨g, cap, cur, rfl, hg, hc, hn2, _, hs, ht⟩
  · omega
  · refine ⟨g, cap, rfl, hg, fun k hk => ?_⟩
    have rd : ∀ (j : Nat) (u : Value), j < 4 → (tpC (h k))[j]? = some u → w.cell? ⟨g, k * 4 + j, none⟩ = some u := fun j u hj hu => by
      rw [← flatT_at h n k j hk hj, ← ht, List.getElem?_take] at hu
      split at hu
      · simp at hu
        simp [World.cell?, hc, hu]
      · cases hu
    refine ⟨⟨rd 0 _ (by omega) rfl, by simp [World.frozen?, hc]⟩, ⟨rd 1 _ (by omega) rfl, by simp [World.frozen?, hc]⟩, rd 2 _ (by omega) rfl, rd 3 _ (by omega) rfl⟩
theorem flatT_cells {w : World} {b off n : Nat} {f : Nat → Tp} (h : TsAt w (some ⟨b, off, none⟩) n f) : ∀ j u, (flatT f n)[j]? = some u → w.cell? ((⟨b, off, none⟩ : Addr).add j) = some u := fun j u hj => by
  have hjl : j < n * 4 := by have := (List.getElem?_eq_some_iff.1 hj).1; rwa [flatT_len] at this
  obtain ⟨b', o', e, h0, h1, h2, h3⟩ := h (j / 4) (by omega)
  cases e
  have hx := flatT_at f n (j / 4) (j % 4) (by omega) (by omega)
  rw [show j / 4 * 4 + j % 4 = j by omega, hj] at hx
  rw [show ((⟨b, off, none⟩ : Addr).add j) = ⟨b, off + (j / 4 * 4 + j % 4), none⟩ by rw [show j / 4 * 4 + j % 4 = j by omega, Addr.add_lit]]
  have h4 : j % 4 < 4 := by omega
  generalize j / 4 = q at *
  generalize j % 4 = r at *
  match r, h4, hx with
  | 0, _, hx => simp [tpC] at hx; subst hx; exact h0
  | 1, _, hx => simp [tpC] at hx; subst hx; exact h1
  | 2, _, hx => simp [tpC] at hx; subst hx; exact h2
  | 3, _, hx => simp [tpC] at hx; subst hx; exact h3
theorem flatT_one (f : Nat → Tp) (n : Nat) : ∀ u ∈ flatT f n, u.oneCell' = true := by
  induction n with
  | zero => intro u hu; simp [flatT] at hu
  | succ n ih =>
    intro u hu
    rcases List.mem_append.1 (show u ∈ flatT f n ++ tpC (f n) from hu) with h | h
    · exact ih u h
    · simp [tpC] at h; rcases h with rfl | rfl | rfl | rfl <;> rfl
end Go.Proofs.Ytidggmfgbcmklaa
