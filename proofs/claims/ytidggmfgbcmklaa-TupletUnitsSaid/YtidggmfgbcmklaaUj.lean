/- Tuplets: grown rows. -/
import Derived.Test.YtidggmfgbcmklaaUi
namespace Go.Proofs.Ytidggmfgbcmklaa
open Go.RowKit
set_option linter.unusedVariables false
set_option linter.unusedSimpArgs false

theorem IsAt.grown {w w' : World} {ad : Option Addr} {n : Nat} {f : Nat → Int} {row : Option Nat} (h : IsAt w ad n f) (hg : w.grownBy w' row) (hne : ∀ k, k < n → ∀ b off, ad = some ⟨b, off, none⟩ → some b ≠ row) : IsAt w' ad n f := fun k hk => by
  obtain ⟨b, off, e, h0⟩ := h k hk
  have hb := hg.block b (lt_of_cell h0) (hne k hk b off e)
  exact ⟨b, off, e, (World.cell?_of_block (w := w) (a := ⟨b, _, none⟩) hb).trans h0⟩
end Go.Proofs.Ytidggmfgbcmklaa
