/- Accidentals: Display. -/
import Derived.Test.YthmdjpfjaojihaaDoorAg
namespace Go.Proofs.YthmdjpfjaojihaaDoor
open Go.RowKit
set_option linter.unusedVariables false
set_option linter.unusedSimpArgs false

set_option maxRecDepth 100000 in
set_option maxHeartbeats 2000000 in
theorem Display_new (f : Int) (L : List Nt) (ad : Option Addr) (cap : Nat) (w : World) (hf : Sg f) (hl : L.length ≤ 2560) (he : errL 0 L = 0) (h : NtAt w ad L) (hk : KT w) :
    Calls Tryd.prog 11 #[.int .i64 f, .slice ad L.length cap] w fun e w' => ∃ (g : Nat), e = .returned (.tuple #[.slice (some ⟨g, 0, none⟩) L.length L.length, .int .i64 0]) ∧ FilM w' g L.length (disM L f) ∧ w.heap.size ≤ g ∧ Below w.heap.size w w' := by
  have K := display_okN f L ad cap w hf hl he (errL_good L 0 he).2 h hk
  have KK := Lib.hid K
  clear h hk he hf K
  go_enter Tryd.func11, Tryd.ntmps11
  go_wp2_with fail
  refine KK.out.mono ?_
  rintro e w1 ⟨g, rfl, hm, hnew, hb⟩
  have M1 := Lib.hid hm
  have B1 := Lib.hid hb
  obtain ⟨G, hG⟩ : ∃ G, disF L f L.length = G := ⟨_, rfl⟩
  rw [hG]
  clear hG
  have hup : Below w1.heap.size w1 (w1.alloc (.cells z77 58)) := (Below.refl _ w1).alloc (Nat.le_refl _) _
  have F2 := Lib.hid (Fil.new w1 58 w1.heap.size rfl)
  have M2 := Lib.hid (show FilM ((w1.alloc (.cells z77 58)).setCells w1.heap.size 0 (arL G).toArray.toList) g L.length (disM L f) from fun j hj => FilM.asideN (L := (arL G).toArray.toList) (hm.up hup) (fun e => by have := lt_of_cell (hm j hj).1.1; simp only at this; omega) j hj)
  have B2 := Lib.hid (below_setCells hb.size w (arL G).toArray.toList 0 _ (Bel.alloc hb (.cells z77 58)))
  clear hm hb hup M1 B1
  have hz := zero77
  go_wp2_with (refine wpList_store_mid rfl 58 _ _ rfl w1.heap.size 0 (arL G).toArray rfl rfl (F2.out.there _) (by rw [size77]; simp [arL_len]) (arL_one _) ?_; generalize ((w1.alloc (.cells z77 58)).setCells w1.heap.size 0 (arL G).toArray.toList) = w10 at *)
  exact bodyPost_ret (v := .tuple #[.slice (some ⟨g, 0, none⟩) L.length L.length, .int .i64 0]) (by first | (simp [results, Tryd.results11, go_sem]; done) | (simp [results, Tryd.results11, go_sem]; omega)) rfl ⟨g, rfl, M2.out, hnew, B2.out⟩
theorem Display_ok (f : Int) (L : List Nt) (ad : Option Addr) (cap : Nat) (w : World) (hf : Sg f) (hl : L.length ≤ 2560) (he : errL 0 L = 0) (h : NtAt w ad L) (hk : KT w) :
    Calls Tryd.prog 11 #[.int .i64 f, .slice ad L.length cap] w fun e w' => ∃ (g : Nat), e = .returned (.tuple #[.slice (some ⟨g, 0, none⟩) L.length L.length, .int .i64 0]) ∧ FilM w' g L.length (disM L f) ∧ Below w.heap.size w w' :=
  (Display_new f L ad cap w hf hl he h hk).mono fun _ _ ⟨g, h1, h2, _, h3⟩ => ⟨g, h1, h2, h3⟩
end Go.Proofs.YthmdjpfjaojihaaDoor
