/- Clefs: the reference's Best. -/
import Derived.Test.YtmdnlnjapkcanaaDoorBc
namespace Go.Proofs.YtmdnlnjapkcanaaDoor
open Go.RowKit
set_option linter.unusedVariables false
set_option linter.unusedSimpArgs false

set_option maxRecDepth 100000 in
set_option maxHeartbeats 4000000 in
theorem rbest_err (zs : List Int) (L : List (Int × Int × Int)) (E : Int) (a1 a2 : Option Addr) (cap1 cap2 : Nat) (w : World) (hE : Ev zs L E) (hz : zs.length ≤ 9) (hl : L.length ≤ 20) (hne : E ≠ 0) (h1 : IntAt w a1 zs) (h2 : PitAt w a2 L) :
    Calls Tryd.prog 28 #[.slice a1 zs.length cap1, .slice a2 L.length cap2] w fun e w' => e = .returned (.tuple #[.int .i64 0, .int .i64 E]) ∧ Below w.heap.size w w' := by
  have HE := Lib.hid hE
  have H1 := Lib.hid h1
  have H2 := Lib.hid h2
  clear hE h1 h2
  by_cases h0 : zs = []
  · subst h0
    have HZ := Lib.hid (HE.out.e0 rfl)
    rw [HZ.out]
    simp only [List.length_nil]
    go_enter Tryd.func28, Tryd.ntmps28
    go_wp2_with fail
    go_ret2
    exact ⟨rfl, Below.refl _ _⟩
  · have hn0 : zs.length ≠ 0 := by simpa using h0
    have hb0 : ((zs.length : Int) == 0) = false := by simpa using h0
    have H0 := Lib.hid h0
    clear h0
    go_enter Tryd.func28, Tryd.ntmps28
    go_wp2_with fail
    go_loopg [6] zs.length (fun gm i wr => ∃ k : Nat, k ≤ zs.length ∧ gm = zs.length - k ∧ i = .int .i64 (k : Int) ∧ Hid (∀ z ∈ zs.take k, Cl z) ∧ Hid (Bel w wr))
    case atStart => exact ⟨0, by omega, by omega, rfl, Lib.hid (fun z hz => by simp at hz), Lib.hid (Bel.refl w)⟩
    case round =>
      obtain ⟨k, hk, rfl, rfl, HA, HB⟩ := hrel
      by_cases hlt : k < zs.length
      · obtain ⟨z, hz9⟩ : ∃ z, zs[k]? = some z := ⟨_, List.getElem?_eq_getElem hlt⟩
        obtain ⟨b, off, rfl, c0⟩ := (H1.out.up HB.out.out) k z hz9
        have HZ := Lib.hid hz9
        clear hz9
        by_cases hcl : Cl z
        · have HCl := Lib.hid hcl
          clear hcl
          go_wp2_with fail
          refine (valid_ok z _ HCl.out).mono ?_
          rintro e w1 ⟨rfl, hb⟩
          have B1 := Lib.hid (HB.out.up hb)
          clear hb c0 HB
          go_wp2_with fail
          go_roundg (zs.length - (k + 1))
          case measure => omega
          case rel => exact ⟨k + 1, by omega, rfl, by go_num, Lib.hid (fun y hy => by
              rw [take_snoc HZ.out] at hy
              simp at hy
              rcases hy with hy | rfl
              · exact HA.out y hy
              · exact HCl.out), B1⟩
        · have HX := Lib.hid (HE.out.e1 H0.out ⟨z, List.mem_of_getElem? HZ.out, hcl⟩)
          have HCl := Lib.hid hcl
          clear hcl
          go_wp2_with fail
          refine (valid_bad z _ HCl.out).mono ?_
          rintro e w1 ⟨rfl, hb⟩
          have B1 := Lib.hid (HB.out.up hb)
          clear hb c0 HB
          go_wp2_with fail
          go_ret2
          exact ⟨by rw [HX.out]; rfl, B1.out.out⟩
      · obtain rfl : k = zs.length := by omega
        have HAll := Lib.hid (show ∀ z ∈ zs, Cl z by have := HA.out; rwa [List.take_length] at this)
        have HB0 := HB
        clear HA HB
        go_wp2_with fail
        go_loopg [7] L.length (fun gm i wr => ∃ k : Nat, k ≤ L.length ∧ gm = L.length - k ∧ i = .int .i64 (k : Int) ∧ Hid (∀ q ∈ L.take k, Pit q.1 q.2.1 q.2.2) ∧ Hid (Bel w wr))
        case atStart => exact ⟨0, by omega, by omega, rfl, Lib.hid (fun z hz => by simp at hz), HB0⟩
        case round =>
          obtain ⟨k, hk, rfl, rfl, HA, HB⟩ := hrel
          clear HB0
          by_cases hlt : k < L.length
          · obtain ⟨p, hp⟩ : ∃ p, L[k]? = some p := ⟨_, List.getElem?_eq_getElem hlt⟩
            obtain ⟨b, off, rfl, c0, c1, c2⟩ := (H2.out.up HB.out.out) k p hp
            have HZ := Lib.hid hp
            clear hp
            have B1 := HB
            by_cases hpit : Pit p.1 p.2.1 p.2.2
            · have HCl := Lib.hid hpit
              clear hpit
              go_wp2_with fail
              refine (exists_yes p.1 p.2.1 p.2.2 _ HCl.out).mono ?_
              rintro e w1 ⟨rfl, hb⟩
              have B2 := Lib.hid (B1.out.up hb)
              clear hb c0 c1 c2 HB
              go_wp2_with fail
              go_roundg (L.length - (k + 1))
              case measure => omega
              case rel => exact ⟨k + 1, by omega, rfl, by go_num, Lib.hid (fun y hy => by
                  rw [take_snoc HZ.out] at hy
                  simp at hy
                  rcases hy with hy | rfl
                  · exact HA.out y hy
                  · exact HCl.out), B2⟩
            · have HX := Lib.hid (HE.out.e2 H0.out HAll.out ⟨p, List.mem_of_getElem? HZ.out, hpit⟩)
              have HCl := Lib.hid hpit
              clear hpit
              go_wp2_with fail
              refine (exists_no p.1 p.2.1 p.2.2 _ HCl.out).mono ?_
              rintro e w1 ⟨rfl, hb⟩
              have B2 := Lib.hid (B1.out.up hb)
              clear hb c0 c1 c2 HB
              go_wp2_with fail
              go_ret2
              exact ⟨by rw [HX.out]; rfl, B2.out.out⟩
          · obtain rfl : k = L.length := by omega
            have HX := Lib.hid (HE.out.e3 H0.out HAll.out (by have := HA.out; rwa [List.take_length] at this))
            exact absurd HX.out hne
set_option maxRecDepth 100000 in
set_option maxHeartbeats 4000000 in
theorem rbest_fine (zs : List Int) (L : List (Int × Int × Int)) (a1 a2 : Option Addr) (cap1 cap2 : Nat) (w : World) (hz : zs.length ≤ 9) (hl : L.length ≤ 20) (hc : CW w) (h0 : zs ≠ []) (hcl : ∀ z ∈ zs, Cl z) (hpit : ∀ q ∈ L, Pit q.1 q.2.1 q.2.2) (h1 : IntAt w a1 zs) (h2 : PitAt w a2 L) :
    Calls Tryd.prog 28 #[.slice a1 zs.length cap1, .slice a2 L.length cap2] w fun e w' => e = .returned (.tuple #[.int .i64 (bst (fun c => lnsI c L) zs), .int .i64 0]) ∧ Below w.heap.size w w' := by
  have KL := Lib.hid (fun c hc v hv i2 => lines_ok c L a2 cap2 v hc hpit hl hv i2)
  have HCL := Lib.hid hcl
  have HPI := Lib.hid hpit
  have HC := Lib.hid hc
  have H1 := Lib.hid h1
  have H2 := Lib.hid h2
  clear hc h1 h2 hcl hpit
  have hn0 : zs.length ≠ 0 := by simpa using h0
  have hb0 : ((zs.length : Int) == 0) = false := by simpa using h0
  have H0 := Lib.hid h0
  clear h0
  go_enter Tryd.func28, Tryd.ntmps28
  go_wp2_with fail
  go_loopg [6] zs.length (fun gm i wr => ∃ k : Nat, k ≤ zs.length ∧ gm = zs.length - k ∧ i = .int .i64 (k : Int) ∧ Hid (∀ z ∈ zs.take k, Cl z) ∧ Hid (Bel w wr))
  case atStart => exact ⟨0, by omega, by omega, rfl, Lib.hid (fun z hz => by simp at hz), Lib.hid (Bel.refl w)⟩
  case round =>
    obtain ⟨k, hk, rfl, rfl, HA, HB⟩ := hrel
    by_cases hlt : k < zs.length
    · obtain ⟨z, hz9⟩ : ∃ z, zs[k]? = some z := ⟨_, List.getElem?_eq_getElem hlt⟩
      obtain ⟨b, off, rfl, c0⟩ := (H1.out.up HB.out.out) k z hz9
      have HZ := Lib.hid hz9
      clear hz9
      by_cases hcl : Cl z
      · have HCl := Lib.hid hcl
        clear hcl
        go_wp2_with fail
        refine (valid_ok z _ HCl.out).mono ?_
        rintro e w1 ⟨rfl, hb⟩
        have B1 := Lib.hid (HB.out.up hb)
        clear hb c0 HB
        go_wp2_with fail
        go_roundg (zs.length - (k + 1))
        case measure => omega
        case rel => exact ⟨k + 1, by omega, rfl, by go_num, Lib.hid (fun y hy => by
            rw [take_snoc HZ.out] at hy
            simp at hy
            rcases hy with hy | rfl
            · exact HA.out y hy
            · exact HCl.out), B1⟩
      · exact absurd (HCL.out z (List.mem_of_getElem? HZ.out)) hcl
    · obtain rfl : k = zs.length := by omega
      have HAll := Lib.hid (show ∀ z ∈ zs, Cl z by have := HA.out; rwa [List.take_length] at this)
      have HB0 := HB
      clear HA HB
      go_wp2_with fail
      go_loopg [7] L.length (fun gm i wr => ∃ k : Nat, k ≤ L.length ∧ gm = L.length - k ∧ i = .int .i64 (k : Int) ∧ Hid (∀ q ∈ L.take k, Pit q.1 q.2.1 q.2.2) ∧ Hid (Bel w wr))
      case atStart => exact ⟨0, by omega, by omega, rfl, Lib.hid (fun z hz => by simp at hz), HB0⟩
      case round =>
        obtain ⟨k, hk, rfl, rfl, HA, HB⟩ := hrel
        clear HB0
        by_cases hlt : k < L.length
        · obtain ⟨p, hp⟩ : ∃ p, L[k]? = some p := ⟨_, List.getElem?_eq_getElem hlt⟩
          obtain ⟨b, off, rfl, c0, c1, c2⟩ := (H2.out.up HB.out.out) k p hp
          have HZ := Lib.hid hp
          clear hp
          have B1 := HB
          by_cases hpit : Pit p.1 p.2.1 p.2.2
          · have HCl := Lib.hid hpit
            clear hpit
            go_wp2_with fail
            refine (exists_yes p.1 p.2.1 p.2.2 _ HCl.out).mono ?_
            rintro e w1 ⟨rfl, hb⟩
            have B2 := Lib.hid (B1.out.up hb)
            clear hb c0 c1 c2 HB
            go_wp2_with fail
            go_roundg (L.length - (k + 1))
            case measure => omega
            case rel => exact ⟨k + 1, by omega, rfl, by go_num, Lib.hid (fun y hy => by
                rw [take_snoc HZ.out] at hy
                simp at hy
                rcases hy with hy | rfl
                · exact HA.out y hy
                · exact HCl.out), B2⟩
          · exact absurd (HPI.out p (List.mem_of_getElem? HZ.out)) hpit
        · obtain rfl : k = L.length := by omega
          obtain ⟨z0, hz0⟩ : ∃ z, zs[0]? = some z := ⟨_, List.getElem?_eq_getElem (by omega)⟩
          obtain ⟨b, off, rfl, c0⟩ := (H1.out.up HB.out.out) 0 z0 hz0
          have HZ0 := Lib.hid (take_snoc hz0)
          rw [Nat.add_zero] at c0
          have hzs : 0 < zs.length := by omega
          obtain ⟨f, hf⟩ : ∃ f : Int → Nat, (fun c => lnsI c L) = f := ⟨_, rfl⟩
          have HF := Lib.hid (fun c => congrFun hf c)
          have HG := Lib.hid hf
          clear hf hz0 HA
          go_wp2_with fail
          go_loopg [8, 9] (zs.length - 1) (fun gm bb i wr => ∃ k : Nat, 0 < k ∧ k ≤ zs.length ∧ gm = zs.length - k ∧ i = .int .i64 (k : Int) ∧ Hid (bb = .int .i64 (bst f (zs.take k))) ∧ Hid (Bel w wr))
          case atStart => exact ⟨1, by omega, by omega, by omega, rfl, Lib.hid (by rw [HZ0.out]; rfl), HB⟩
          case round =>
            obtain ⟨k, hk0, hk, rfl, rfl, HM, HW⟩ := hrel
            clear HB c0
            have hbb := HM.out
            subst hbb
            by_cases hlt : k < zs.length
            · obtain ⟨c, hcz⟩ : ∃ c, zs[k]? = some c := ⟨_, List.getElem?_eq_getElem hlt⟩
              obtain ⟨b2, off2, hbe, q0⟩ := (H1.out.up HW.out.out) k c hcz
              cases hbe
              have hc1 := Lib.hid (HCL.out c (List.mem_of_getElem? hcz))
              have HZ := Lib.hid (take_snoc hcz)
              have HZc := Lib.hid hcz
              obtain ⟨B, hB⟩ : ∃ B, bst f (zs.take k) = B := ⟨_, rfl⟩
              have hb1 := Lib.hid (HCL.out B (by rw [← hB]; exact List.mem_of_mem_take (bst_mem_le (f := f) (zs.take k) (take_ne hk0 hk)).1))
              have HBs := Lib.hid (show bst f (zs.take (k + 1)) = if f c < f B then c else B by rw [HZ.out, bst_snoc (take_ne hk0 hk), hB])
              rw [hB]
              clear hcz hB
              go_wp2_with fail
              refine (KL.out c hc1.out _ (HC.out.below HW.out.out) (H2.out.up HW.out.out)).mono ?_
              rintro e w4 ⟨rfl, hb⟩
              have W4 := Lib.hid (HW.out.up hb)
              clear hb HW q0
              go_wp2_with fail
              refine (KL.out B hb1.out _ (HC.out.below W4.out.out) (H2.out.up W4.out.out)).mono ?_
              rintro e w5 ⟨rfl, hb⟩
              have W5 := Lib.hid (W4.out.up hb)
              clear hb W4
              rw [show lnsI c L = f c from HF.out c, show lnsI B L = f B from HF.out B]
              have q1 : w5.cell? ⟨b, off + k, none⟩ = some (.int .i64 c) := by
                obtain ⟨b3, off3, hbe, q0⟩ := (H1.out.up W5.out.out) k c HZc.out
                cases hbe
                exact q0
              obtain ⟨N, hN⟩ : ∃ N, f c = N := ⟨_, rfl⟩
              obtain ⟨M, hM⟩ : ∃ M, f B = M := ⟨_, rfl⟩
              rw [hN, hM] at HBs
              rw [hN, hM]
              clear hN hM
              by_cases hlt2 : N < M
              · have hlt3 : (N : Int) < (M : Int) := by omega
                rw [if_pos hlt2] at HBs
                go_wp2_with fail
                go_roundg (zs.length - (k + 1))
                case measure => omega
                case rel => exact ⟨k + 1, by omega, by omega, rfl, by go_num, Lib.hid (by rw [HBs.out]), W5⟩
              · have hlt3 : ¬ (N : Int) < (M : Int) := by omega
                rw [if_neg hlt2] at HBs
                go_wp2_with fail
                go_roundg (zs.length - (k + 1))
                case measure => omega
                case rel => exact ⟨k + 1, by omega, by omega, rfl, by go_num, Lib.hid (by rw [HBs.out]), W5⟩
            · obtain rfl : k = zs.length := by omega
              rw [List.take_length]
              go_wp2_with fail
              go_ret2
              exact ⟨by rw [HG.out]; rfl, HW.out.out⟩
end Go.Proofs.YtmdnlnjapkcanaaDoor
