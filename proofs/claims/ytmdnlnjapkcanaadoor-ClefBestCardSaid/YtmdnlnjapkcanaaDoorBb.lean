/- Clefs: the errors of Best. -/
import Derived.Test.YtmdnlnjapkcanaaDoorCj
import Derived.Test.YtmdnlnjapkcanaaDoorOs
namespace Go.Proofs.YtmdnlnjapkcanaaDoor
open Go.RowKit
set_option linter.unusedVariables false
set_option linter.unusedSimpArgs false

/-- the error of clefs and pitches -/
structure Ev (zs : List Int) (L : List (Int × Int × Int)) (E : Int) : Prop where
  e0 : zs = [] → E = 4
  e1 : zs ≠ [] → (∃ z ∈ zs, ¬ Cl z) → E = 11
  e2 : zs ≠ [] → (∀ z ∈ zs, Cl z) → (∃ q ∈ L, ¬ Pit q.1 q.2.1 q.2.2) → E = 18
  e3 : zs ≠ [] → (∀ z ∈ zs, Cl z) → (∀ q ∈ L, Pit q.1 q.2.1 q.2.2) → E = 0
open Classical in
theorem ev_some (zs : List Int) (L : List (Int × Int × Int)) : ∃ E, Ev zs L E := by
  by_cases h0 : zs = []
  · exact ⟨4, fun _ => rfl, fun h => absurd h0 h, fun h => absurd h0 h, fun h => absurd h0 h⟩
  · by_cases h1 : ∃ z ∈ zs, ¬ Cl z
    · refine ⟨11, fun h => absurd h h0, fun _ _ => rfl, fun _ h _ => ?_, fun _ h _ => ?_⟩
      all_goals
        obtain ⟨z, hz, hn⟩ := h1
        exact absurd (h z hz) hn
    · by_cases h2 : ∃ q ∈ L, ¬ Pit q.1 q.2.1 q.2.2
      · refine ⟨18, fun h => absurd h h0, fun _ h => absurd h h1, fun _ _ _ => rfl, fun _ _ h => ?_⟩
        obtain ⟨q, hq, hn⟩ := h2
        exact absurd (h q hq) hn
      · exact ⟨0, fun h => absurd h h0, fun _ h => absurd h h1, fun _ _ h => absurd h h2, fun _ _ _ => rfl⟩
/-- the first of the clefs with the fewest lines -/
def bst (f : Int → Nat) : List Int → Int
  | [] => 0
  | z :: zs => zs.foldl (fun b c => if f c < f b then c else b) z
theorem bst_snoc {f : Int → Nat} {zs : List Int} (h : zs ≠ []) (x : Int) : bst f (zs ++ [x]) = if f x < f (bst f zs) then x else bst f zs := by
  cases zs with
  | nil => exact absurd rfl h
  | cons z zs => simp only [bst, List.cons_append, List.foldl_append, List.foldl_cons, List.foldl_nil]; rfl
theorem bst_rev {f : Int → Nat} : ∀ ys : List Int, ys ≠ [] → bst f ys.reverse ∈ ys.reverse ∧ ∀ c ∈ ys.reverse, f (bst f ys.reverse) ≤ f c := by
  intro ys
  induction ys with
  | nil => intro h; exact absurd rfl h
  | cons x ys ih =>
    intro _
    rw [List.reverse_cons]
    by_cases h0 : ys = []
    · subst h0
      simp [bst]
    · obtain ⟨h1, h2⟩ := ih h0
      rw [bst_snoc (by simpa using h0)]
      split
      · rename_i hlt
        refine ⟨by simp, fun c hc => ?_⟩
        rcases List.mem_append.1 hc with hc | hc
        · have := h2 c hc; omega
        · simp at hc; subst hc; exact Nat.le_refl _
      · rename_i hlt
        refine ⟨List.mem_append.2 (.inl h1), fun c hc => ?_⟩
        rcases List.mem_append.1 hc with hc | hc
        · exact h2 c hc
        · simp at hc; subst hc; omega
theorem bst_mem_le {f : Int → Nat} (zs : List Int) (h : zs ≠ []) : bst f zs ∈ zs ∧ ∀ c ∈ zs, f (bst f zs) ≤ f c := by
  have := bst_rev (f := f) zs.reverse (by simpa using h)
  rwa [List.reverse_reverse] at this
theorem take_snoc {α : Type} {zs : List α} {k : Nat} {x : α} (h : zs[k]? = some x) : zs.take (k + 1) = zs.take k ++ [x] := by
  rw [List.take_add_one, h]; rfl
theorem take_ne {α : Type} {zs : List α} {k : Nat} (h : 0 < k) (hk : k ≤ zs.length) : zs.take k ≠ [] := by
  intro e
  have := congrArg List.length e
  rw [List.length_take, List.length_nil] at this
  omega
set_option maxRecDepth 100000 in
set_option maxHeartbeats 4000000 in
theorem checkAll_ok (zs : List Int) (L : List (Int × Int × Int)) (E : Int) (a1 a2 : Option Addr) (cap1 cap2 : Nat) (w : World) (hE : Ev zs L E) (hz : zs.length ≤ 9) (hl : L.length ≤ 20) (hc : CW w) (h1 : IntAt w a1 zs) (h2 : PitAt w a2 L) :
    Calls Tryd.prog 39 #[.slice a1 zs.length cap1, .slice a2 L.length cap2] w fun e w' => e = .returned (.int .i64 E) ∧ Below w.heap.size w w' := by
  have HE := Lib.hid hE
  have HC := Lib.hid hc
  have H1 := Lib.hid h1
  have H2 := Lib.hid h2
  clear hE hc h1 h2
  by_cases h0 : zs = []
  · subst h0
    have HZ := Lib.hid (HE.out.e0 rfl)
    rw [HZ.out]
    simp only [List.length_nil]
    go_enter Tryd.func39, Tryd.ntmps39
    go_wp2_with fail
    go_ret
    exact ⟨rfl, Below.refl _ _⟩
  · have hn0 : zs.length ≠ 0 := by simpa using h0
    have hb0 : ((zs.length : Int) == 0) = false := by simpa using h0
    have H0 := Lib.hid h0
    clear h0
    go_enter Tryd.func39, Tryd.ntmps39
    go_wp2_with fail
    go_loopg [16] zs.length (fun gm i wr => ∃ k : Nat, k ≤ zs.length ∧ gm = zs.length - k ∧ i = .int .i64 (k : Int) ∧ Hid (∀ z ∈ zs.take k, Cl z) ∧ Hid (Bel w wr))
    case atStart => exact ⟨0, by omega, by omega, rfl, Lib.hid (fun z hz => by simp at hz), Lib.hid (Bel.refl w)⟩
    case round =>
      obtain ⟨k, hk, rfl, rfl, HA, HB⟩ := hrel
      by_cases hlt : k < zs.length
      · obtain ⟨z, hz9⟩ : ∃ z, zs[k]? = some z := ⟨_, List.getElem?_eq_getElem hlt⟩
        obtain ⟨b, off, rfl, c0⟩ := (H1.out.up HB.out.out) k z hz9
        have HZ := Lib.hid hz9
        clear hz9
        by_cases hcl : Cl z
        · have HCl := Lib.hid hcl
          clear hcl
          go_wp2_with fail
          refine (checkC_ok z _ HCl.out).mono ?_
          rintro e w1 ⟨rfl, hb⟩
          have B1 := Lib.hid (HB.out.up hb)
          clear hb c0 HB
          go_wp2_with fail
          go_roundg (zs.length - (k + 1))
          case measure => omega
          case rel => exact ⟨k + 1, by omega, rfl, by go_num, Lib.hid (fun y hy => by
              rw [take_snoc HZ.out] at hy
              simp at hy
              rcases hy with hy | rfl
              · exact HA.out y hy
              · exact HCl.out), B1⟩
        · have HX := Lib.hid (HE.out.e1 H0.out ⟨z, List.mem_of_getElem? HZ.out, hcl⟩)
          have HCl := Lib.hid hcl
          clear hcl
          go_wp2_with fail
          refine (checkC_bad z _ HCl.out).mono ?_
          rintro e w1 ⟨rfl, hb⟩
          have B1 := Lib.hid (HB.out.up hb)
          clear hb c0 HB
          go_wp2_with fail
          go_ret
          exact ⟨by rw [HX.out]; rfl, B1.out.out⟩
      · obtain rfl : k = zs.length := by omega
        have HAll := Lib.hid (show ∀ z ∈ zs, Cl z by have := HA.out; rwa [List.take_length] at this)
        have HB0 := HB
        clear HA HB
        go_wp2_with fail
        go_loopg [28] L.length (fun gm i wr => ∃ k : Nat, k ≤ L.length ∧ gm = L.length - k ∧ i = .int .i64 (k : Int) ∧ Hid (∀ q ∈ L.take k, Pit q.1 q.2.1 q.2.2) ∧ Hid (Bel w wr))
        case atStart => exact ⟨0, by omega, by omega, rfl, Lib.hid (fun z hz => by simp at hz), HB0⟩
        case round =>
          obtain ⟨k, hk, rfl, rfl, HA, HB⟩ := hrel
          clear HB0
          by_cases hlt : k < L.length
          · obtain ⟨p, hp⟩ : ∃ p, L[k]? = some p := ⟨_, List.getElem?_eq_getElem hlt⟩
            obtain ⟨b, off, rfl, c0, c1, c2⟩ := (H2.out.up HB.out.out) k p hp
            have HZ := Lib.hid hp
            clear hp
            have X1 := Tri.new wr (.int .i64 p.1) (.int .i64 p.2.1) (.int .i64 p.2.2) 23 wr.heap.size rfl
            have B1 := Lib.hid (HB.out.alloc (.cells #[.int .i64 p.1, .int .i64 p.2.1, .int .i64 p.2.2] 23))
            obtain ⟨x0, x1, x2, x3, x4, x5, x6⟩ := id X1
            by_cases hpit : Pit p.1 p.2.1 p.2.2
            · have HCl := Lib.hid hpit
              clear hpit
              go_wp2_with fail
              refine (check_ok p.1 p.2.1 p.2.2 _ HCl.out (HC.out.below B1.out.out).t).mono ?_
              rintro e w1 ⟨rfl, hb⟩
              have B2 := Lib.hid (B1.out.up hb)
              clear hb c0 c1 c2 HB B1 x0 x1 x2 x3 x4 x5 x6
              go_wp2_with fail
              go_roundg (L.length - (k + 1))
              case measure => omega
              case rel => exact ⟨k + 1, by omega, rfl, by go_num, Lib.hid (fun y hy => by
                  rw [take_snoc HZ.out] at hy
                  simp at hy
                  rcases hy with hy | rfl
                  · exact HA.out y hy
                  · exact HCl.out), B2⟩
            · have HX := Lib.hid (HE.out.e2 H0.out HAll.out ⟨p, List.mem_of_getElem? HZ.out, hpit⟩)
              have HCl := Lib.hid hpit
              clear hpit
              go_wp2_with fail
              refine (check_bad p.1 p.2.1 p.2.2 _ HCl.out (HC.out.below B1.out.out).t).mono ?_
              rintro e w1 ⟨rfl, hb⟩
              have B2 := Lib.hid (B1.out.up hb)
              clear hb c0 c1 c2 HB B1 x0 x1 x2 x3 x4 x5 x6
              go_wp2_with fail
              go_ret
              exact ⟨by rw [HX.out]; rfl, B2.out.out⟩
          · obtain rfl : k = L.length := by omega
            have HX := Lib.hid (HE.out.e3 H0.out HAll.out (by have := HA.out; rwa [List.take_length] at this))
            go_wp2_with fail
            go_ret
            exact ⟨by rw [HX.out]; rfl, HB.out.out⟩
end Go.Proofs.YtmdnlnjapkcanaaDoor
