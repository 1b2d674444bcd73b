/- Clefs: how many ledger lines pitches need. -/
import Derived.Test.YtmdnlnjapkcanaaDoorCj
import Derived.Test.YtmdnlnjapkcanaaDoorOs
namespace Go.Proofs.YtmdnlnjapkcanaaDoor
open Go.RowKit
set_option linter.unusedVariables false
set_option linter.unusedSimpArgs false

/-- how many ledger lines a pitch, a list of pitches needs -/
def linK (c : Int) (p : Int × Int × Int) : Nat := (ledL (diaP p.1 p.2.2 - midI c)).length
def lnsI (c : Int) (L : List (Int × Int × Int)) : Nat := (L.map (linK c)).sum
theorem linK_le (c : Int) (p : Int × Int × Int) : linK c p ≤ 1000 := ledL_len _
theorem lnsI_snoc {c : Int} {L : List (Int × Int × Int)} {k : Nat} {p : Int × Int × Int} (h : L[k]? = some p) : lnsI c (L.take (k + 1)) = lnsI c (L.take k) + linK c p := by
  unfold lnsI
  rw [List.take_add_one, h]
  simp [List.sum_append]
theorem lnsI_le (c : Int) : ∀ L : List (Int × Int × Int), lnsI c L ≤ 1000 * L.length
  | [] => by simp [lnsI]
  | p :: L => by
    have h1 := lnsI_le c L
    have h2 := linK_le c p
    have e : lnsI c (p :: L) = linK c p + lnsI c L := by simp [lnsI]
    rw [e, List.length_cons]
    omega
set_option maxRecDepth 100000 in
set_option maxHeartbeats 4000000 in
theorem ledgers_ok (c : Int) (L : List (Int × Int × Int)) (ad : Option Addr) (cap : Nat) (w : World) (h : Cl c) (hp : ∀ q ∈ L, Pit q.1 q.2.1 q.2.2) (hl : L.length ≤ 20) (hc : CW w) (ha : PitAt w ad L) :
    Calls Tryd.prog 40 #[.int .i64 c, .slice ad L.length cap] w fun e w' => e = .returned (.int .i64 (lnsI c L : Int)) ∧ Below w.heap.size w w' := by
  have HP := Lib.hid h
  have HQ := Lib.hid hp
  have HC := Lib.hid hc
  have HA := Lib.hid ha
  have HT := Lib.hid (show lnsI c L = lnsI c (L.take L.length) by rw [List.take_length])
  have HL := Lib.hid (fun k : Nat => lnsI_le c (L.take k))
  clear hp hc ha h
  go_enter Tryd.func40, Tryd.ntmps40
  go_wp2_with fail
  go_loopg [5, 12] L.length (fun gm n i wr => ∃ k : Nat, k ≤ L.length ∧ gm = L.length - k ∧ i = .int .i64 (k : Int) ∧ n = .int .i64 (lnsI c (L.take k) : Int) ∧ Hid (Bel w wr))
  case atStart => exact ⟨0, by omega, by omega, rfl, rfl, Lib.hid (Bel.refl w)⟩
  case round =>
    obtain ⟨k, hk, rfl, rfl, rfl, HB⟩ := hrel
    by_cases hlt : k < L.length
    · obtain ⟨p, hp⟩ : ∃ p, L[k]? = some p := ⟨_, List.getElem?_eq_getElem hlt⟩
      obtain ⟨b, off, rfl, c0, c1, c2⟩ := (HA.out.up HB.out.out) k p hp
      have pq := Lib.hid (HQ.out p (List.mem_of_getElem? hp))
      have HS := Lib.hid (lnsI_snoc (c := c) hp)
      have hle := HL.out k
      have hke := linK_le c p
      have HK := Lib.hid (show (ledL (diaP p.1 p.2.2 - midI c)).length = linK c p from rfl)
      rw [List.length_take] at hle
      clear hp
      generalize lnsI c (L.take k) = N at *
      have X1 := Tri.new wr (.int .i64 p.1) (.int .i64 p.2.1) (.int .i64 p.2.2) 23 wr.heap.size rfl
      have B1 := Lib.hid (HB.out.alloc (.cells #[.int .i64 p.1, .int .i64 p.2.1, .int .i64 p.2.2] 23))
      obtain ⟨x0, x1, x2, x3, x4, x5, x6⟩ := id X1
      go_wp2_with fail
      clear c0 c1 c2 x0 x1 x2 x3 x4 x5 x6
      refine (pos_ok c p.1 p.2.1 p.2.2 _ HP.out pq.out (HC.out.below B1.out.out)).mono ?_
      rintro e w1 ⟨rfl, hb⟩
      have B2 := Lib.hid (B1.out.up hb)
      clear hb B1
      go_wp2_with fail
      refine (led_any (diaP p.1 p.2.2 - midI c) _).mono ?_
      rintro e w2 ⟨v, rfl, hown, hb⟩
      obtain ⟨ad2, cap2, rfl, _⟩ := row1_own hown
      have B3 := Lib.hid (B2.out.up hb)
      rw [HK.out]
      clear hown hb B2
      generalize linK c p = M at *
      go_wp2_with fail
      go_roundg (L.length - (k + 1))
      case measure => omega
      case rel => exact ⟨k + 1, by omega, rfl, by go_num, by rw [HS.out]; go_num, B3⟩
    · obtain rfl : k = L.length := by omega
      go_wp2_with fail
      go_ret
      exact ⟨by first | (rw [List.take_length]; rfl) | (simp [List.take_length]; done), HB.out.out⟩
set_option maxRecDepth 100000 in
set_option maxHeartbeats 4000000 in
theorem lines_ok (c : Int) (L : List (Int × Int × Int)) (ad : Option Addr) (cap : Nat) (w : World) (h : Cl c) (hp : ∀ q ∈ L, Pit q.1 q.2.1 q.2.2) (hl : L.length ≤ 20) (hc : CW w) (ha : PitAt w ad L) :
    Calls Tryd.prog 41 #[.int .i64 c, .slice ad L.length cap] w fun e w' => e = .returned (.int .i64 (lnsI c L : Int)) ∧ Below w.heap.size w w' := by
  have HP := Lib.hid h
  have HQ := Lib.hid hp
  have HC := Lib.hid hc
  have HA := Lib.hid ha
  have HT := Lib.hid (show lnsI c L = lnsI c (L.take L.length) by rw [List.take_length])
  have HL := Lib.hid (fun k : Nat => lnsI_le c (L.take k))
  clear hp hc ha h
  go_enter Tryd.func41, Tryd.ntmps41
  go_wp2_with fail
  go_loopg [5, 6] L.length (fun gm n i wr => ∃ k : Nat, k ≤ L.length ∧ gm = L.length - k ∧ i = .int .i64 (k : Int) ∧ n = .int .i64 (lnsI c (L.take k) : Int) ∧ Hid (Bel w wr))
  case atStart => exact ⟨0, by omega, by omega, rfl, rfl, Lib.hid (Bel.refl w)⟩
  case round =>
    obtain ⟨k, hk, rfl, rfl, rfl, HB⟩ := hrel
    by_cases hlt : k < L.length
    · obtain ⟨p, hp⟩ : ∃ p, L[k]? = some p := ⟨_, List.getElem?_eq_getElem hlt⟩
      obtain ⟨b, off, rfl, c0, c1, c2⟩ := (HA.out.up HB.out.out) k p hp
      have pq := Lib.hid (HQ.out p (List.mem_of_getElem? hp))
      have HS := Lib.hid (lnsI_snoc (c := c) hp)
      have hle := HL.out k
      have hke := linK_le c p
      have HK := Lib.hid (show (ledL (diaP p.1 p.2.2 - midI c)).length = linK c p from rfl)
      rw [List.length_take] at hle
      clear hp
      generalize lnsI c (L.take k) = N at *
      go_wp2_with fail
      clear c0 c1 c2
      refine (rpos_ok c p.1 p.2.1 p.2.2 _ HP.out pq.out.s0 pq.out.s1 pq.out.o0 pq.out.o1).mono ?_
      rintro e w1 ⟨rfl, hb⟩
      have B2 := Lib.hid (HB.out.up hb)
      clear hb HB
      go_wp2_with fail
      refine (rled_any (diaP p.1 p.2.2 - midI c) _).mono ?_
      rintro e w2 ⟨v, rfl, hown, hb⟩
      obtain ⟨ad2, cap2, rfl, _⟩ := row1_own hown
      have B3 := Lib.hid (B2.out.up hb)
      rw [HK.out]
      clear hown hb B2
      generalize linK c p = M at *
      go_wp2_with fail
      go_roundg (L.length - (k + 1))
      case measure => omega
      case rel => exact ⟨k + 1, by omega, rfl, by go_num, by rw [HS.out]; go_num, B3⟩
    · obtain rfl : k = L.length := by omega
      go_wp2_with fail
      go_ret
      exact ⟨by first | (rw [List.take_length]; rfl) | (simp [List.take_length]; done), HB.out.out⟩
end Go.Proofs.YtmdnlnjapkcanaaDoor
