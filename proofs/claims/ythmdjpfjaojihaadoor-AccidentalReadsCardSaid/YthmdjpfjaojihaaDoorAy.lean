/- Accidentals: Read. -/
import Derived.Test.YthmdjpfjaojihaaDoorAx
import Derived.Test.YthmdjpfjaojihaaDoorAq
import Derived.Test.YthmdjpfjaojihaaDoorAt
namespace Go.Proofs.YthmdjpfjaojihaaDoor
open Go.RowKit
set_option linter.unusedVariables false
set_option linter.unusedSimpArgs false

def pxP (n : Pl) : Nat := (pxI n.s n.o).toNat
def altP (fr : Nat → Int) (n : Pl) : Int := if n.k = 0 then (if n.h = true then n.b else fr (pxP n)) else n.k - 3
def nxtP (fr : Nat → Int) (n : Pl) : Nat → Int := if n.k = 0 then fr else updF fr (pxP n) (n.k - 3)
/-- the alterations in force behind the first k places; what place k reads as -/
def rdF (L : List Pl) (f : Int) : Nat → Nat → Int
  | 0 => frI f
  | k + 1 => match L[k]? with
    | none => rdF L f k
    | some n => nxtP (rdF L f k) n
def rdA (L : List Pl) (f : Int) (k : Nat) : Int := match L[k]? with
  | none => 0
  | some n => altP (rdF L f k) n
theorem rdF_at {L : List Pl} {f : Int} {k : Nat} {n : Pl} (h : L[k]? = some n) : rdF L f (k + 1) = nxtP (rdF L f k) n := by
  show (match L[k]? with | none => rdF L f k | some n => nxtP (rdF L f k) n) = _
  rw [h]
theorem rdA_at {L : List Pl} {f : Int} {k : Nat} {n : Pl} (h : L[k]? = some n) : rdA L f k = altP (rdF L f k) n := by
  unfold rdA
  rw [h]
structure GoodP (n : Pl) : Prop where
  pos : Pos n.s n.o
  k0 : 0 ≤ n.k
  k1 : n.k ≤ 5
  hb : n.h = true → -2 ≤ n.b ∧ n.b ≤ 2
theorem errP_zero {last : Int} {n : Pl} (h : errP last n = 0) : last ≤ n.t ∧ GoodP n := by
  unfold errP at h
  split at h
  · exact absurd h (by decide)
  · split at h
    · exact absurd h (by decide)
    · split at h
      · exact absurd h (by decide)
      · split at h
        · exact absurd h (by decide)
        · rename_i h1 h2 h3 h4
          refine ⟨by omega, Decidable.not_not.1 h2, by omega, by omega, fun hh => ?_⟩
          have : ¬ (n.b < -2 ∨ 2 < n.b) := fun hx => h4 ⟨hh, hx⟩
          omega
theorem errPL_good : ∀ (L : List Pl) (last : Int), errPL last L = 0 → ∀ n ∈ L, GoodP n := by
  intro L
  induction L with
  | nil => intro last _ n hn; cases hn
  | cons m L ih =>
    intro last h n hn
    have h1 : (if errP last m = 0 then errPL m.t L else errP last m) = 0 := h
    have hz : errP last m = 0 := by
      by_cases e : errP last m = 0
      · exact e
      · rw [if_neg e] at h1; exact h1
    rw [if_pos hz] at h1
    rcases List.mem_cons.1 hn with rfl | hn
    · exact (errP_zero hz).2
    · exact ih m.t h1 n hn
theorem make_int (n : Nat) (hn : n ≤ 100000) (w : World) : (Instr.makeSlice 32 (.int .i64 (n : Int)) (.int .i64 (n : Int))).run Tryd.prog w = .ok (.slice (some ⟨w.heap.size, 0, none⟩) n n) (w.alloc (.cells (madeCells #[.int .i64 0] n) 3)) :=
  run_make_row' _ _ (.int .i64 0) 8 Tryd.underlying32 infoI rfl _ _ n (by omega) (by omega) w
theorem fil_made (w : World) (n : Nat) (t : TypeId) (g : Nat) (hg : g = w.heap.size) : Fil (w.alloc (.cells (madeCells #[.int .i64 0] n) t)) g n (fun _ => 0) := by
  intro j hj
  subst hg
  refine ⟨tab_new w _ t _ rfl j _ ?_, by simp [go_sem]⟩
  simp [madeCells, hj, Nat.mod_one]
theorem Fil.next {w : World} {b n k : Nat} {L : List Pl} {f : Int} {x : Int} (h : Fil w b n (fun j => if j < k then rdA L f j else 0)) (hk : k < n) (hm : rdA L f k = x) :
    Fil (w.setCell ⟨b, k, none⟩ (.int .i64 x)) b n (fun j => if j < k + 1 then rdA L f j else 0) :=
  (h.set k hk x).eq (fun j _ => by
    by_cases e : j = k
    · subst e
      simp [hm]
    · by_cases h1 : j < k
      · simp [e, h1, show j < k + 1 by omega]
      · simp [e, h1, show ¬ j < k + 1 by omega])
set_option maxRecDepth 100000 in
set_option maxHeartbeats 1000000 in
theorem Read_bad1 (f : Int) (n cap : Nat) (ad : Option Addr) (w : World) (hf : ¬ Sg f) (hk : KT w) :
    Calls Tryd.prog 16 #[.int .i64 f, .slice ad n cap] w fun e w' => e = .returned (.tuple #[.slice none 0 0, .int .i64 2]) ∧ Below w.heap.size w w' := by
  have HK := Lib.hid hk
  have hz := zero77
  have HF := Lib.hid hf
  clear hf hk
  go_enter Tryd.func16, Tryd.ntmps16
  go_wp2_with fail
  refine (sigA_bad f _ HF.out HK.out).mono ?_
  rintro e w1 ⟨rfl, hb⟩
  have B0 := Lib.hid (show Bel w w1 from hb)
  have B1 := Lib.hid (B0.out.alloc (.cells z77 58))
  have F1 := Lib.hid (Fil.new w1 58 w1.heap.size rfl)
  have B2 := Lib.hid (below_setCells B0.out.size w (arL (fun _ => 0)).toArray.toList 0 _ B1.out.out)
  clear hb B0
  go_wp2_with (refine wpList_store_mid rfl 58 _ _ rfl w1.heap.size 0 (arL (fun _ => 0)).toArray rfl rfl (F1.out.there _) (by rw [size77]; simp [arL_len]) (arL_one _) ?_; generalize ((w1.alloc (.cells z77 58)).setCells w1.heap.size 0 (arL (fun _ => 0)).toArray.toList) = W2 at *)
  go_ret2
  exact ⟨rfl, B2.out⟩
set_option maxRecDepth 100000 in
set_option maxHeartbeats 1000000 in
theorem Read_bad2 (f E : Int) (n cap : Nat) (ad : Option Addr) (w : World) (hf : Sg f) (hE : E ≠ 0) (hk : KT w)
    (KC : ∀ wz, Bel w wz → Calls Tryd.prog 26 #[.slice ad n cap] wz fun e w' => e = .returned (.int .i64 E) ∧ Below wz.heap.size wz w') :
    Calls Tryd.prog 16 #[.int .i64 f, .slice ad n cap] w fun e w' => e = .returned (.tuple #[.slice none 0 0, .int .i64 E]) ∧ Below w.heap.size w w' := by
  have HK := Lib.hid hk
  have hz := zero77
  have HF := Lib.hid hf
  have KK := Lib.hid KC
  have he2 : (E != 0) = true := by simpa using hE
  clear hf hk KC hE
  go_enter Tryd.func16, Tryd.ntmps16
  go_wp2_with fail
  refine (sigA_ok f _ HF.out HK.out).mono ?_
  rintro e w1 ⟨rfl, hb⟩
  have B0 := Lib.hid (show Bel w w1 from hb)
  have B1 := Lib.hid (B0.out.alloc (.cells z77 58))
  have F1 := Lib.hid (Fil.new w1 58 w1.heap.size rfl)
  have B2 := Lib.hid (below_setCells B0.out.size w (arL (frI f)).toArray.toList 0 _ B1.out.out)
  clear hb B0
  go_wp2_with (refine wpList_store_mid rfl 58 _ _ rfl w1.heap.size 0 (arL (frI f)).toArray rfl rfl (F1.out.there _) (by rw [size77]; simp [arL_len]) (arL_one _) ?_; generalize ((w1.alloc (.cells z77 58)).setCells w1.heap.size 0 (arL (frI f)).toArray.toList) = W2 at *)
  refine (KK.out _ B2.out).mono ?_
  rintro e w3 ⟨rfl, hb⟩
  have B3 := Lib.hid (Bel.up B2.out hb)
  clear hb
  go_wp2_with fail
  go_ret2
  exact ⟨rfl, B3.out.out⟩
set_option maxRecDepth 100000 in
set_option maxHeartbeats 8000000 in
theorem Read_ok (f : Int) (L : List Pl) (ad : Option Addr) (cap : Nat) (w : World) (hf : Sg f) (hl : L.length ≤ 2560) (hE : errPL 0 L = 0) (h : PlAt w ad L) (hk : KT w) :
    Calls Tryd.prog 16 #[.int .i64 f, .slice ad L.length cap] w fun e w' => ∃ g : Nat, e = .returned (.tuple #[.slice (some ⟨g, 0, none⟩) L.length L.length, .int .i64 0]) ∧ Fil w' g L.length (rdA L f) ∧ Below w.heap.size w w' := by
  have HK := Lib.hid hk
  have hz := zero77
  have HF := Lib.hid hf
  have HA := Lib.hid h
  have HG := Lib.hid (errPL_good L 0 hE)
  have HE := Lib.hid hE
  have hmk := make_int L.length (by omega)
  clear hf hk h hE
  go_enter Tryd.func16, Tryd.ntmps16
  go_wp2_with fail
  refine (sigA_ok f _ HF.out HK.out).mono ?_
  rintro e w1 ⟨rfl, hb⟩
  have B0 := Lib.hid (show Bel w w1 from hb)
  have B1 := Lib.hid (B0.out.alloc (.cells z77 58))
  have F1 := Lib.hid (Fil.new w1 58 w1.heap.size rfl)
  have F2 := Lib.hid (F1.out.stored (us := frI f))
  have B2 := Lib.hid (below_setCells B0.out.size w (arL (frI f)).toArray.toList 0 _ B1.out.out)
  have hw1 : w.heap.size ≤ w1.heap.size := B0.out.size
  clear hb B0
  go_wp2_with (refine wpList_store_mid rfl 58 _ _ rfl w1.heap.size 0 (arL (frI f)).toArray rfl rfl (F1.out.there _) (by rw [size77]; simp [arL_len]) (arL_one _) ?_; generalize ((w1.alloc (.cells z77 58)).setCells w1.heap.size 0 (arL (frI f)).toArray.toList) = W2 at *)
  clear F1 B1
  generalize w1.heap.size = fb at *
  have KCC := checkP_ok L ad cap W2 hl (HA.out.up B2.out)
  rw [HE.out] at KCC
  refine KCC.mono ?_
  rintro e w3 ⟨rfl, hb⟩
  clear KCC
  have hup : Below w3.heap.size w3 (w3.alloc (.cells (madeCells #[.int .i64 0] L.length) 3)) := (Below.refl _ w3).alloc (Nat.le_refl _) _
  have F4 := Lib.hid ((F2.out.up hb).up hup)
  have M4 := Lib.hid (fil_made w3 L.length 3 w3.heap.size rfl)
  have B4 := Lib.hid ((Bel.up B2.out hb).alloc (.cells (madeCells #[.int .i64 0] L.length) 3))
  have hlt3 : fb < w3.heap.size := (F2.out.up hb).lt (by omega)
  clear hb hup F2 B2
  go_wp2_with fail
  generalize (w3.alloc (.cells (madeCells #[.int .i64 0] L.length) 3)) = W4 at *
  generalize w3.heap.size = mk at *
  go_loopg [33] L.length (fun gm i wr => ∃ (k : Nat), k ≤ L.length ∧ gm = L.length - k ∧ i = .int .i64 (k : Int) ∧ Hid (Fil wr fb 77 (rdF L f k)) ∧ Hid (Fil wr mk L.length (fun j => if j < k then rdA L f j else 0)) ∧ Hid (Bel w wr))
  case atStart => exact ⟨0, by omega, by omega, rfl, F4, Lib.hid (M4.out.eq (fun j hj => by simp)), B4⟩
  case round =>
    obtain ⟨k, hk, rfl, rfl, HF2, HM, HB⟩ := hrel
    clear F4 M4 B4
    by_cases hlt : k < L.length
    · obtain ⟨n, hn⟩ : ∃ n, L[k]? = some n := ⟨_, List.getElem?_eq_getElem hlt⟩
      obtain ⟨b, off, rfl, hc6⟩ := (HA.out.up HB.out.out) k n hn
      have hup : Below wr.heap.size wr (wr.alloc (.cells (plA n) 45)) := (Below.refl _ wr).alloc (Nat.le_refl _) _
      have B1 := Lib.hid (HB.out.alloc (.cells (plA n) 45))
      have X1 := Lib.hid (B7.new wr n 45 wr.heap.size rfl)
      have F1 := Lib.hid (HF2.out.up hup)
      have M1 := Lib.hid (HM.out.up hup)
      have DF := Lib.hid (rdF_at (f := f) hn)
      have DM := Lib.hid (rdA_at (f := f) hn)
      obtain ⟨hp, k0, k1, _⟩ := HG.out n (List.mem_of_getElem? hn)
      have Hp := Lib.hid hp
      have hPN : pxI n.s n.o = (pxP n : Int) ∧ pxP n < 77 := by
        obtain ⟨p0, p1, p2, p3⟩ := hp
        unfold pxP pxI
        omega
      have hsz : mk < wr.heap.size := lt_of_cell (HM.out 0 (by omega)).1
      clear hup HF2 HM HB hn hp
      obtain ⟨P, hP⟩ : ∃ P, pxP n = P := ⟨_, rfl⟩
      rw [hP] at hPN
      obtain ⟨fr, hfr2⟩ : ∃ fr, rdF L f k = fr := ⟨_, rfl⟩
      rw [hfr2] at DF DM F1
      have HP := Lib.hid hP
      clear hP hfr2
      rcases n with ⟨t, s, o, K, p, hd, v⟩
      obtain ⟨c0, c1, c2, c3, c4, c5, c6⟩ := hc6
      obtain ⟨x0, x1, x2, x3, x4, x5, x6⟩ := id X1.out
      simp only [plA] at c0 c1 c2 c3 c4 c5 c6 x0 x1 x2 x3 x4 x5 x6 B1 F1 M1 k0 k1 hPN
      go_wp2_with fail
      have KP := pix_ok s o (wr.alloc (.cells #[.int .i64 t, .int .i64 s, .int .i64 o, .int .i64 K, .bool p, .bool hd, .int .i64 v] 45)) Hp.out
      rw [hPN.1] at KP
      refine KP.mono ?_
      rintro e w6 ⟨rfl, hb⟩
      clear KP
      have B2 := Lib.hid (B1.out.up hb)
      have X2 := Lib.hid (X1.out.up hb)
      have F2 := Lib.hid (F1.out.up hb)
      have M2 := Lib.hid (M1.out.up hb)
      clear hb B1 X1 F1 M1 c0 c1 c2 c3 c4 c5 c6 x0 x1 x2 x3 x4 x5 x6
      obtain ⟨x0, x1, x2, x3, x4, x5, x6⟩ := id X2.out
      simp only at x0 x1 x2 x3 x4 x5 x6
      by_cases hK : K = 0
      · have HKZ := Lib.hid hK
        subst hK
        go_wp2_with fail
        refine (alter_0 0 _ rfl).mono ?_
        rintro e w7 ⟨rfl, hb⟩
        have B3 := Lib.hid (B2.out.up hb)
        have X3 := Lib.hid (X2.out.up hb)
        have F3 := Lib.hid (F2.out.up hb)
        have M3 := Lib.hid (M2.out.up hb)
        clear hb B2 X2 F2 M2 x0 x1 x2 x3 x4 x5 x6
        obtain ⟨x0, x1, x2, x3, x4, x5, x6⟩ := id X3.out
        simp only at x0 x1 x2 x3 x4 x5 x6
        obtain ⟨g0, g1⟩ := F3.out P hPN.2
        obtain ⟨m0, m1⟩ := M3.out k hlt
        simp only [Nat.lt_irrefl, if_false] at m0
        have hwm : w.heap.size ≤ mk := by omega
        have hfm : fb ≠ mk := by omega
        have hmf : mk ≠ fb := by omega
        have hnk : wr.heap.size ≠ mk := by omega
        have hnf : wr.heap.size ≠ fb := by omega
        cases hd
        · have DM2 := Lib.hid (show rdA L f k = fr P by rw [DM.out]; simp [altP, HP.out])
          have DF2 := Lib.hid (show rdF L f (k + 1) = fr by rw [DF.out]; simp [nxtP])
          have M4 := Lib.hid (M3.out.next hlt DM2.out)
          have F4 := Lib.hid ((F3.out.other (c := mk) (i := k) (u := .int .i64 (fr P)) hmf).eq (us := rdF L f (k + 1)) (fun j _ => by rw [DF2.out]))
          have B4 := Lib.hid (B3.out.set (b := mk) hwm k (.int .i64 (fr P)))
          go_wp2_with fail
          go_roundg (L.length - (k + 1))
          case measure => omega
          case rel => exact ⟨k + 1, by omega, rfl, by go_num, F4, M4, B4⟩
        · have DM2 := Lib.hid (show rdA L f k = v by rw [DM.out]; simp [altP])
          have DF2 := Lib.hid (show rdF L f (k + 1) = fr by rw [DF.out]; simp [nxtP])
          have M4 := Lib.hid (M3.out.next hlt DM2.out)
          have F4 := Lib.hid ((F3.out.other (c := mk) (i := k) (u := .int .i64 v) hmf).eq (us := rdF L f (k + 1)) (fun j _ => by rw [DF2.out]))
          have B4 := Lib.hid (B3.out.set (b := mk) hwm k (.int .i64 v))
          go_wp2_with fail
          go_roundg (L.length - (k + 1))
          case measure => omega
          case rel => exact ⟨k + 1, by omega, rfl, by go_num, F4, M4, B4⟩
      · have HKZ := Lib.hid hK
        go_wp2_with fail
        refine (alter_y K _ (by omega) (by omega)).mono ?_
        rintro e w7 ⟨rfl, hb⟩
        have B3 := Lib.hid (B2.out.up hb)
        have X3 := Lib.hid (X2.out.up hb)
        have F3 := Lib.hid (F2.out.up hb)
        have M3 := Lib.hid (M2.out.up hb)
        clear hb B2 X2 F2 M2 x0 x1 x2 x3 x4 x5 x6
        obtain ⟨x0, x1, x2, x3, x4, x5, x6⟩ := id X3.out
        simp only at x0 x1 x2 x3 x4 x5 x6
        obtain ⟨g0, g1⟩ := F3.out P hPN.2
        obtain ⟨m0, m1⟩ := M3.out k hlt
        simp only [Nat.lt_irrefl, if_false] at m0
        have hwm : w.heap.size ≤ mk := by omega
        have hfm : fb ≠ mk := by omega
        have hmf : mk ≠ fb := by omega
        have hnk : wr.heap.size ≠ mk := by omega
        have hnf : wr.heap.size ≠ fb := by omega
        have DM2 := Lib.hid (show rdA L f k = K - 3 by rw [DM.out]; simp [altP, HKZ.out])
        have DF2 := Lib.hid (show rdF L f (k + 1) = updF fr P (K - 3) by rw [DF.out, ← HP.out]; simp [nxtP, HKZ.out])
        have M4 := Lib.hid ((M3.out.next hlt DM2.out).other (c := fb) (i := P) (u := .int .i64 (K - 3)) hfm)
        have F4 := Lib.hid (((F3.out.other (c := mk) (i := k) (u := .int .i64 (K - 3)) hmf).set P hPN.2 (K - 3)).eq (us := rdF L f (k + 1)) (fun j _ => by rw [DF2.out]; rfl))
        have B4 := Lib.hid ((B3.out.set (b := mk) hwm k (.int .i64 (K - 3))).set (b := fb) (by omega) P (.int .i64 (K - 3)))
        clear hK
        go_wp2_with fail
        go_roundg (L.length - (k + 1))
        case measure => omega
        case rel => exact ⟨k + 1, by omega, rfl, by go_num, F4, M4, B4⟩
    · obtain rfl : k = L.length := by omega
      have M1 := Lib.hid (HM.out.eq (us := rdA L f) (fun j hj => by simp [hj]))
      clear HM
      go_wp2_with fail
      go_ret2
      exact ⟨mk, rfl, M1.out, HB.out.out⟩
end Go.Proofs.YthmdjpfjaojihaaDoor
