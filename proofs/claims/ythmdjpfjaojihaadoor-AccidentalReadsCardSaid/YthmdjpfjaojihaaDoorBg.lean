/- Accidentals: the reference's Read. -/
import Derived.Test.YthmdjpfjaojihaaDoorBc
namespace Go.Proofs.YthmdjpfjaojihaaDoor
open Go.RowKit
set_option linter.unusedVariables false
set_option linter.unusedSimpArgs false

/-- what the reference's Read keeps: a row of numbers from block base on, the alterations in force in block g ahead of it -/
structure RK (w wr : World) (base g : Nat) (v : Value) (l : List Int) (fr : Nat → Int) : Prop where
  bel : Bel w wr
  own : wr.ownsRow base 3 1 v l.length (intsA l)
  fil : Fil wr g 77 fr
  gb : g < base
  wg : w.heap.size ≤ g
  bs : base ≤ wr.heap.size
theorem RK.up {w wr w' : World} {base g : Nat} {v : Value} {l : List Int} {fr : Nat → Int} (h : RK w wr base g v l fr) (hb : Below wr.heap.size wr w') : RK w w' base g v l fr :=
  ⟨h.bel.up hb, ownUp h.own hb, h.fil.up hb, h.gb, h.wg, Nat.le_trans h.bs hb.size⟩
theorem RK.set {w wr : World} {base g : Nat} {v : Value} {l : List Int} {fr : Nat → Int} (h : RK w wr base g v l fr) (i : Nat) (hi : i < 77) (u : Int) : RK w (wr.setCell ⟨g, i, none⟩ (.int .i64 u)) base g v l (updF fr i u) :=
  ⟨h.bel.set h.wg _ _, h.own.kept (grown_set wr g i _) (by
    cases hv : v.ownBlock with
    | none => exact .inl rfl
    | some r =>
      refine .inr (fun e => ?_)
      have := (h.own.lt r hv).1
      have := h.gb
      cases e
      omega), h.fil.set i hi u, h.gb, h.wg, by simpa [go_sem] using h.bs⟩
theorem RK.next {w W w9 : World} {base g : Nat} {v v' : Value} {l : List Int} {fr fr' : Nat → Int} {o : Obj} {x : Int} (h : RK w W base g v l fr) (hown : w9.ownsRow base 3 1 v' (l.length + 1) (intsA l ++ [.int .i64 x])) (hg : (W.alloc o).grownBy w9 v.ownBlock) (hf : fr' = fr) : RK w w9 base g v' (l ++ [x]) fr' := by
  subst hf
  have hbs := h.bs
  have hgb := h.gb
  have hwg := h.wg
  have hs := hg.size
  simp only [World.alloc, Array.size_push] at hs
  refine ⟨Below.grown (h.bel.alloc o) hg (by have := h.bel.size; simp; omega) (fun r hr => by have := (h.own.lt r hr).1; omega), ?_, ?_, hgb, hwg, by omega⟩
  · rw [intsA_snoc, List.length_append]
    exact hown
  · refine (h.fil.up ((Below.refl _ W).alloc (Nat.le_refl _) o)).grown hg (fun e => ?_)
    have := (h.own.lt g e.symm).1
    omega
/-- numbers in a row, read at its address -/
def ItAt (w : World) (ad : Option Addr) (l : List Int) : Prop := ∀ (k : Nat) (x : Int), l[k]? = some x → ∃ b, ad = some ⟨b, 0, none⟩ ∧ w.cell? ⟨b, k, none⟩ = some (.int .i64 x)
theorem ItAt.up {w w' : World} {ad : Option Addr} {l : List Int} (h : ItAt w ad l) (hb : Below w.heap.size w w') : ItAt w' ad l := fun k x hk => by
  obtain ⟨b, e, h0⟩ := h k x hk
  exact ⟨b, e, cell_up hb h0⟩
theorem RK.at {w wr : World} {base g : Nat} {v : Value} {l : List Int} {fr : Nat → Int} (h : RK w wr base g v l fr) : ∃ ad cap, v = .slice ad l.length cap ∧ ItAt wr ad l := by
  obtain ⟨hl, hr⟩ := h.own
  rcases hr with ⟨rfl, h0⟩ | ⟨b, cap, cur, rfl, hg, hc, hn, _, hs, ht⟩
  · have : l = [] := List.length_eq_zero_iff.1 h0
    subst this
    exact ⟨none, 0, rfl, fun k x hk => by simp at hk⟩
  · refine ⟨_, cap, rfl, fun k x hk => ⟨b, rfl, ?_⟩⟩
    have hkl : k < l.length := (List.getElem?_eq_some_iff.1 hk).1
    have hx : (cur.toList.take (l.length * 1))[k]? = some (.int .i64 x) := by
      rw [ht]
      simp [intsA, hk]
    rw [List.getElem?_take] at hx
    rw [if_pos (by omega)] at hx
    simp at hx
    simp [World.cell?, hc, hx]
/-- what the first k places read as -/
def rdL (L : List Pl) (f : Int) (k : Nat) : List Int := (List.range k).map (rdA L f)
theorem rdL_len (L : List Pl) (f : Int) (k : Nat) : (rdL L f k).length = k := by simp [rdL]
theorem rdL_snoc (L : List Pl) (f : Int) (k : Nat) : rdL L f (k + 1) = rdL L f k ++ [rdA L f k] := by simp [rdL, List.range_succ]
theorem rdL_at (L : List Pl) (f : Int) {k n : Nat} (h : k < n) : (rdL L f n)[k]? = some (rdA L f k) := by simp [rdL, h]
theorem errP_pos {last t s o k b : Int} {p h : Bool} {X : Int} (ht : last ≤ t) (hp : s < 0 ∨ 6 < s ∨ o < -1 ∨ 9 < o) : (if errP last ⟨t, s, o, k, p, h, b⟩ = 0 then X else errP last ⟨t, s, o, k, p, h, b⟩) = 18 := by
  have e : errP last ⟨t, s, o, k, p, h, b⟩ = 18 := by
    unfold errP
    simp only
    rw [if_neg (by omega), if_pos (fun hs => by obtain ⟨h0, h1, h2, h3⟩ := hs; omega)]
  rw [e]
  rfl
theorem errP_kind {last t s o k b : Int} {p h : Bool} {X : Int} (ht : last ≤ t) (hp : Pos s o) (hk : k < 0 ∨ 5 < k) : (if errP last ⟨t, s, o, k, p, h, b⟩ = 0 then X else errP last ⟨t, s, o, k, p, h, b⟩) = 11 := by
  have e : errP last ⟨t, s, o, k, p, h, b⟩ = 11 := by
    unfold errP
    simp only
    rw [if_neg (by omega), if_neg (Decidable.not_not.2 hp), if_pos hk]
  rw [e]
  rfl
theorem errP_held {last t s o k b : Int} {p : Bool} {X : Int} (ht : last ≤ t) (hp : Pos s o) (k0 : 0 ≤ k) (k1 : k ≤ 5) (hb : b < -2 ∨ 2 < b) : (if errP last ⟨t, s, o, k, p, true, b⟩ = 0 then X else errP last ⟨t, s, o, k, p, true, b⟩) = 2 := by
  have e : errP last ⟨t, s, o, k, p, true, b⟩ = 2 := by
    unfold errP
    simp only
    rw [if_neg (by omega), if_neg (Decidable.not_not.2 hp), if_neg (by omega), if_pos (by first | exact ⟨rfl, hb⟩ | exact ⟨trivial, hb⟩)]
  rw [e]
  rfl
theorem errP_none {last t s o k b : Int} {p h : Bool} {X : Int} (ht : last ≤ t) (hp : Pos s o) (k0 : 0 ≤ k) (k1 : k ≤ 5) (hb : h = true → -2 ≤ b ∧ b ≤ 2) : (if errP last ⟨t, s, o, k, p, h, b⟩ = 0 then X else errP last ⟨t, s, o, k, p, h, b⟩) = X := by
  have e : errP last ⟨t, s, o, k, p, h, b⟩ = 0 := by
    unfold errP
    simp only
    rw [if_neg (by omega), if_neg (Decidable.not_not.2 hp), if_neg (by omega), if_neg (fun hx => by have := hb hx.1; omega)]
  rw [e, if_pos rfl]
set_option maxRecDepth 100000 in
set_option maxHeartbeats 2000000 in
theorem readR_lo (f : Int) (n cap : Nat) (ad : Option Addr) (w : World) (h : f < -7) :
    Calls Tryd.prog 17 #[.int .i64 f, .slice ad n cap] w fun e w' => e = .returned (.tuple #[.slice none 0 0, .int .i64 2]) ∧ Below w.heap.size w w' := by
  go_enter Tryd.func17, Tryd.ntmps17
  go_wp2_with fail
  go_ret2
  exact ⟨rfl, Below.refl _ _⟩
set_option maxRecDepth 100000 in
set_option maxHeartbeats 2000000 in
theorem readR_hi (f : Int) (n cap : Nat) (ad : Option Addr) (w : World) (h0 : -7 ≤ f) (h : 7 < f) :
    Calls Tryd.prog 17 #[.int .i64 f, .slice ad n cap] w fun e w' => e = .returned (.tuple #[.slice none 0 0, .int .i64 2]) ∧ Below w.heap.size w w' := by
  have h0d : ¬ f < -7 := by omega
  go_enter Tryd.func17, Tryd.ntmps17
  go_wp2_with fail
  go_ret2
  exact ⟨rfl, Below.refl _ _⟩
/-- what the reference's Read answers: the error, or the alterations -/
def RdOut (f : Int) (L : List Pl) (E : Int) (w : World) (e : Ending) (w' : World) : Prop :=
  (E ≠ 0 → e = .returned (.tuple #[.slice none 0 0, .int .i64 E])) ∧ (E = 0 → ∃ ad cap, e = .returned (.tuple #[.slice ad L.length cap, .int .i64 0]) ∧ ItAt w' ad (rdL L f L.length)) ∧ Below w.heap.size w w'
theorem RdOut.err {f : Int} {L : List Pl} {E : Int} {w w' : World} (h0 : E ≠ 0) (hb : Below w.heap.size w w') : RdOut f L E w (.returned (.tuple #[.slice none 0 0, .int .i64 E])) w' := ⟨fun _ => rfl, fun h => absurd h h0, hb⟩
set_option maxRecDepth 100000 in
set_option maxHeartbeats 16000000 in
theorem readR_in (f : Int) (L : List Pl) (ad : Option Addr) (cap : Nat) (w : World) (hf : Sg f) (hl : L.length ≤ 30) (h : PlAt w ad L) :
    Calls Tryd.prog 17 #[.int .i64 f, .slice ad L.length cap] w (RdOut f L (errPL 0 L) w) := by
  obtain ⟨i0, hi, hz0, hz1, hz2⟩ := info_parts infoI
  have HA := Lib.hid h
  have HF := Lib.hid hf
  have HE := Lib.hid (show errPL 0 L = errPL 0 (L.drop 0) by rw [List.drop_zero])
  have hc : ¬ 2560 < L.length := by omega
  have hc2 : ¬ (2560 : Int) < (L.length : Int) := by omega
  obtain ⟨f0, f1⟩ := hf
  have fd0 : decide (f < -7) = false := by simp; omega
  have fd1 : decide (7 < f) = false := by simp; omega
  have B0 := Lib.hid (Bel.refl w)
  clear h
  obtain ⟨E, hE⟩ : ∃ E, errPL 0 L = E := ⟨_, rfl⟩
  rw [hE] at HE
  rw [hE]
  clear hE
  go_enter Tryd.func17, Tryd.ntmps17
  go_wp2_with fail
  refine (startR_ok f _ HF.out).mono ?_
  rintro e w1 ⟨fb, cap3, rfl, hfil, hwg, hb⟩
  have HK := Lib.hid (show RK w w1 w1.heap.size fb (.slice none 0 0) (rdL L f 0) (rdF L f 0) from ⟨B0.out.up hb, World.ownsRow_nil _ _ _ _, hfil, hfil.lt (by omega), hwg, Nat.le_refl _⟩)
  clear B0 hb hfil hwg
  generalize w1.heap.size = base at *
  go_wp2_with fail
  go_loopg [7, 8] L.length (fun gm out i wr => ∃ (k : Nat) (last : Int), k ≤ L.length ∧ gm = L.length - k ∧ i = .int .i64 (k : Int) ∧ 0 ≤ last ∧ Hid (k = 0 → last = 0) ∧ Hid (∀ m, 0 < k → L[k - 1]? = some m → last = m.t) ∧ Hid (E = errPL last (L.drop k)) ∧ Hid (RK w wr base fb out (rdL L f k) (rdF L f k)))
  case atStart => exact ⟨0, 0, by omega, by omega, rfl, by omega, Lib.hid (fun _ => rfl), Lib.hid (fun _ h => absurd h (by omega)), HE, HK⟩
  case round =>
    obtain ⟨k, last, hk, rfl, rfl, hla, HZ, HM, HL, HD⟩ := hrel
    clear HE HK
    by_cases hlt : k < L.length
    · obtain ⟨n, hn⟩ : ∃ n, L[k]? = some n := ⟨_, List.getElem?_eq_getElem hlt⟩
      have HN := Lib.hid hn
      obtain ⟨b, off, rfl, hc6⟩ := (HA.out.up HD.out.bel.out) k n hn
      have HDR := Lib.hid (HL.out.trans (errPL_drop hn))
      have HM2 := Lib.hid (show ∀ m, 0 < k + 1 → L[k + 1 - 1]? = some m → n.t = m.t from fun m _ hm => by
        rw [Nat.add_sub_cancel, hn] at hm
        cases hm
        rfl)
      have hup : Below wr.heap.size wr (wr.alloc (.cells (plA n) 42)) := (Below.refl _ wr).alloc (Nat.le_refl _) _
      have X1 := Lib.hid (B7.new wr n 42 wr.heap.size rfl)
      have D1 := Lib.hid (HD.out.up hup)
      have DF := Lib.hid (rdF_at (f := f) hn)
      have DM := Lib.hid (rdA_at (f := f) hn)
      have DL := Lib.hid (rdL_snoc L f k)
      have hbs := HD.out.bs
      have hle := Lib.hid (rdL_len L f k)
      obtain ⟨fr, hfr2⟩ : ∃ fr, rdF L f k = fr := ⟨_, rfl⟩
      rw [hfr2] at DF DM D1
      obtain ⟨P, hP⟩ : ∃ P, pxP n = P := ⟨_, rfl⟩
      have HP := Lib.hid hP
      clear hup HD hn HL hfr2
      rcases n with ⟨t, s, o, K, p, hd, v⟩
      obtain ⟨c0, c1, c2, c3, c4, c5, c6⟩ := hc6
      obtain ⟨x0, x1, x2, x3, x4, x5, x6⟩ := id X1.out
      simp only [plA] at c0 c1 c2 c3 c4 c5 c6 x0 x1 x2 x3 x4 x5 x6 D1 HM2 HDR
      have nlt : wr.heap.size < wr.heap.size + 1 := by omega
      by_cases t0 : t < 0
      · have t0d : decide (t < 0) = true := by simpa using t0
        have HR := Lib.hid (show E = 25 by rw [HDR.out]; simp [errP, show t < last by omega])
        go_wp2_with fail
        try (go_quiet (fail); go_wp2_with fail)
        try (go_quiet (fail); go_wp2_with fail)
        try (go_quiet (fail); go_wp2_with fail)
        go_ret2
        exact ⟨fun _ => by rw [HR.out]; rfl, fun h => absurd (HR.out.symm.trans h) (by decide), by first | exact D1.out.bel.out | exact below_drewN D1.out.bel.out _⟩
      · have t0d : decide (t < 0) = false := by simpa using t0
        by_cases k0 : k = 0
        · have hlt2 : last ≤ t := by have := HZ.out k0; omega
          have hk0 : decide (0 < k) = false := by simp; omega
          have hk0' : decide ((0 : Int) < (k : Int)) = false := by simp; omega
          clear k0 HZ
          by_cases p0 : s < 0
          · have p0d : decide (s < 0) = true := by simpa using p0
            have HR := Lib.hid (show E = 18 by rw [HDR.out]; exact errP_pos (by omega) (by omega))
            go_wp2_with fail
            try (go_quiet (fail); go_wp2_with fail)
            try (go_quiet (fail); go_wp2_with fail)
            try (go_quiet (fail); go_wp2_with fail)
            go_ret2
            exact ⟨fun _ => by rw [HR.out]; rfl, fun h => absurd (HR.out.symm.trans h) (by decide), by first | exact D1.out.bel.out | exact below_drewN D1.out.bel.out _⟩
          · have p0d : decide (s < 0) = false := by simpa using p0
            by_cases p1 : 6 < s
            · have p1d : decide (6 < s) = true := by simpa using p1
              have HR := Lib.hid (show E = 18 by rw [HDR.out]; exact errP_pos (by omega) (by omega))
              go_wp2_with fail
              try (go_quiet (fail); go_wp2_with fail)
              try (go_quiet (fail); go_wp2_with fail)
              try (go_quiet (fail); go_wp2_with fail)
              go_ret2
              exact ⟨fun _ => by rw [HR.out]; rfl, fun h => absurd (HR.out.symm.trans h) (by decide), by first | exact D1.out.bel.out | exact below_drewN D1.out.bel.out _⟩
            · have p1d : decide (6 < s) = false := by simpa using p1
              by_cases p2 : o < -1
              · have p2d : decide (o < -1) = true := by simpa using p2
                have HR := Lib.hid (show E = 18 by rw [HDR.out]; exact errP_pos (by omega) (by omega))
                go_wp2_with fail
                try (go_quiet (fail); go_wp2_with fail)
                try (go_quiet (fail); go_wp2_with fail)
                try (go_quiet (fail); go_wp2_with fail)
                go_ret2
                exact ⟨fun _ => by rw [HR.out]; rfl, fun h => absurd (HR.out.symm.trans h) (by decide), by first | exact D1.out.bel.out | exact below_drewN D1.out.bel.out _⟩
              · have p2d : decide (o < -1) = false := by simpa using p2
                by_cases p3 : 9 < o
                · have p3d : decide (9 < o) = true := by simpa using p3
                  have HR := Lib.hid (show E = 18 by rw [HDR.out]; exact errP_pos (by omega) (by omega))
                  go_wp2_with fail
                  try (go_quiet (fail); go_wp2_with fail)
                  try (go_quiet (fail); go_wp2_with fail)
                  try (go_quiet (fail); go_wp2_with fail)
                  go_ret2
                  exact ⟨fun _ => by rw [HR.out]; rfl, fun h => absurd (HR.out.symm.trans h) (by decide), by first | exact D1.out.bel.out | exact below_drewN D1.out.bel.out _⟩
                · have p3d : decide (9 < o) = false := by simpa using p3
                  have hps : Pos s o := ⟨by omega, by omega, by omega, by omega⟩
                  have Hp := Lib.hid hps
                  have hPN : pxI s o = (P : Int) ∧ P < 77 := by
                    rw [← hP]
                    unfold pxP pxI
                    simp only
                    omega
                  clear hps
                  by_cases p4 : K < 0
                  · have p4d : decide (K < 0) = true := by simpa using p4
                    have HR := Lib.hid (show E = 11 by rw [HDR.out]; exact errP_kind (by omega) Hp.out (by omega))
                    go_wp2_with fail
                    try (go_quiet (fail); go_wp2_with fail)
                    try (go_quiet (fail); go_wp2_with fail)
                    try (go_quiet (fail); go_wp2_with fail)
                    go_ret2
                    exact ⟨fun _ => by rw [HR.out]; rfl, fun h => absurd (HR.out.symm.trans h) (by decide), by first | exact D1.out.bel.out | exact below_drewN D1.out.bel.out _⟩
                  · have p4d : decide (K < 0) = false := by simpa using p4
                    by_cases p5 : 5 < K
                    · have p5d : decide (5 < K) = true := by simpa using p5
                      have HR := Lib.hid (show E = 11 by rw [HDR.out]; exact errP_kind (by omega) Hp.out (by omega))
                      go_wp2_with fail
                      try (go_quiet (fail); go_wp2_with fail)
                      try (go_quiet (fail); go_wp2_with fail)
                      try (go_quiet (fail); go_wp2_with fail)
                      go_ret2
                      exact ⟨fun _ => by rw [HR.out]; rfl, fun h => absurd (HR.out.symm.trans h) (by decide), by first | exact D1.out.bel.out | exact below_drewN D1.out.bel.out _⟩
                    · have p5d : decide (5 < K) = false := by simpa using p5
                      cases hd
                      · have HPz := Lib.hid (show pxP ⟨t, s, o, 0, p, false, v⟩ = P from hP)
                        have HR := Lib.hid (show E = errPL t (L.drop (k + 1)) by rw [HDR.out]; exact errP_none (by omega) Hp.out (by omega) (by omega) (fun h => absurd h (by decide)))
                        go_wp2_with fail
                        try (go_quiet (fail); go_wp2_with fail)
                        try (go_quiet (fail); go_wp2_with fail)
                        try (go_quiet (fail); go_wp2_with fail)
                        have KP := fun wz => idxR_ok s o wz Hp.out
                        rw [hPN.1] at KP
                        refine (KP _).mono ?_
                        rintro e w6 ⟨rfl, hb⟩
                        clear KP
                        have hb6 := Below.trans (below_drewN (Below.refl _ (wr.alloc (.cells #[.int .i64 t, .int .i64 s, .int .i64 o, .int .i64 K, .bool p, .bool false, .int .i64 v] 42))) _) hb
                        have X2 := Lib.hid (X1.out.up hb6)
                        have D2 := Lib.hid (D1.out.up hb6)
                        have hw6 : wr.heap.size < w6.heap.size := lt_of_cell X2.out.c0
                        clear hb hb6 x0 x1 x2 x3 x4 x5 x6 c0 c1 c2 c3 c4 c5 c6
                        obtain ⟨x0, x1, x2, x3, x4, x5, x6⟩ := id X2.out
                        simp only at x0 x1 x2 x3 x4 x5 x6
                        obtain ⟨g0, g1⟩ := D2.out.fil P hPN.2
                        have hb7 := D2.out.bs
                        have hgne : fb < w6.heap.size := lt_of_cell g0
                        generalize wr.heap.size = nb at *
                        have hfnb : fb ≠ nb := by have := D2.out.gb; omega
                        have hnbf : nb ≠ fb := fun e => hfnb e.symm
                        by_cases hK : K = 0
                        · have hKd : decide (0 < K) = false := by simp; omega
                          have HKZ := Lib.hid hK
                          clear hK
                          have DM2 := Lib.hid (show rdL L f (k + 1) = rdL L f k ++ [fr P] by rw [DL.out, DM.out]; simp [altP, HKZ.out, HPz.out])
                          have DF2 := Lib.hid (show rdF L f (k + 1) = fr by rw [DF.out]; simp [nxtP, HKZ.out, HPz.out])
                          have D4 := D2
                          have hl9 := hle.out
                          clear hP
                          go_wp2_with (first | (at_builtin; refine wpList_append_own _ rfl _ _ 32 rfl base 3 i0 (.int .i64 0) 1 8 Tryd.underlying32 hi hz0 hz1 hz2 rfl (by decide) _ _ _ rfl (D4.out.own.alloc _) ⟨_, 0, none⟩ 1 1 [.int .i64 (fr P)] rfl rfl (cell1A_new _ _ _ _ (by simp)) (by simp [Value.oneCell']) (by unfold maxLen; omega) (by omega) (by simp; omega) ?_; intro v' w9 hown' hgrow _))
                          go_roundg (L.length - (k + 1))
                          case measure => omega
                          case rel => exact ⟨k + 1, t, by omega, rfl, by go_num, by omega, Lib.hid (fun h => absurd h (by omega)), HM2, HR, Lib.hid (by rw [DM2.out]; exact D4.out.next hown' hgrow DF2.out)⟩
                        · have hKd : decide (0 < K) = true := by simp; omega
                          have HKZ := Lib.hid hK
                          clear hK
                          have DM2 := Lib.hid (show rdL L f (k + 1) = rdL L f k ++ [K - 3] by rw [DL.out, DM.out]; simp [altP, HKZ.out])
                          have DF2 := Lib.hid (show rdF L f (k + 1) = updF fr P (K - 3) by rw [DF.out, ← HP.out]; simp [nxtP, HKZ.out])
                          have D4 := Lib.hid (D2.out.set P hPN.2 (K - 3))
                          have hl9 := hle.out
                          clear hP
                          go_wp2_with (first | (at_builtin; refine wpList_append_own _ rfl _ _ 32 rfl base 3 i0 (.int .i64 0) 1 8 Tryd.underlying32 hi hz0 hz1 hz2 rfl (by decide) _ _ _ rfl (D4.out.own.alloc _) ⟨_, 0, none⟩ 1 1 [.int .i64 (K - 3)] rfl rfl (cell1A_new _ _ _ _ (by simp)) (by simp [Value.oneCell']) (by unfold maxLen; omega) (by omega) (by simp; omega) ?_; intro v' w9 hown' hgrow _))
                          go_roundg (L.length - (k + 1))
                          case measure => omega
                          case rel => exact ⟨k + 1, t, by omega, rfl, by go_num, by omega, Lib.hid (fun h => absurd h (by omega)), HM2, HR, Lib.hid (by rw [DM2.out]; exact D4.out.next hown' hgrow DF2.out)⟩
                      · by_cases v0 : v < -2
                        · have v0d : decide (v < -2) = true := by simpa using v0
                          have HR := Lib.hid (show E = 2 by rw [HDR.out]; exact errP_held (by omega) Hp.out (by omega) (by omega) (by omega))
                          go_wp2_with fail
                          try (go_quiet (fail); go_wp2_with fail)
                          try (go_quiet (fail); go_wp2_with fail)
                          try (go_quiet (fail); go_wp2_with fail)
                          go_ret2
                          exact ⟨fun _ => by rw [HR.out]; rfl, fun h => absurd (HR.out.symm.trans h) (by decide), by first | exact D1.out.bel.out | exact below_drewN D1.out.bel.out _⟩
                        · have v0d : decide (v < -2) = false := by simpa using v0
                          by_cases v1 : 2 < v
                          · have v1d : decide (2 < v) = true := by simpa using v1
                            have HR := Lib.hid (show E = 2 by rw [HDR.out]; exact errP_held (by omega) Hp.out (by omega) (by omega) (by omega))
                            go_wp2_with fail
                            try (go_quiet (fail); go_wp2_with fail)
                            try (go_quiet (fail); go_wp2_with fail)
                            try (go_quiet (fail); go_wp2_with fail)
                            go_ret2
                            exact ⟨fun _ => by rw [HR.out]; rfl, fun h => absurd (HR.out.symm.trans h) (by decide), by first | exact D1.out.bel.out | exact below_drewN D1.out.bel.out _⟩
                          · have v1d : decide (2 < v) = false := by simpa using v1
                            have HPz := Lib.hid (show pxP ⟨t, s, o, 0, p, true, v⟩ = P from hP)
                            have HR := Lib.hid (show E = errPL t (L.drop (k + 1)) by rw [HDR.out]; exact errP_none (by omega) Hp.out (by omega) (by omega) (fun _ => by omega))
                            go_wp2_with fail
                            try (go_quiet (fail); go_wp2_with fail)
                            try (go_quiet (fail); go_wp2_with fail)
                            try (go_quiet (fail); go_wp2_with fail)
                            have KP := fun wz => idxR_ok s o wz Hp.out
                            rw [hPN.1] at KP
                            refine (KP _).mono ?_
                            rintro e w6 ⟨rfl, hb⟩
                            clear KP
                            have hb6 := Below.trans (below_drewN (Below.refl _ (wr.alloc (.cells #[.int .i64 t, .int .i64 s, .int .i64 o, .int .i64 K, .bool p, .bool true, .int .i64 v] 42))) _) hb
                            have X2 := Lib.hid (X1.out.up hb6)
                            have D2 := Lib.hid (D1.out.up hb6)
                            have hw6 : wr.heap.size < w6.heap.size := lt_of_cell X2.out.c0
                            clear hb hb6 x0 x1 x2 x3 x4 x5 x6 c0 c1 c2 c3 c4 c5 c6
                            obtain ⟨x0, x1, x2, x3, x4, x5, x6⟩ := id X2.out
                            simp only at x0 x1 x2 x3 x4 x5 x6
                            obtain ⟨g0, g1⟩ := D2.out.fil P hPN.2
                            have hb7 := D2.out.bs
                            have hgne : fb < w6.heap.size := lt_of_cell g0
                            generalize wr.heap.size = nb at *
                            have hfnb : fb ≠ nb := by have := D2.out.gb; omega
                            have hnbf : nb ≠ fb := fun e => hfnb e.symm
                            by_cases hK : K = 0
                            · have hKd : decide (0 < K) = false := by simp; omega
                              have HKZ := Lib.hid hK
                              clear hK
                              have DM2 := Lib.hid (show rdL L f (k + 1) = rdL L f k ++ [v] by rw [DL.out, DM.out]; simp [altP, HKZ.out, HPz.out])
                              have DF2 := Lib.hid (show rdF L f (k + 1) = fr by rw [DF.out]; simp [nxtP, HKZ.out, HPz.out])
                              have D4 := D2
                              have hl9 := hle.out
                              clear hP
                              go_wp2_with (first | (at_builtin; refine wpList_append_own _ rfl _ _ 32 rfl base 3 i0 (.int .i64 0) 1 8 Tryd.underlying32 hi hz0 hz1 hz2 rfl (by decide) _ _ _ rfl (D4.out.own.alloc _) ⟨_, 0, none⟩ 1 1 [.int .i64 (v)] rfl rfl (cell1A_new _ _ _ _ (by simp)) (by simp [Value.oneCell']) (by unfold maxLen; omega) (by omega) (by simp; omega) ?_; intro v' w9 hown' hgrow _))
                              go_roundg (L.length - (k + 1))
                              case measure => omega
                              case rel => exact ⟨k + 1, t, by omega, rfl, by go_num, by omega, Lib.hid (fun h => absurd h (by omega)), HM2, HR, Lib.hid (by rw [DM2.out]; exact D4.out.next hown' hgrow DF2.out)⟩
                            · have hKd : decide (0 < K) = true := by simp; omega
                              have HKZ := Lib.hid hK
                              clear hK
                              have DM2 := Lib.hid (show rdL L f (k + 1) = rdL L f k ++ [K - 3] by rw [DL.out, DM.out]; simp [altP, HKZ.out])
                              have DF2 := Lib.hid (show rdF L f (k + 1) = updF fr P (K - 3) by rw [DF.out, ← HP.out]; simp [nxtP, HKZ.out])
                              have D4 := Lib.hid (D2.out.set P hPN.2 (K - 3))
                              have hl9 := hle.out
                              clear hP
                              go_wp2_with (first | (at_builtin; refine wpList_append_own _ rfl _ _ 32 rfl base 3 i0 (.int .i64 0) 1 8 Tryd.underlying32 hi hz0 hz1 hz2 rfl (by decide) _ _ _ rfl (D4.out.own.alloc _) ⟨_, 0, none⟩ 1 1 [.int .i64 (K - 3)] rfl rfl (cell1A_new _ _ _ _ (by simp)) (by simp [Value.oneCell']) (by unfold maxLen; omega) (by omega) (by simp; omega) ?_; intro v' w9 hown' hgrow _))
                              go_roundg (L.length - (k + 1))
                              case measure => omega
                              case rel => exact ⟨k + 1, t, by omega, rfl, by go_num, by omega, Lib.hid (fun h => absurd h (by omega)), HM2, HR, Lib.hid (by rw [DM2.out]; exact D4.out.next hown' hgrow DF2.out)⟩
        · have hk0 : decide (0 < k) = true := by simp; omega
          obtain ⟨m, hm⟩ : ∃ m, L[k - 1]? = some m := ⟨_, List.getElem?_eq_getElem (by omega)⟩
          obtain ⟨b', off', hbo, hm6⟩ := (HA.out.up D1.out.bel.out) (k - 1) m hm
          cases hbo
          have hml := HM.out m (by omega) hm
          have m0 := hm6.c0
          rw [← hml] at m0
          have hki : ((k - 1 : Nat) : Int) = (k : Int) - 1 := by omega
          have hki2 : ((k : Int) - 1).toNat = k - 1 := by omega
          have hkn : ¬ k = 0 := k0
          clear hm6 hm HZ hml k0
          by_cases t1 : t < last
          · have t1d : decide (t < last) = true := by simpa using t1
            have HR := Lib.hid (show E = 25 by rw [HDR.out]; simp [errP, t1])
            go_wp2_with fail
            try (go_quiet (fail); go_wp2_with fail)
            try (go_quiet (fail); go_wp2_with fail)
            try (go_quiet (fail); go_wp2_with fail)
            go_ret2
            exact ⟨fun _ => by rw [HR.out]; rfl, fun h => absurd (HR.out.symm.trans h) (by decide), by first | exact D1.out.bel.out | exact below_drewN D1.out.bel.out _⟩
          · have t1d : decide (t < last) = false := by simpa using t1
            have hlt2 : last ≤ t := by omega
            by_cases p0 : s < 0
            · have p0d : decide (s < 0) = true := by simpa using p0
              have HR := Lib.hid (show E = 18 by rw [HDR.out]; exact errP_pos (by omega) (by omega))
              go_wp2_with fail
              try (go_quiet (fail); go_wp2_with fail)
              try (go_quiet (fail); go_wp2_with fail)
              try (go_quiet (fail); go_wp2_with fail)
              go_ret2
              exact ⟨fun _ => by rw [HR.out]; rfl, fun h => absurd (HR.out.symm.trans h) (by decide), by first | exact D1.out.bel.out | exact below_drewN D1.out.bel.out _⟩
            · have p0d : decide (s < 0) = false := by simpa using p0
              by_cases p1 : 6 < s
              · have p1d : decide (6 < s) = true := by simpa using p1
                have HR := Lib.hid (show E = 18 by rw [HDR.out]; exact errP_pos (by omega) (by omega))
                go_wp2_with fail
                try (go_quiet (fail); go_wp2_with fail)
                try (go_quiet (fail); go_wp2_with fail)
                try (go_quiet (fail); go_wp2_with fail)
                go_ret2
                exact ⟨fun _ => by rw [HR.out]; rfl, fun h => absurd (HR.out.symm.trans h) (by decide), by first | exact D1.out.bel.out | exact below_drewN D1.out.bel.out _⟩
              · have p1d : decide (6 < s) = false := by simpa using p1
                by_cases p2 : o < -1
                · have p2d : decide (o < -1) = true := by simpa using p2
                  have HR := Lib.hid (show E = 18 by rw [HDR.out]; exact errP_pos (by omega) (by omega))
                  go_wp2_with fail
                  try (go_quiet (fail); go_wp2_with fail)
                  try (go_quiet (fail); go_wp2_with fail)
                  try (go_quiet (fail); go_wp2_with fail)
                  go_ret2
                  exact ⟨fun _ => by rw [HR.out]; rfl, fun h => absurd (HR.out.symm.trans h) (by decide), by first | exact D1.out.bel.out | exact below_drewN D1.out.bel.out _⟩
                · have p2d : decide (o < -1) = false := by simpa using p2
                  by_cases p3 : 9 < o
                  · have p3d : decide (9 < o) = true := by simpa using p3
                    have HR := Lib.hid (show E = 18 by rw [HDR.out]; exact errP_pos (by omega) (by omega))
                    go_wp2_with fail
                    try (go_quiet (fail); go_wp2_with fail)
                    try (go_quiet (fail); go_wp2_with fail)
                    try (go_quiet (fail); go_wp2_with fail)
                    go_ret2
                    exact ⟨fun _ => by rw [HR.out]; rfl, fun h => absurd (HR.out.symm.trans h) (by decide), by first | exact D1.out.bel.out | exact below_drewN D1.out.bel.out _⟩
                  · have p3d : decide (9 < o) = false := by simpa using p3
                    have hps : Pos s o := ⟨by omega, by omega, by omega, by omega⟩
                    have Hp := Lib.hid hps
                    have hPN : pxI s o = (P : Int) ∧ P < 77 := by
                      rw [← hP]
                      unfold pxP pxI
                      simp only
                      omega
                    clear hps
                    by_cases p4 : K < 0
                    · have p4d : decide (K < 0) = true := by simpa using p4
                      have HR := Lib.hid (show E = 11 by rw [HDR.out]; exact errP_kind (by omega) Hp.out (by omega))
                      go_wp2_with fail
                      try (go_quiet (fail); go_wp2_with fail)
                      try (go_quiet (fail); go_wp2_with fail)
                      try (go_quiet (fail); go_wp2_with fail)
                      go_ret2
                      exact ⟨fun _ => by rw [HR.out]; rfl, fun h => absurd (HR.out.symm.trans h) (by decide), by first | exact D1.out.bel.out | exact below_drewN D1.out.bel.out _⟩
                    · have p4d : decide (K < 0) = false := by simpa using p4
                      by_cases p5 : 5 < K
                      · have p5d : decide (5 < K) = true := by simpa using p5
                        have HR := Lib.hid (show E = 11 by rw [HDR.out]; exact errP_kind (by omega) Hp.out (by omega))
                        go_wp2_with fail
                        try (go_quiet (fail); go_wp2_with fail)
                        try (go_quiet (fail); go_wp2_with fail)
                        try (go_quiet (fail); go_wp2_with fail)
                        go_ret2
                        exact ⟨fun _ => by rw [HR.out]; rfl, fun h => absurd (HR.out.symm.trans h) (by decide), by first | exact D1.out.bel.out | exact below_drewN D1.out.bel.out _⟩
                      · have p5d : decide (5 < K) = false := by simpa using p5
                        cases hd
                        · have HPz := Lib.hid (show pxP ⟨t, s, o, 0, p, false, v⟩ = P from hP)
                          have HR := Lib.hid (show E = errPL t (L.drop (k + 1)) by rw [HDR.out]; exact errP_none (by omega) Hp.out (by omega) (by omega) (fun h => absurd h (by decide)))
                          go_wp2_with fail
                          try (go_quiet (fail); go_wp2_with fail)
                          try (go_quiet (fail); go_wp2_with fail)
                          try (go_quiet (fail); go_wp2_with fail)
                          have KP := fun wz => idxR_ok s o wz Hp.out
                          rw [hPN.1] at KP
                          refine (KP _).mono ?_
                          rintro e w6 ⟨rfl, hb⟩
                          clear KP
                          have hb6 := Below.trans (below_drewN (Below.refl _ (wr.alloc (.cells #[.int .i64 t, .int .i64 s, .int .i64 o, .int .i64 K, .bool p, .bool false, .int .i64 v] 42))) _) hb
                          have X2 := Lib.hid (X1.out.up hb6)
                          have D2 := Lib.hid (D1.out.up hb6)
                          have hw6 : wr.heap.size < w6.heap.size := lt_of_cell X2.out.c0
                          clear hb hb6 x0 x1 x2 x3 x4 x5 x6 c0 c1 c2 c3 c4 c5 c6
                          obtain ⟨x0, x1, x2, x3, x4, x5, x6⟩ := id X2.out
                          simp only at x0 x1 x2 x3 x4 x5 x6
                          obtain ⟨g0, g1⟩ := D2.out.fil P hPN.2
                          have hb7 := D2.out.bs
                          have hgne : fb < w6.heap.size := lt_of_cell g0
                          generalize wr.heap.size = nb at *
                          have hfnb : fb ≠ nb := by have := D2.out.gb; omega
                          have hnbf : nb ≠ fb := fun e => hfnb e.symm
                          by_cases hK : K = 0
                          · have hKd : decide (0 < K) = false := by simp; omega
                            have HKZ := Lib.hid hK
                            clear hK
                            have DM2 := Lib.hid (show rdL L f (k + 1) = rdL L f k ++ [fr P] by rw [DL.out, DM.out]; simp [altP, HKZ.out, HPz.out])
                            have DF2 := Lib.hid (show rdF L f (k + 1) = fr by rw [DF.out]; simp [nxtP, HKZ.out, HPz.out])
                            have D4 := D2
                            have hl9 := hle.out
                            clear hP
                            go_wp2_with (first | (at_builtin; refine wpList_append_own _ rfl _ _ 32 rfl base 3 i0 (.int .i64 0) 1 8 Tryd.underlying32 hi hz0 hz1 hz2 rfl (by decide) _ _ _ rfl (D4.out.own.alloc _) ⟨_, 0, none⟩ 1 1 [.int .i64 (fr P)] rfl rfl (cell1A_new _ _ _ _ (by simp)) (by simp [Value.oneCell']) (by unfold maxLen; omega) (by omega) (by simp; omega) ?_; intro v' w9 hown' hgrow _))
                            go_roundg (L.length - (k + 1))
                            case measure => omega
                            case rel => exact ⟨k + 1, t, by omega, rfl, by go_num, by omega, Lib.hid (fun h => absurd h (by omega)), HM2, HR, Lib.hid (by rw [DM2.out]; exact D4.out.next hown' hgrow DF2.out)⟩
                          · have hKd : decide (0 < K) = true := by simp; omega
                            have HKZ := Lib.hid hK
                            clear hK
                            have DM2 := Lib.hid (show rdL L f (k + 1) = rdL L f k ++ [K - 3] by rw [DL.out, DM.out]; simp [altP, HKZ.out])
                            have DF2 := Lib.hid (show rdF L f (k + 1) = updF fr P (K - 3) by rw [DF.out, ← HP.out]; simp [nxtP, HKZ.out])
                            have D4 := Lib.hid (D2.out.set P hPN.2 (K - 3))
                            have hl9 := hle.out
                            clear hP
                            go_wp2_with (first | (at_builtin; refine wpList_append_own _ rfl _ _ 32 rfl base 3 i0 (.int .i64 0) 1 8 Tryd.underlying32 hi hz0 hz1 hz2 rfl (by decide) _ _ _ rfl (D4.out.own.alloc _) ⟨_, 0, none⟩ 1 1 [.int .i64 (K - 3)] rfl rfl (cell1A_new _ _ _ _ (by simp)) (by simp [Value.oneCell']) (by unfold maxLen; omega) (by omega) (by simp; omega) ?_; intro v' w9 hown' hgrow _))
                            go_roundg (L.length - (k + 1))
                            case measure => omega
                            case rel => exact ⟨k + 1, t, by omega, rfl, by go_num, by omega, Lib.hid (fun h => absurd h (by omega)), HM2, HR, Lib.hid (by rw [DM2.out]; exact D4.out.next hown' hgrow DF2.out)⟩
                        · by_cases v0 : v < -2
                          · have v0d : decide (v < -2) = true := by simpa using v0
                            have HR := Lib.hid (show E = 2 by rw [HDR.out]; exact errP_held (by omega) Hp.out (by omega) (by omega) (by omega))
                            go_wp2_with fail
                            try (go_quiet (fail); go_wp2_with fail)
                            try (go_quiet (fail); go_wp2_with fail)
                            try (go_quiet (fail); go_wp2_with fail)
                            go_ret2
                            exact ⟨fun _ => by rw [HR.out]; rfl, fun h => absurd (HR.out.symm.trans h) (by decide), by first | exact D1.out.bel.out | exact below_drewN D1.out.bel.out _⟩
                          · have v0d : decide (v < -2) = false := by simpa using v0
                            by_cases v1 : 2 < v
                            · have v1d : decide (2 < v) = true := by simpa using v1
                              have HR := Lib.hid (show E = 2 by rw [HDR.out]; exact errP_held (by omega) Hp.out (by omega) (by omega) (by omega))
                              go_wp2_with fail
                              try (go_quiet (fail); go_wp2_with fail)
                              try (go_quiet (fail); go_wp2_with fail)
                              try (go_quiet (fail); go_wp2_with fail)
                              go_ret2
                              exact ⟨fun _ => by rw [HR.out]; rfl, fun h => absurd (HR.out.symm.trans h) (by decide), by first | exact D1.out.bel.out | exact below_drewN D1.out.bel.out _⟩
                            · have v1d : decide (2 < v) = false := by simpa using v1
                              have HPz := Lib.hid (show pxP ⟨t, s, o, 0, p, true, v⟩ = P from hP)
                              have HR := Lib.hid (show E = errPL t (L.drop (k + 1)) by rw [HDR.out]; exact errP_none (by omega) Hp.out (by omega) (by omega) (fun _ => by omega))
                              go_wp2_with fail
                              try (go_quiet (fail); go_wp2_with fail)
                              try (go_quiet (fail); go_wp2_with fail)
                              try (go_quiet (fail); go_wp2_with fail)
                              have KP := fun wz => idxR_ok s o wz Hp.out
                              rw [hPN.1] at KP
                              refine (KP _).mono ?_
                              rintro e w6 ⟨rfl, hb⟩
                              clear KP
                              have hb6 := Below.trans (below_drewN (Below.refl _ (wr.alloc (.cells #[.int .i64 t, .int .i64 s, .int .i64 o, .int .i64 K, .bool p, .bool true, .int .i64 v] 42))) _) hb
                              have X2 := Lib.hid (X1.out.up hb6)
                              have D2 := Lib.hid (D1.out.up hb6)
                              have hw6 : wr.heap.size < w6.heap.size := lt_of_cell X2.out.c0
                              clear hb hb6 x0 x1 x2 x3 x4 x5 x6 c0 c1 c2 c3 c4 c5 c6
                              obtain ⟨x0, x1, x2, x3, x4, x5, x6⟩ := id X2.out
                              simp only at x0 x1 x2 x3 x4 x5 x6
                              obtain ⟨g0, g1⟩ := D2.out.fil P hPN.2
                              have hb7 := D2.out.bs
                              have hgne : fb < w6.heap.size := lt_of_cell g0
                              generalize wr.heap.size = nb at *
                              have hfnb : fb ≠ nb := by have := D2.out.gb; omega
                              have hnbf : nb ≠ fb := fun e => hfnb e.symm
                              by_cases hK : K = 0
                              · have hKd : decide (0 < K) = false := by simp; omega
                                have HKZ := Lib.hid hK
                                clear hK
                                have DM2 := Lib.hid (show rdL L f (k + 1) = rdL L f k ++ [v] by rw [DL.out, DM.out]; simp [altP, HKZ.out, HPz.out])
                                have DF2 := Lib.hid (show rdF L f (k + 1) = fr by rw [DF.out]; simp [nxtP, HKZ.out, HPz.out])
                                have D4 := D2
                                have hl9 := hle.out
                                clear hP
                                go_wp2_with (first | (at_builtin; refine wpList_append_own _ rfl _ _ 32 rfl base 3 i0 (.int .i64 0) 1 8 Tryd.underlying32 hi hz0 hz1 hz2 rfl (by decide) _ _ _ rfl (D4.out.own.alloc _) ⟨_, 0, none⟩ 1 1 [.int .i64 (v)] rfl rfl (cell1A_new _ _ _ _ (by simp)) (by simp [Value.oneCell']) (by unfold maxLen; omega) (by omega) (by simp; omega) ?_; intro v' w9 hown' hgrow _))
                                go_roundg (L.length - (k + 1))
                                case measure => omega
                                case rel => exact ⟨k + 1, t, by omega, rfl, by go_num, by omega, Lib.hid (fun h => absurd h (by omega)), HM2, HR, Lib.hid (by rw [DM2.out]; exact D4.out.next hown' hgrow DF2.out)⟩
                              · have hKd : decide (0 < K) = true := by simp; omega
                                have HKZ := Lib.hid hK
                                clear hK
                                have DM2 := Lib.hid (show rdL L f (k + 1) = rdL L f k ++ [K - 3] by rw [DL.out, DM.out]; simp [altP, HKZ.out])
                                have DF2 := Lib.hid (show rdF L f (k + 1) = updF fr P (K - 3) by rw [DF.out, ← HP.out]; simp [nxtP, HKZ.out])
                                have D4 := Lib.hid (D2.out.set P hPN.2 (K - 3))
                                have hl9 := hle.out
                                clear hP
                                go_wp2_with (first | (at_builtin; refine wpList_append_own _ rfl _ _ 32 rfl base 3 i0 (.int .i64 0) 1 8 Tryd.underlying32 hi hz0 hz1 hz2 rfl (by decide) _ _ _ rfl (D4.out.own.alloc _) ⟨_, 0, none⟩ 1 1 [.int .i64 (K - 3)] rfl rfl (cell1A_new _ _ _ _ (by simp)) (by simp [Value.oneCell']) (by unfold maxLen; omega) (by omega) (by simp; omega) ?_; intro v' w9 hown' hgrow _))
                                go_roundg (L.length - (k + 1))
                                case measure => omega
                                case rel => exact ⟨k + 1, t, by omega, rfl, by go_num, by omega, Lib.hid (fun h => absurd h (by omega)), HM2, HR, Lib.hid (by rw [DM2.out]; exact D4.out.next hown' hgrow DF2.out)⟩
    · obtain rfl : k = L.length := by omega
      have HR := Lib.hid (show E = 0 by rw [HL.out, List.drop_length]; rfl)
      have hlen := rdL_len L f L.length
      obtain ⟨ad2, cap2, hv2, hM⟩ := HD.out.at
      rw [hlen] at hv2
      subst hv2
      clear hlen
      go_wp2_with fail
      try go_ret2
      exact ⟨fun h => absurd HR.out h, fun _ => ⟨ad2, cap2, rfl, hM⟩, HD.out.bel.out⟩
theorem readR_ok (f : Int) (L : List Pl) (ad : Option Addr) (cap : Nat) (w : World) (hl : L.length ≤ 30) (h : PlAt w ad L) :
    Calls Tryd.prog 17 #[.int .i64 f, .slice ad L.length cap] w (RdOut f L (if Sg f then errPL 0 L else 2) w) := by
  by_cases hf : Sg f
  · rw [if_pos hf]; exact readR_in f L ad cap w hf hl h
  · rw [if_neg hf]
    rcases not_sg hf with h1 | ⟨h1, h2⟩
    · exact (readR_lo f L.length cap ad w h1).mono fun e w' h => by rw [h.1]; exact RdOut.err (by omega) h.2
    · exact (readR_hi f L.length cap ad w h1 h2).mono fun e w' h => by rw [h.1]; exact RdOut.err (by omega) h.2
end Go.Proofs.YthmdjpfjaojihaaDoor
