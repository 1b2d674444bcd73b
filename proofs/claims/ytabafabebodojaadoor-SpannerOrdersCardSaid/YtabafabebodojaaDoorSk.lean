/- Spans: rows of spans, the closure, ContainsFunc. -/
import Derived.Test.YtabafabebodojaaDoorSe
import Derived.Deep.MidRow
namespace Go.Proofs.YtabafabebodojaaDoor
open Go.RowKit
set_option linter.unusedVariables false
set_option linter.unusedSimpArgs false

def spc (s : Sp) : List Value := [.int .i64 s.k, .int .i64 s.f.m, .int .i64 s.f.a, .int .i64 s.f.s, .int .i64 s.f.v, .int .i64 s.t.m, .int .i64 s.t.a, .int .i64 s.t.s, .int .i64 s.t.v]
def sp0 : Sp := ⟨0, ⟨0, 0, 0, 0⟩, ⟨0, 0, 0, 0⟩⟩
/-- a slice of spans -/
def SpAt (w : World) (ad : Option Addr) (n : Nat) (f : Nat → Sp) : Prop := ∀ k, k < n → ∃ b off, ad = some ⟨b, off, none⟩ ∧ w.cell? ⟨b, off + k * 9, none⟩ = some (.int .i64 (f k).k) ∧ w.cell? ⟨b, off + k * 9 + 1, none⟩ = some (.int .i64 (f k).f.m) ∧ w.cell? ⟨b, off + k * 9 + 2, none⟩ = some (.int .i64 (f k).f.a) ∧ w.cell? ⟨b, off + k * 9 + 3, none⟩ = some (.int .i64 (f k).f.s) ∧ w.cell? ⟨b, off + k * 9 + 4, none⟩ = some (.int .i64 (f k).f.v) ∧ w.cell? ⟨b, off + k * 9 + 5, none⟩ = some (.int .i64 (f k).t.m) ∧ w.cell? ⟨b, off + k * 9 + 6, none⟩ = some (.int .i64 (f k).t.a) ∧ w.cell? ⟨b, off + k * 9 + 7, none⟩ = some (.int .i64 (f k).t.s) ∧ w.cell? ⟨b, off + k * 9 + 8, none⟩ = some (.int .i64 (f k).t.v)
theorem SpAt.up {w w' : World} {ad : Option Addr} {n : Nat} {f : Nat → Sp} (h : SpAt w ad n f) (hb : Below w.heap.size w w') : SpAt w' ad n f := fun k hk => by
  obtain ⟨b, off, h0, h1, h2, h3, h4, h5, h6, h7, h8, h9⟩ := h k hk
  exact ⟨b, off, h0, cell_up hb h1, cell_up hb h2, cell_up hb h3, cell_up hb h4, cell_up hb h5, cell_up hb h6, cell_up hb h7, cell_up hb h8, cell_up hb h9⟩
theorem SpAt.below {w w' : World} {ad : Option Addr} {n : Nat} {f : Nat → Sp} (h : SpAt w ad n f) (hb : Below w.heap.size w w') : SpAt w' ad n f := h.up hb
theorem SpAt.le {w : World} {ad : Option Addr} {n m : Nat} {f : Nat → Sp} (h : SpAt w ad n f) (hm : m ≤ n) : SpAt w ad m f := fun k hk => h k (by omega)
theorem spc_len (L : List Sp) : (L.flatMap spc).length = L.length * 9 := by
  induction L with
  | nil => rfl
  | cons a L ih => simp [List.flatMap_cons, ih, spc]; omega
theorem spc_at : ∀ (L : List Sp) (k j : Nat) (a : Sp) (v : Value), L[k]? = some a → (spc a)[j]? = some v → (L.flatMap spc)[k * 9 + j]? = some v
  | [], k, j, a, v, h, _ => by simp at h
  | b :: L, 0, j, a, v, h, hv => by
    simp at h
    subst h
    rw [List.flatMap_cons, Nat.zero_mul, Nat.zero_add, List.getElem?_append_left (List.getElem?_eq_some_iff.1 hv).1]
    exact hv
  | b :: L, k + 1, j, a, v, h, hv => by
    simp at h
    rw [List.flatMap_cons, List.getElem?_append_right (by simp [spc]; omega), show (k + 1) * 9 + j - (spc b).length = k * 9 + j from by simp [spc]; omega]
    exact spc_at L k j a v h hv
theorem SpAt.of_row {w : World} {base : Nat} {e : TypeId} {v : Value} {L : List Sp} (h : w.ownsRow base e 9 v L.length (L.flatMap spc)) : ∃ ad cap, v = .slice ad L.length cap ∧ SpAt w ad L.length (fun k => L.getD k sp0) := by
  have h2 := h.2
  rcases h2 with ⟨rfl, h0⟩ | ⟨g, cap, cur, rfl, hb, hh, hc, _, hs, ht⟩
  · exact ⟨none, 0, by rw [h0], fun k hk => by omega⟩
  · refine ⟨_, cap, rfl, fun k hk => ⟨g, 0, rfl, ?_⟩⟩
    have hL : L[k]? = some (L.getD k sp0) := by simp [List.getD_eq_getElem?_getD, List.getElem?_eq_getElem hk]
    have at_ : ∀ j v, (spc (L.getD k sp0))[j]? = some v → w.cell? ⟨g, 0 + k * 9 + j, none⟩ = some v := fun j v hv => by
      have := h.cells (g := g) rfl (k * 9 + j) v (spc_at L k j _ v hL hv)
      rw [Addr.add_mid] at this
      rw [show 0 + k * 9 + j = 0 + (k * 9 + j) by omega]
      exact this
    exact ⟨at_ 0 _ rfl, at_ 1 _ rfl, at_ 2 _ rfl, at_ 3 _ rfl, at_ 4 _ rfl, at_ 5 _ rfl, at_ 6 _ rfl, at_ 7 _ rfl, at_ 8 _ rfl⟩
/-- whether one of the first n passes -/
def anyN (p : Nat → Bool) (n : Nat) : Bool := (List.range n).any p
theorem anyN_y {p : Nat → Bool} {n k : Nat} (hk : k < n) (h : p k = true) : anyN p n = true := List.any_eq_true.2 ⟨k, List.mem_range.2 hk, h⟩
theorem anyN_n {p : Nat → Bool} {n : Nat} (h : ∀ j, j < n → p j = false) : anyN p n = false := by
  cases e : anyN p n
  · rfl
  · obtain ⟨k, hk, hp⟩ := List.any_eq_true.1 e
    rw [h k (List.mem_range.1 hk)] at hp
    cases hp
theorem anyN_list (q : Sp → Bool) (L : List Sp) : anyN (fun k => q (L.getD k sp0)) L.length = L.any q := by
  rw [Bool.eq_iff_iff, List.any_eq_true]
  constructor
  · intro h
    obtain ⟨k, hk, hp⟩ := List.any_eq_true.1 h
    have hk' := List.mem_range.1 hk
    exact ⟨L[k], List.getElem_mem _, by simpa [List.getD_eq_getElem?_getD, List.getElem?_eq_getElem hk'] using hp⟩
  · rintro ⟨x, hx, hq⟩
    obtain ⟨k, hk, rfl⟩ := List.getElem_of_mem hx
    exact anyN_y hk (by simpa [List.getD_eq_getElem?_getD, List.getElem?_eq_getElem hk] using hq)
set_option maxRecDepth 100000 in
set_option maxHeartbeats 2000000 in
theorem clos_entangled (o s : Sp) (be bs : Nat) (r : Bool) (w : World) (hE : Uno w be (.func (.func 60) #[] #[])) (hS : Non w bs (.int .i64 s.k) (.int .i64 s.f.m) (.int .i64 s.f.a) (.int .i64 s.f.s) (.int .i64 s.f.v) (.int .i64 s.t.m) (.int .i64 s.t.a) (.int .i64 s.t.s) (.int .i64 s.t.v)) (h : ent o s = r) :
    Calls Tryd.prog 49 #[.agg #[.int .i64 o.k, .int .i64 o.f.m, .int .i64 o.f.a, .int .i64 o.f.s, .int .i64 o.f.v, .int .i64 o.t.m, .int .i64 o.t.a, .int .i64 o.t.s, .int .i64 o.t.v], .pointer (some ⟨be, 0, none⟩), .pointer (some ⟨bs, 0, none⟩)] w fun e w' => e = .returned (.bool r) ∧ Below w.heap.size w w' := by
  have B0 := Lib.hid ((Bel.refl w).alloc (.cells #[.int .i64 o.k, .int .i64 o.f.m, .int .i64 o.f.a, .int .i64 o.f.s, .int .i64 o.f.v, .int .i64 o.t.m, .int .i64 o.t.a, .int .i64 o.t.s, .int .i64 o.t.v] 31))
  have X0 := Non.new w (.int .i64 o.k) (.int .i64 o.f.m) (.int .i64 o.f.a) (.int .i64 o.f.s) (.int .i64 o.f.v) (.int .i64 o.t.m) (.int .i64 o.t.a) (.int .i64 o.t.s) (.int .i64 o.t.v) 31 (w.heap.size) rfl
  have E0 := hE.alloc (.cells #[.int .i64 o.k, .int .i64 o.f.m, .int .i64 o.f.a, .int .i64 o.f.s, .int .i64 o.f.v, .int .i64 o.t.m, .int .i64 o.t.a, .int .i64 o.t.s, .int .i64 o.t.v] 31)
  have S0 := hS.alloc (.cells #[.int .i64 o.k, .int .i64 o.f.m, .int .i64 o.f.a, .int .i64 o.f.s, .int .i64 o.f.v, .int .i64 o.t.m, .int .i64 o.t.a, .int .i64 o.t.s, .int .i64 o.t.v] 31)
  replace h := Lib.hid h
  clear hE hS
  go_enter Tryd.func49, Tryd.ntmps49
  obtain ⟨xf0, xf1, xf2, xf3, xf4, xf5, xf6, xf7, xf8, xf9, xf10, xf11, xf12, xf13, xf14, xf15, xf16, xf17, xf18⟩ := id X0
  obtain ⟨sf0, sf1, sf2, sf3, sf4, sf5, sf6, sf7, sf8, sf9, sf10, sf11, sf12, sf13, sf14, sf15, sf16, sf17, sf18⟩ := id S0
  obtain ⟨ef0, ef1, ef2⟩ := id E0
  go_wp2_with fail
  refine (entangled_at o s r _ h.out).mono ?_
  rintro e w1 ⟨rfl, hb⟩
  have B1 := Lib.hid (B0.out.up hb)
  go_wp2_with fail
  go_ret
  exact ⟨rfl, B1.out.out⟩
set_option maxRecDepth 100000 in
set_option maxHeartbeats 2000000 in
theorem clos_touch (o s : Sp) (be bs : Nat) (r : Bool) (w : World) (hE : Uno w be (.func (.func 62) #[] #[])) (hS : Non w bs (.int .i64 s.k) (.int .i64 s.f.m) (.int .i64 s.f.a) (.int .i64 s.f.s) (.int .i64 s.f.v) (.int .i64 s.t.m) (.int .i64 s.t.a) (.int .i64 s.t.s) (.int .i64 s.t.v)) (h : tch o s = r) :
    Calls Tryd.prog 49 #[.agg #[.int .i64 o.k, .int .i64 o.f.m, .int .i64 o.f.a, .int .i64 o.f.s, .int .i64 o.f.v, .int .i64 o.t.m, .int .i64 o.t.a, .int .i64 o.t.s, .int .i64 o.t.v], .pointer (some ⟨be, 0, none⟩), .pointer (some ⟨bs, 0, none⟩)] w fun e w' => e = .returned (.bool r) ∧ Below w.heap.size w w' := by
  have B0 := Lib.hid ((Bel.refl w).alloc (.cells #[.int .i64 o.k, .int .i64 o.f.m, .int .i64 o.f.a, .int .i64 o.f.s, .int .i64 o.f.v, .int .i64 o.t.m, .int .i64 o.t.a, .int .i64 o.t.s, .int .i64 o.t.v] 31))
  have X0 := Non.new w (.int .i64 o.k) (.int .i64 o.f.m) (.int .i64 o.f.a) (.int .i64 o.f.s) (.int .i64 o.f.v) (.int .i64 o.t.m) (.int .i64 o.t.a) (.int .i64 o.t.s) (.int .i64 o.t.v) 31 (w.heap.size) rfl
  have E0 := hE.alloc (.cells #[.int .i64 o.k, .int .i64 o.f.m, .int .i64 o.f.a, .int .i64 o.f.s, .int .i64 o.f.v, .int .i64 o.t.m, .int .i64 o.t.a, .int .i64 o.t.s, .int .i64 o.t.v] 31)
  have S0 := hS.alloc (.cells #[.int .i64 o.k, .int .i64 o.f.m, .int .i64 o.f.a, .int .i64 o.f.s, .int .i64 o.f.v, .int .i64 o.t.m, .int .i64 o.t.a, .int .i64 o.t.s, .int .i64 o.t.v] 31)
  replace h := Lib.hid h
  clear hE hS
  go_enter Tryd.func49, Tryd.ntmps49
  obtain ⟨xf0, xf1, xf2, xf3, xf4, xf5, xf6, xf7, xf8, xf9, xf10, xf11, xf12, xf13, xf14, xf15, xf16, xf17, xf18⟩ := id X0
  obtain ⟨sf0, sf1, sf2, sf3, sf4, sf5, sf6, sf7, sf8, sf9, sf10, sf11, sf12, sf13, sf14, sf15, sf16, sf17, sf18⟩ := id S0
  obtain ⟨ef0, ef1, ef2⟩ := id E0
  go_wp2_with fail
  refine (touch_at o s r _ h.out).mono ?_
  rintro e w1 ⟨rfl, hb⟩
  have B1 := Lib.hid (B0.out.up hb)
  go_wp2_with fail
  go_ret
  exact ⟨rfl, B1.out.out⟩
set_option maxRecDepth 100000 in
set_option maxHeartbeats 2000000 in
theorem clos_overlap (o s : Sp) (be bs : Nat) (r : Bool) (w : World) (hE : Uno w be (.func (.func 61) #[] #[])) (hS : Non w bs (.int .i64 s.k) (.int .i64 s.f.m) (.int .i64 s.f.a) (.int .i64 s.f.s) (.int .i64 s.f.v) (.int .i64 s.t.m) (.int .i64 s.t.a) (.int .i64 s.t.s) (.int .i64 s.t.v)) (h : ovl o s = r) :
    Calls Tryd.prog 49 #[.agg #[.int .i64 o.k, .int .i64 o.f.m, .int .i64 o.f.a, .int .i64 o.f.s, .int .i64 o.f.v, .int .i64 o.t.m, .int .i64 o.t.a, .int .i64 o.t.s, .int .i64 o.t.v], .pointer (some ⟨be, 0, none⟩), .pointer (some ⟨bs, 0, none⟩)] w fun e w' => e = .returned (.bool r) ∧ Below w.heap.size w w' := by
  have B0 := Lib.hid ((Bel.refl w).alloc (.cells #[.int .i64 o.k, .int .i64 o.f.m, .int .i64 o.f.a, .int .i64 o.f.s, .int .i64 o.f.v, .int .i64 o.t.m, .int .i64 o.t.a, .int .i64 o.t.s, .int .i64 o.t.v] 31))
  have X0 := Non.new w (.int .i64 o.k) (.int .i64 o.f.m) (.int .i64 o.f.a) (.int .i64 o.f.s) (.int .i64 o.f.v) (.int .i64 o.t.m) (.int .i64 o.t.a) (.int .i64 o.t.s) (.int .i64 o.t.v) 31 (w.heap.size) rfl
  have E0 := hE.alloc (.cells #[.int .i64 o.k, .int .i64 o.f.m, .int .i64 o.f.a, .int .i64 o.f.s, .int .i64 o.f.v, .int .i64 o.t.m, .int .i64 o.t.a, .int .i64 o.t.s, .int .i64 o.t.v] 31)
  have S0 := hS.alloc (.cells #[.int .i64 o.k, .int .i64 o.f.m, .int .i64 o.f.a, .int .i64 o.f.s, .int .i64 o.f.v, .int .i64 o.t.m, .int .i64 o.t.a, .int .i64 o.t.s, .int .i64 o.t.v] 31)
  replace h := Lib.hid h
  clear hE hS
  go_enter Tryd.func49, Tryd.ntmps49
  obtain ⟨xf0, xf1, xf2, xf3, xf4, xf5, xf6, xf7, xf8, xf9, xf10, xf11, xf12, xf13, xf14, xf15, xf16, xf17, xf18⟩ := id X0
  obtain ⟨sf0, sf1, sf2, sf3, sf4, sf5, sf6, sf7, sf8, sf9, sf10, sf11, sf12, sf13, sf14, sf15, sf16, sf17, sf18⟩ := id S0
  obtain ⟨ef0, ef1, ef2⟩ := id E0
  go_wp2_with fail
  refine (overlap_at o s r _ h.out).mono ?_
  rintro e w1 ⟨rfl, hb⟩
  have B1 := Lib.hid (B0.out.up hb)
  go_wp2_with fail
  go_ret
  exact ⟨rfl, B1.out.out⟩
theorem clos_at (k : Int) (o s : Sp) (be bs : Nat) (r : Bool) (w : World) (hE : Uno w be (.func (.func (rid k)) #[] #[])) (hS : Non w bs (.int .i64 s.k) (.int .i64 s.f.m) (.int .i64 s.f.a) (.int .i64 s.f.s) (.int .i64 s.f.v) (.int .i64 s.t.m) (.int .i64 s.t.a) (.int .i64 s.t.s) (.int .i64 s.t.v)) (h : exc k o s = r) :
    Calls Tryd.prog 49 #[.agg #[.int .i64 o.k, .int .i64 o.f.m, .int .i64 o.f.a, .int .i64 o.f.s, .int .i64 o.f.v, .int .i64 o.t.m, .int .i64 o.t.a, .int .i64 o.t.s, .int .i64 o.t.v], .pointer (some ⟨be, 0, none⟩), .pointer (some ⟨bs, 0, none⟩)] w fun e w' => e = .returned (.bool r) ∧ Below w.heap.size w w' := by
  unfold rid at hE
  unfold exc at h
  by_cases h1 : k = 1
  · rw [if_pos h1] at hE h; exact clos_entangled o s be bs r w hE hS h
  · rw [if_neg h1] at hE h
    by_cases h2 : k = 4 ∨ k = 5 ∨ k = 7
    · rw [if_pos h2] at hE h; exact clos_touch o s be bs r w hE hS h
    · rw [if_neg h2] at hE h; exact clos_overlap o s be bs r w hE hS h
def IxP (p : Nat → Bool) (n : Nat) (w : World) (e : Ending) (w' : World) : Prop :=
  (anyN p n = true ∧ ∃ k : Nat, k < n ∧ e = .returned (.int .i64 (k : Int)) ∧ Below w.heap.size w w') ∨ (anyN p n = false ∧ e = .returned (.int .i64 (-1)) ∧ Below w.heap.size w w')
set_option maxRecDepth 100000 in
set_option maxHeartbeats 4000000 in
theorem index_ok (k : Int) (s : Sp) (be bs n cap : Nat) (ad : Option Addr) (f : Nat → Sp) (w : World) (hn : n ≤ 9223372036854775806) (hE : Uno w be (.func (.func (rid k)) #[] #[])) (hS : Non w bs (.int .i64 s.k) (.int .i64 s.f.m) (.int .i64 s.f.a) (.int .i64 s.f.s) (.int .i64 s.f.v) (.int .i64 s.t.m) (.int .i64 s.t.a) (.int .i64 s.t.s) (.int .i64 s.t.v)) (h : SpAt w ad n f) :
    Calls Tryd.prog 63 #[.slice ad n cap, .func (.func 49) #[] #[.pointer (some ⟨be, 0, none⟩), .pointer (some ⟨bs, 0, none⟩)]] w (IxP (fun j => exc k (f j) s) n w) := by
  have HE := Lib.hid hE
  have HS := Lib.hid hS
  have HR := Lib.hid h
  clear hE hS h
  go_enter Tryd.func63, Tryd.ntmps63
  go_wp2_with fail
  go_loopg [8] n (fun gm i wr => ∃ j : Nat, j ≤ n ∧ gm = n - j ∧ i = .int .i64 (j : Int) ∧ Hid (∀ t, t < j → exc k (f t) s = false) ∧ Hid (Bel w wr))
  case atStart => exact ⟨0, by omega, by omega, rfl, Lib.hid (fun j hj => absurd hj (by omega)), Lib.hid (Bel.refl w)⟩
  case round =>
    obtain ⟨j, hj, rfl, rfl, HN, HB⟩ := hrel
    by_cases hlt : j < n
    · obtain ⟨b, off, rfl, q0, q1, q2, q3, q4, q5, q6, q7, q8⟩ := (HR.out.up HB.out.out) j hlt
      obtain ⟨r, hr⟩ : ∃ r, exc k (f j) s = r := ⟨_, rfl⟩
      have HX := Lib.hid hr
      clear hr
      go_wp2_with fail
      refine (clos_at k (f j) s be bs r _ (HE.out.up HB.out.out) (HS.out.up HB.out.out) HX.out).mono ?_
      rintro e w2 ⟨rfl, hb⟩
      have H2 := Lib.hid (HB.out.up hb)
      clear hb HB q0 q1 q2 q3 q4 q5 q6 q7 q8
      cases r
      · go_wp2_with fail
        go_roundg (n - (j + 1))
        case measure => omega
        case rel => exact ⟨j + 1, by omega, rfl, by go_num, Lib.hid (fun t ht => by
            by_cases e : t = j
            · subst e; exact HX.out
            · exact HN.out t (by omega)), H2⟩
      · go_wp2_with fail
        go_ret
        exact .inl ⟨anyN_y hlt HX.out, j, hlt, rfl, H2.out.out⟩
    · obtain rfl : j = n := by omega
      go_wp2_with fail
      go_ret
      exact .inr ⟨anyN_n HN.out, rfl, HB.out.out⟩
set_option maxRecDepth 100000 in
set_option maxHeartbeats 4000000 in
theorem contains_at (k : Int) (s : Sp) (be bs n cap : Nat) (ad : Option Addr) (f : Nat → Sp) (r : Bool) (w : World) (hn : n ≤ 9223372036854775806) (hE : Uno w be (.func (.func (rid k)) #[] #[])) (hS : Non w bs (.int .i64 s.k) (.int .i64 s.f.m) (.int .i64 s.f.a) (.int .i64 s.f.s) (.int .i64 s.f.v) (.int .i64 s.t.m) (.int .i64 s.t.a) (.int .i64 s.t.s) (.int .i64 s.t.v)) (h : SpAt w ad n f) (hr : anyN (fun j => exc k (f j) s) n = r) :
    Calls Tryd.prog 48 #[.slice ad n cap, .func (.func 49) #[] #[.pointer (some ⟨be, 0, none⟩), .pointer (some ⟨bs, 0, none⟩)]] w fun e w' => e = .returned (.bool r) ∧ Below w.heap.size w w' := by
  have HE := Lib.hid hE
  have HS := Lib.hid hS
  have HR := Lib.hid h
  have HX := Lib.hid hr
  clear hE hS h hr
  go_enter Tryd.func48, Tryd.ntmps48
  go_wp2_with fail
  refine (index_ok k s be bs n cap ad f _ hn HE.out HS.out HR.out).mono ?_
  rintro e w1 (⟨ha, j, hj, rfl, hb⟩ | ⟨ha, rfl, hb⟩)
  · obtain rfl : r = true := by rw [← HX.out, ha]
    clear ha HX
    have B1 := Lib.hid hb
    have hd : decide ((0 : Int) ≤ (j : Int)) = true := decide_eq_true (by omega)
    clear hb
    go_wp2_with fail
    go_ret
    exact ⟨rfl, B1.out⟩
  · obtain rfl : r = false := by rw [← HX.out, ha]
    clear ha HX
    have B1 := Lib.hid hb
    clear hb
    go_wp2_with fail
    go_ret
    exact ⟨rfl, B1.out⟩
end Go.Proofs.YtabafabebodojaaDoor
