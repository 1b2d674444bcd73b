/- Spans: Compare, isKind, ofVoice, upTo, isPlace. -/
import Derived.Test.YtabafabebodojaaDoorSb
import Derived.Test.YtabafabebodojaaDoorQt
namespace Go.Proofs.YtabafabebodojaaDoor
open Go.RowKit
set_option linter.unusedVariables false
set_option linter.unusedSimpArgs false

set_option maxRecDepth 100000 in
set_option maxHeartbeats 2000000 in
theorem compare_int (x y : Int) (w : World) :
    Calls Tryd.prog 43 #[.int .i64 x, .int .i64 y] w fun e w' => e = .returned (.int .i64 (cmpI x y)) ∧ Below w.heap.size w w' := by
  by_cases h1 : x < y
  · rw [show cmpI x y = -1 from by simp [cmpI, h1]]
    go_enter Tryd.func43, Tryd.ntmps43
    go_wp2
    go_ret
    exact ⟨rfl, Below.refl _ _⟩
  · by_cases h2 : y < x
    · rw [show cmpI x y = 1 from by simp [cmpI, h1, h2]]
      go_enter Tryd.func43, Tryd.ntmps43
      go_wp2
      go_ret
      exact ⟨rfl, Below.refl _ _⟩
    · rw [show cmpI x y = 0 from by simp [cmpI, h1, h2]]
      go_enter Tryd.func43, Tryd.ntmps43
      go_wp2
      go_ret
      exact ⟨rfl, Below.refl _ _⟩
theorem orF2_at {v : Nat → Int} {k : Nat} (hk : k < 2) (h : ∀ i, i < k → v i = 0) (hv : v k ≠ 0) : orF2 (v 0) (v 1) = v k := by
  unfold orF2
  match k, hk with
  | 0, _ => rw [if_pos hv]
  | 1, _ => rw [if_neg (by simpa using h 0 (by omega))]
theorem orF2_none {v : Nat → Int} (h : ∀ i, i < 2 → v i = 0) : orF2 (v 0) (v 1) = 0 := by
  unfold orF2
  rw [if_neg (by simpa using h 0 (by omega)), h 1 (by omega)]
set_option maxHeartbeats 400000 in
theorem or2_any (v : Nat → Int) (b : Nat) (w : World) (hc : ∀ i, i < 2 → w.cell? ⟨b, i, none⟩ = some (.int .i64 (v i))) :
    Calls Tryd.prog 42 #[.slice (some ⟨b, 0, none⟩) 2 2] w fun e w' => e = .returned (.int .i64 (orF2 (v 0) (v 1))) ∧ w = w' := by
  have HC := Lib.hid hc
  clear hc
  have h3 : 2 ≤ 9223372036854775807 := by omega
  go_enter Tryd.func42, Tryd.ntmps42
  go_wp2
  go_loop [8] (fun i => ∃ k : Nat, k ≤ 2 ∧ i = .int .i64 k ∧ Hid (∀ i, i < k → v i = 0)) (fun i => 2 - (intOf i).toNat)
  case atStart => exact ⟨0, by omega, rfl, fun i h => absurd h (by omega)⟩
  case round =>
    obtain ⟨k, hk, rfl, hz⟩ := hrel
    by_cases hlt : k < 2
    · have hcell := HC.out k hlt
      by_cases h0 : v k = 0
      · have hz' : Hid (∀ i, i < k + 1 → v i = 0) := by
          intro i hi
          by_cases e : i = k
          · rw [e]; exact h0
          · exact hz i (by omega)
        rw [h0] at hcell
        clear h0 hz
        go_wp2
        go_round
        case rel => exact ⟨k + 1, by omega, by go_num, hz'⟩
        case measure => simp [intOf]; omega
      · have hne : (v k == 0) = false := by simpa using h0
        have HF := Lib.hid (orF2_at hlt hz h0)
        clear hz h0
        go_wp2
        go_ret
        exact ⟨ret_int HF.out.symm, rfl⟩
    · obtain rfl : k = 2 := by omega
      have HF := Lib.hid (orF2_none hz)
      clear hz
      go_wp2
      go_ret
      exact ⟨ret_int HF.out.symm, rfl⟩
theorem or2_call (x y : Int) (b : Nat) (w : World) (c0 : w.cell? ⟨b, 0, none⟩ = some (.int .i64 x)) (c1 : w.cell? ⟨b, 1, none⟩ = some (.int .i64 y)) :
    Calls Tryd.prog 42 #[.slice (some ⟨b, 0, none⟩) 2 2] w fun e w' => e = .returned (.int .i64 (orF2 x y)) ∧ w = w' :=
  or2_any (fun i => if i = 0 then x else y) b w fun i hi => by
    match i, hi with
    | 0, _ => simpa using c0
    | 1, _ => simpa using c1
set_option maxRecDepth 100000 in
set_option maxHeartbeats 2000000 in
theorem compare_ok (a b : Pl) (w : World)  :
    Calls Tryd.prog 17 #[.agg #[.int .i64 a.m, .int .i64 a.a, .int .i64 a.s, .int .i64 a.v], .agg #[.int .i64 b.m, .int .i64 b.a, .int .i64 b.s, .int .i64 b.v]] w fun e w' => e = .returned (.int .i64 (cmpP a b)) ∧ Below w.heap.size w w' := by
  have B0 := Lib.hid (((Bel.refl w).alloc (.cells #[.int .i64 a.m, .int .i64 a.a, .int .i64 a.s, .int .i64 a.v] 29)).alloc (.cells #[.int .i64 b.m, .int .i64 b.a, .int .i64 b.s, .int .i64 b.v] 29))
  have X0 := (Quad.new w (.int .i64 a.m) (.int .i64 a.a) (.int .i64 a.s) (.int .i64 a.v) 29 (w.heap.size) (by simp)).alloc (.cells #[.int .i64 b.m, .int .i64 b.a, .int .i64 b.s, .int .i64 b.v] 29)
  have Y0 := Quad.new (w.alloc (.cells #[.int .i64 a.m, .int .i64 a.a, .int .i64 a.s, .int .i64 a.v] 29)) (.int .i64 b.m) (.int .i64 b.a) (.int .i64 b.s) (.int .i64 b.v) 29 (w.heap.size + 1) (by simp)
  go_enter Tryd.func17, Tryd.ntmps17
  obtain ⟨xf0, xf1, xf2, xf3, xf4, xf5, xf6, xf7, xf8⟩ := id X0
  obtain ⟨yf0, yf1, yf2, yf3, yf4, yf5, yf6, yf7, yf8⟩ := id Y0
  go_wp2_with fail
  clear xf0 xf1 xf2 xf3 xf4 xf5 xf6 xf7 xf8 yf0 yf1 yf2 yf3 yf4 yf5 yf6 yf7 yf8
  refine Qt.region 10 (by kernel_rfl) (by kernel_rfl) ?_
  intro T f_ F hne
  have RB := Lib.hid (fun g => B0.out.up (F.below g))
  have RX := fun g => X0.up (F.below g)
  have RX0 := fun g => (RX g).c0
  have RX1 := fun g => (RX g).c1
  have RX2 := fun g => (RX g).c2
  have RX3 := fun g => (RX g).c3
  have RY := fun g => Y0.up (F.below g)
  have RY0 := fun g => (RY g).c0
  have RY1 := fun g => (RY g).c1
  have RY2 := fun g => (RY g).c2
  have RY3 := fun g => (RY g).c3
  simp only [List.take_succ_cons, List.take_zero, List.drop_succ_cons, List.drop_zero]
  repeat (go_big_quiet_step (first | (go_at_call 43; with_reducible exact F.call (compare_int _ _ _))))
  refine wpQuiet_nil ?_
  rintro _ ⟨gT, rfl⟩
  have B1 := Lib.hid (RB.out gT)
  have X1 := RX gT
  have Y1 := RY gT
  clear F RB hne RX RX0 RX1 RX2 RX3 RY RY0 RY1 RY2 RY3 B0 X0 Y0
  generalize f_ gT = w1 at *
  clear f_
  obtain ⟨xf0, xf1, xf2, xf3, xf4, xf5, xf6, xf7, xf8⟩ := id X1
  obtain ⟨yf0, yf1, yf2, yf3, yf4, yf5, yf6, yf7, yf8⟩ := id Y1
  go_wp2_with fail
  refine (or2_call (cmpI a.m b.m) (cmpI a.a b.a) _ _ (by simp [go_sem]) (by simp [go_sem])).mono ?_
  rintro e w5 ⟨rfl, rfl⟩
  go_wp2_with fail
  go_ret
  exact ⟨rfl, (B1.out.alloc _).out⟩
theorem compare_at (a b : Pl) (c : Int) (w : World) (h : cmpP a b = c) : Calls Tryd.prog 17 #[.agg #[.int .i64 a.m, .int .i64 a.a, .int .i64 a.s, .int .i64 a.v], .agg #[.int .i64 b.m, .int .i64 b.a, .int .i64 b.s, .int .i64 b.v]] w fun e w' => e = .returned (.int .i64 c) ∧ Below w.heap.size w w' := by
  rw [← h]; exact compare_ok a b w
set_option maxRecDepth 100000 in
set_option maxHeartbeats 2000000 in
theorem isKind_0 (k : Int) (w : World) (h0 : 1 ≤ k) (h1 : k ≤ 7) :
    Calls Tryd.prog 38 #[.int .i64 k] w fun e w' => e = .returned (.bool true) ∧ Below w.heap.size w w' := by
  have g0 : decide (1 ≤ k) = true := decide_eq_true h0
  have g1 : decide (k ≤ 7) = true := decide_eq_true h1
  have B0 := Lib.hid (Bel.refl w)
  go_enter Tryd.func38, Tryd.ntmps38
  go_wp2_with fail
  go_ret
  exact ⟨rfl, B0.out.out⟩
set_option maxRecDepth 100000 in
set_option maxHeartbeats 2000000 in
theorem isKind_1 (k : Int) (w : World) (h0 : ¬ 1 ≤ k) :
    Calls Tryd.prog 38 #[.int .i64 k] w fun e w' => e = .returned (.bool false) ∧ Below w.heap.size w w' := by
  have g0 : decide (1 ≤ k) = false := decide_eq_false h0
  have B0 := Lib.hid (Bel.refl w)
  go_enter Tryd.func38, Tryd.ntmps38
  go_wp2_with fail
  go_ret
  exact ⟨rfl, B0.out.out⟩
set_option maxRecDepth 100000 in
set_option maxHeartbeats 2000000 in
theorem isKind_2 (k : Int) (w : World) (h0 : 1 ≤ k) (h1 : ¬ k ≤ 7) :
    Calls Tryd.prog 38 #[.int .i64 k] w fun e w' => e = .returned (.bool false) ∧ Below w.heap.size w w' := by
  have g0 : decide (1 ≤ k) = true := decide_eq_true h0
  have g1 : decide (k ≤ 7) = false := decide_eq_false h1
  have B0 := Lib.hid (Bel.refl w)
  go_enter Tryd.func38, Tryd.ntmps38
  go_wp2_with fail
  go_ret
  exact ⟨rfl, B0.out.out⟩
theorem isKind_at (k : Int) (b : Bool) (w : World) (h : isK k = b) : Calls Tryd.prog 38 #[.int .i64 k] w fun e w' => e = .returned (.bool b) ∧ Below w.heap.size w w' := by
  subst h
  by_cases h0 : 1 ≤ k
  · by_cases h1 : k ≤ 7
    · rw [show isK k = true from by simp [isK, h0, h1]]; exact isKind_0 k w h0 h1
    · rw [show isK k = false from by simp [isK, h0, h1]]; exact isKind_2 k w h0 h1
  · rw [show isK k = false from by simp [isK, h0]]; exact isKind_1 k w h0
set_option maxRecDepth 100000 in
set_option maxHeartbeats 2000000 in
theorem upTo_0 (n g : Int) (w : World) (h0 : 0 ≤ n) (h1 : n ≤ g) :
    Calls Tryd.prog 58 #[.int .i64 n, .int .i64 g] w fun e w' => e = .returned (.bool true) ∧ Below w.heap.size w w' := by
  have g0 : decide (0 ≤ n) = true := decide_eq_true h0
  have g1 : decide (n ≤ g) = true := decide_eq_true h1
  have B0 := Lib.hid (Bel.refl w)
  go_enter Tryd.func58, Tryd.ntmps58
  go_wp2_with fail
  go_ret
  exact ⟨rfl, B0.out.out⟩
set_option maxRecDepth 100000 in
set_option maxHeartbeats 2000000 in
theorem upTo_1 (n g : Int) (w : World) (h0 : ¬ 0 ≤ n) :
    Calls Tryd.prog 58 #[.int .i64 n, .int .i64 g] w fun e w' => e = .returned (.bool false) ∧ Below w.heap.size w w' := by
  have g0 : decide (0 ≤ n) = false := decide_eq_false h0
  have B0 := Lib.hid (Bel.refl w)
  go_enter Tryd.func58, Tryd.ntmps58
  go_wp2_with fail
  go_ret
  exact ⟨rfl, B0.out.out⟩
set_option maxRecDepth 100000 in
set_option maxHeartbeats 2000000 in
theorem upTo_2 (n g : Int) (w : World) (h0 : 0 ≤ n) (h1 : ¬ n ≤ g) :
    Calls Tryd.prog 58 #[.int .i64 n, .int .i64 g] w fun e w' => e = .returned (.bool false) ∧ Below w.heap.size w w' := by
  have g0 : decide (0 ≤ n) = true := decide_eq_true h0
  have g1 : decide (n ≤ g) = false := decide_eq_false h1
  have B0 := Lib.hid (Bel.refl w)
  go_enter Tryd.func58, Tryd.ntmps58
  go_wp2_with fail
  go_ret
  exact ⟨rfl, B0.out.out⟩
theorem upTo_at (n g : Int) (b : Bool) (w : World) (h : upTo n g = b) : Calls Tryd.prog 58 #[.int .i64 n, .int .i64 g] w fun e w' => e = .returned (.bool b) ∧ Below w.heap.size w w' := by
  subst h
  by_cases h0 : 0 ≤ n
  · by_cases h1 : n ≤ g
    · rw [show upTo n g = true from by simp [upTo, h0, h1]]; exact upTo_0 n g w h0 h1
    · rw [show upTo n g = false from by simp [upTo, h0, h1]]; exact upTo_2 n g w h0 h1
  · rw [show upTo n g = false from by simp [upTo, h0]]; exact upTo_1 n g w h0
set_option maxRecDepth 100000 in
set_option maxHeartbeats 2000000 in
theorem ofVoice_0 (k : Int) (w : World) (h0 : k = 1) :
    Calls Tryd.prog 40 #[.int .i64 k] w fun e w' => e = .returned (.bool true) ∧ Below w.heap.size w w' := by
  have g0 : (k == 1) = true := by simpa using h0
  clear h0
  have B0 := Lib.hid (Bel.refl w)
  go_enter Tryd.func40, Tryd.ntmps40
  go_wp2_with fail
  go_ret
  exact ⟨rfl, B0.out.out⟩
set_option maxRecDepth 100000 in
set_option maxHeartbeats 2000000 in
theorem ofVoice_1 (k : Int) (w : World) (h0 : k ≠ 1) (h1 : k = 7) :
    Calls Tryd.prog 40 #[.int .i64 k] w fun e w' => e = .returned (.bool true) ∧ Below w.heap.size w w' := by
  have g0 : (k == 1) = false := by simpa using h0
  have g1 : (k == 7) = true := by simpa using h1
  clear h0 h1
  have B0 := Lib.hid (Bel.refl w)
  go_enter Tryd.func40, Tryd.ntmps40
  go_wp2_with fail
  go_ret
  exact ⟨rfl, B0.out.out⟩
set_option maxRecDepth 100000 in
set_option maxHeartbeats 2000000 in
theorem ofVoice_2 (k : Int) (w : World) (h0 : k ≠ 1) (h1 : k ≠ 7) :
    Calls Tryd.prog 40 #[.int .i64 k] w fun e w' => e = .returned (.bool false) ∧ Below w.heap.size w w' := by
  have g0 : (k == 1) = false := by simpa using h0
  have g1 : (k == 7) = false := by simpa using h1
  clear h0 h1
  have B0 := Lib.hid (Bel.refl w)
  go_enter Tryd.func40, Tryd.ntmps40
  go_wp2_with fail
  go_ret
  exact ⟨rfl, B0.out.out⟩
theorem ofVoice_at (k : Int) (b : Bool) (w : World) (h : ofV k = b) : Calls Tryd.prog 40 #[.int .i64 k] w fun e w' => e = .returned (.bool b) ∧ Below w.heap.size w w' := by
  subst h
  by_cases h0 : k = 1
  · rw [show ofV k = true from by simp [ofV, h0]]; exact ofVoice_0 k w h0
  · by_cases h1 : k = 7
    · rw [show ofV k = true from by simp [ofV, h1]]; exact ofVoice_1 k w h0 h1
    · rw [show ofV k = false from by simp [ofV, h0, h1]]; exact ofVoice_2 k w h0 h1
set_option maxRecDepth 100000 in
set_option maxHeartbeats 2000000 in
theorem isPlace_0 (p : Pl) (w : World)  (h0 : upTo p.m 1023 = false) :
    Calls Tryd.prog 39 #[.agg #[.int .i64 p.m, .int .i64 p.a, .int .i64 p.s, .int .i64 p.v]] w fun e w' => e = .returned (.bool false) ∧ Below w.heap.size w w' := by
  replace h0 := Lib.hid h0
  have B0 := Lib.hid ((Bel.refl w).alloc (.cells #[.int .i64 p.m, .int .i64 p.a, .int .i64 p.s, .int .i64 p.v] 29))
  have X0 := Quad.new w (.int .i64 p.m) (.int .i64 p.a) (.int .i64 p.s) (.int .i64 p.v) 29 (w.heap.size) (by simp)
  go_enter Tryd.func39, Tryd.ntmps39
  obtain ⟨xf0, xf1, xf2, xf3, xf4, xf5, xf6, xf7, xf8⟩ := id X0
  go_wp2_with fail
  clear xf0 xf1 xf2 xf3 xf4 xf5 xf6 xf7 xf8
  refine (upTo_at p.m 1023 false _ h0.out).mono ?_
  rintro e w1 ⟨rfl, hb⟩
  have B1 := Lib.hid (B0.out.up hb)
  have X1 := X0.up hb
  clear hb B0  X0
  obtain ⟨xf0, xf1, xf2, xf3, xf4, xf5, xf6, xf7, xf8⟩ := id X1
  go_wp2_with fail
  go_ret
  exact ⟨rfl, B1.out.out⟩
set_option maxRecDepth 100000 in
set_option maxHeartbeats 2000000 in
theorem isPlace_1 (p : Pl) (w : World) (h0 : upTo p.m 1023 = true) (h1 : upTo p.a 4398046511104 = false) :
    Calls Tryd.prog 39 #[.agg #[.int .i64 p.m, .int .i64 p.a, .int .i64 p.s, .int .i64 p.v]] w fun e w' => e = .returned (.bool false) ∧ Below w.heap.size w w' := by
  replace h0 := Lib.hid h0
  replace h1 := Lib.hid h1
  have B0 := Lib.hid ((Bel.refl w).alloc (.cells #[.int .i64 p.m, .int .i64 p.a, .int .i64 p.s, .int .i64 p.v] 29))
  have X0 := Quad.new w (.int .i64 p.m) (.int .i64 p.a) (.int .i64 p.s) (.int .i64 p.v) 29 (w.heap.size) (by simp)
  go_enter Tryd.func39, Tryd.ntmps39
  obtain ⟨xf0, xf1, xf2, xf3, xf4, xf5, xf6, xf7, xf8⟩ := id X0
  go_wp2_with fail
  clear xf0 xf1 xf2 xf3 xf4 xf5 xf6 xf7 xf8
  refine (upTo_at p.m 1023 true _ h0.out).mono ?_
  rintro e w1 ⟨rfl, hb⟩
  have B1 := Lib.hid (B0.out.up hb)
  have X1 := X0.up hb
  clear hb B0  X0
  obtain ⟨xf0, xf1, xf2, xf3, xf4, xf5, xf6, xf7, xf8⟩ := id X1
  go_wp2_with fail
  clear xf0 xf1 xf2 xf3 xf4 xf5 xf6 xf7 xf8
  refine (upTo_at p.a 4398046511104 false _ h1.out).mono ?_
  rintro e w2 ⟨rfl, hb⟩
  have B2 := Lib.hid (B1.out.up hb)
  have X2 := X1.up hb
  clear hb B1  X1
  obtain ⟨xf0, xf1, xf2, xf3, xf4, xf5, xf6, xf7, xf8⟩ := id X2
  go_wp2_with fail
  go_ret
  exact ⟨rfl, B2.out.out⟩
set_option maxRecDepth 100000 in
set_option maxHeartbeats 2000000 in
theorem isPlace_2 (p : Pl) (w : World) (h0 : upTo p.m 1023 = true) (h1 : upTo p.a 4398046511104 = true) (h2 : upTo p.s 127 = false) :
    Calls Tryd.prog 39 #[.agg #[.int .i64 p.m, .int .i64 p.a, .int .i64 p.s, .int .i64 p.v]] w fun e w' => e = .returned (.bool false) ∧ Below w.heap.size w w' := by
  replace h0 := Lib.hid h0
  replace h1 := Lib.hid h1
  replace h2 := Lib.hid h2
  have B0 := Lib.hid ((Bel.refl w).alloc (.cells #[.int .i64 p.m, .int .i64 p.a, .int .i64 p.s, .int .i64 p.v] 29))
  have X0 := Quad.new w (.int .i64 p.m) (.int .i64 p.a) (.int .i64 p.s) (.int .i64 p.v) 29 (w.heap.size) (by simp)
  go_enter Tryd.func39, Tryd.ntmps39
  obtain ⟨xf0, xf1, xf2, xf3, xf4, xf5, xf6, xf7, xf8⟩ := id X0
  go_wp2_with fail
  clear xf0 xf1 xf2 xf3 xf4 xf5 xf6 xf7 xf8
  refine (upTo_at p.m 1023 true _ h0.out).mono ?_
  rintro e w1 ⟨rfl, hb⟩
  have B1 := Lib.hid (B0.out.up hb)
  have X1 := X0.up hb
  clear hb B0  X0
  obtain ⟨xf0, xf1, xf2, xf3, xf4, xf5, xf6, xf7, xf8⟩ := id X1
  go_wp2_with fail
  clear xf0 xf1 xf2 xf3 xf4 xf5 xf6 xf7 xf8
  refine (upTo_at p.a 4398046511104 true _ h1.out).mono ?_
  rintro e w2 ⟨rfl, hb⟩
  have B2 := Lib.hid (B1.out.up hb)
  have X2 := X1.up hb
  clear hb B1  X1
  obtain ⟨xf0, xf1, xf2, xf3, xf4, xf5, xf6, xf7, xf8⟩ := id X2
  go_wp2_with fail
  clear xf0 xf1 xf2 xf3 xf4 xf5 xf6 xf7 xf8
  refine (upTo_at p.s 127 false _ h2.out).mono ?_
  rintro e w3 ⟨rfl, hb⟩
  have B3 := Lib.hid (B2.out.up hb)
  have X3 := X2.up hb
  clear hb B2  X2
  obtain ⟨xf0, xf1, xf2, xf3, xf4, xf5, xf6, xf7, xf8⟩ := id X3
  go_wp2_with fail
  go_ret
  exact ⟨rfl, B3.out.out⟩
set_option maxRecDepth 100000 in
set_option maxHeartbeats 2000000 in
theorem isPlace_3 (p : Pl) (w : World) (h0 : upTo p.m 1023 = true) (h1 : upTo p.a 4398046511104 = true) (h2 : upTo p.s 127 = true) (h3 : upTo p.v 1 = false) :
    Calls Tryd.prog 39 #[.agg #[.int .i64 p.m, .int .i64 p.a, .int .i64 p.s, .int .i64 p.v]] w fun e w' => e = .returned (.bool false) ∧ Below w.heap.size w w' := by
  replace h0 := Lib.hid h0
  replace h1 := Lib.hid h1
  replace h2 := Lib.hid h2
  replace h3 := Lib.hid h3
  have B0 := Lib.hid ((Bel.refl w).alloc (.cells #[.int .i64 p.m, .int .i64 p.a, .int .i64 p.s, .int .i64 p.v] 29))
  have X0 := Quad.new w (.int .i64 p.m) (.int .i64 p.a) (.int .i64 p.s) (.int .i64 p.v) 29 (w.heap.size) (by simp)
  go_enter Tryd.func39, Tryd.ntmps39
  obtain ⟨xf0, xf1, xf2, xf3, xf4, xf5, xf6, xf7, xf8⟩ := id X0
  go_wp2_with fail
  clear xf0 xf1 xf2 xf3 xf4 xf5 xf6 xf7 xf8
  refine (upTo_at p.m 1023 true _ h0.out).mono ?_
  rintro e w1 ⟨rfl, hb⟩
  have B1 := Lib.hid (B0.out.up hb)
  have X1 := X0.up hb
  clear hb B0  X0
  obtain ⟨xf0, xf1, xf2, xf3, xf4, xf5, xf6, xf7, xf8⟩ := id X1
  go_wp2_with fail
  clear xf0 xf1 xf2 xf3 xf4 xf5 xf6 xf7 xf8
  refine (upTo_at p.a 4398046511104 true _ h1.out).mono ?_
  rintro e w2 ⟨rfl, hb⟩
  have B2 := Lib.hid (B1.out.up hb)
  have X2 := X1.up hb
  clear hb B1  X1
  obtain ⟨xf0, xf1, xf2, xf3, xf4, xf5, xf6, xf7, xf8⟩ := id X2
  go_wp2_with fail
  clear xf0 xf1 xf2 xf3 xf4 xf5 xf6 xf7 xf8
  refine (upTo_at p.s 127 true _ h2.out).mono ?_
  rintro e w3 ⟨rfl, hb⟩
  have B3 := Lib.hid (B2.out.up hb)
  have X3 := X2.up hb
  clear hb B2  X2
  obtain ⟨xf0, xf1, xf2, xf3, xf4, xf5, xf6, xf7, xf8⟩ := id X3
  go_wp2_with fail
  clear xf0 xf1 xf2 xf3 xf4 xf5 xf6 xf7 xf8
  refine (upTo_at p.v 1 false _ h3.out).mono ?_
  rintro e w4 ⟨rfl, hb⟩
  have B4 := Lib.hid (B3.out.up hb)
  have X4 := X3.up hb
  clear hb B3  X3
  obtain ⟨xf0, xf1, xf2, xf3, xf4, xf5, xf6, xf7, xf8⟩ := id X4
  go_wp2_with fail
  go_ret
  exact ⟨rfl, B4.out.out⟩
set_option maxRecDepth 100000 in
set_option maxHeartbeats 2000000 in
theorem isPlace_4 (p : Pl) (w : World) (h0 : upTo p.m 1023 = true) (h1 : upTo p.a 4398046511104 = true) (h2 : upTo p.s 127 = true) (h3 : upTo p.v 1 = true) :
    Calls Tryd.prog 39 #[.agg #[.int .i64 p.m, .int .i64 p.a, .int .i64 p.s, .int .i64 p.v]] w fun e w' => e = .returned (.bool true) ∧ Below w.heap.size w w' := by
  replace h0 := Lib.hid h0
  replace h1 := Lib.hid h1
  replace h2 := Lib.hid h2
  replace h3 := Lib.hid h3
  have B0 := Lib.hid ((Bel.refl w).alloc (.cells #[.int .i64 p.m, .int .i64 p.a, .int .i64 p.s, .int .i64 p.v] 29))
  have X0 := Quad.new w (.int .i64 p.m) (.int .i64 p.a) (.int .i64 p.s) (.int .i64 p.v) 29 (w.heap.size) (by simp)
  go_enter Tryd.func39, Tryd.ntmps39
  obtain ⟨xf0, xf1, xf2, xf3, xf4, xf5, xf6, xf7, xf8⟩ := id X0
  go_wp2_with fail
  clear xf0 xf1 xf2 xf3 xf4 xf5 xf6 xf7 xf8
  refine (upTo_at p.m 1023 true _ h0.out).mono ?_
  rintro e w1 ⟨rfl, hb⟩
  have B1 := Lib.hid (B0.out.up hb)
  have X1 := X0.up hb
  clear hb B0  X0
  obtain ⟨xf0, xf1, xf2, xf3, xf4, xf5, xf6, xf7, xf8⟩ := id X1
  go_wp2_with fail
  clear xf0 xf1 xf2 xf3 xf4 xf5 xf6 xf7 xf8
  refine (upTo_at p.a 4398046511104 true _ h1.out).mono ?_
  rintro e w2 ⟨rfl, hb⟩
  have B2 := Lib.hid (B1.out.up hb)
  have X2 := X1.up hb
  clear hb B1  X1
  obtain ⟨xf0, xf1, xf2, xf3, xf4, xf5, xf6, xf7, xf8⟩ := id X2
  go_wp2_with fail
  clear xf0 xf1 xf2 xf3 xf4 xf5 xf6 xf7 xf8
  refine (upTo_at p.s 127 true _ h2.out).mono ?_
  rintro e w3 ⟨rfl, hb⟩
  have B3 := Lib.hid (B2.out.up hb)
  have X3 := X2.up hb
  clear hb B2  X2
  obtain ⟨xf0, xf1, xf2, xf3, xf4, xf5, xf6, xf7, xf8⟩ := id X3
  go_wp2_with fail
  clear xf0 xf1 xf2 xf3 xf4 xf5 xf6 xf7 xf8
  refine (upTo_at p.v 1 true _ h3.out).mono ?_
  rintro e w4 ⟨rfl, hb⟩
  have B4 := Lib.hid (B3.out.up hb)
  have X4 := X3.up hb
  clear hb B3  X3
  obtain ⟨xf0, xf1, xf2, xf3, xf4, xf5, xf6, xf7, xf8⟩ := id X4
  go_wp2_with fail
  go_ret
  exact ⟨rfl, B4.out.out⟩
theorem isPlace_at (p : Pl) (b : Bool) (w : World) (h : isP p = b) : Calls Tryd.prog 39 #[.agg #[.int .i64 p.m, .int .i64 p.a, .int .i64 p.s, .int .i64 p.v]] w fun e w' => e = .returned (.bool b) ∧ Below w.heap.size w w' := by
  subst h
  cases h0 : upTo p.m 1023
  · rw [show isP p = false from by simp [isP, h0]]; exact isPlace_0 p w h0
  · cases h1 : upTo p.a 4398046511104
    · rw [show isP p = false from by simp [isP, h0, h1]]; exact isPlace_1 p w h0 h1
    · cases h2 : upTo p.s 127
      · rw [show isP p = false from by simp [isP, h0, h1, h2]]; exact isPlace_2 p w h0 h1 h2
      · cases h3 : upTo p.v 1
        · rw [show isP p = false from by simp [isP, h0, h1, h2, h3]]; exact isPlace_3 p w h0 h1 h2 h3
        · rw [show isP p = true from by simp [isP, h0, h1, h2, h3]]; exact isPlace_4 p w h0 h1 h2 h3
end Go.Proofs.YtabafabebodojaaDoor
