/- Pitches: all pitches with a number. -/
import Derived.Test.YtfbogakmhaiddaaDoorPc
namespace Go.Proofs.YtfbogakmhaiddaaDoor
open Go.RowKit Go.Shelf
set_option linter.unusedVariables false
set_option linter.unusedSimpArgs false
attribute [local go_sem] Oper.semAt_some

/-- the pitch with a number and an alteration -/
def stepOf' (r : Int) : Int := if r = 0 then 0 else if r = 2 then 1 else if r = 4 then 2 else if r = 5 then 3 else if r = 7 then 4 else if r = 9 then 5 else if r = 11 then 6 else 7
def pitOf (n a : Int) : Option (Int × Int × Int) :=
  if Pit (stepOf' (n - a - 12 * ((n - a) / 12))) a ((n - a) / 12 - 1) then some (stepOf' (n - a - 12 * ((n - a) / 12)), a, (n - a) / 12 - 1) else none
theorem stepOf_stepI {s : Int} (h0 : 0 ≤ s) (h1 : s ≤ 6) : stepOf' (stepI s) = s := by
  rcases step_cases h0 h1 with rfl | rfl | rfl | rfl | rfl | rfl | rfl <;> decide
theorem stepI_stepOf {r : Int} (h : stepOf' r ≤ 6) : stepI (stepOf' r) = r := by
  unfold stepOf' at h ⊢
  repeat' split at h
  all_goals first | (subst_vars; rfl) | omega
theorem pitOf_some {n k a o : Int} (hp : Pit k a o) (hn : numP k a o = n) : pitOf n a = some (k, a, o) := by
  have b := step_bd hp.s0 hp.s1
  have e : (n - a) / 12 = o + 1 := by unfold numP at hn; omega
  have e2 : n - a - 12 * (o + 1) = stepI k := by unfold numP at hn; omega
  unfold pitOf
  rw [e, e2, stepOf_stepI hp.s0 hp.s1, show o + 1 - 1 = o by omega, if_pos hp]
theorem pitOf_pit {n a : Int} {p : Int × Int × Int} (h : pitOf n a = some p) : Pit p.1 p.2.1 p.2.2 ∧ numP p.1 p.2.1 p.2.2 = n ∧ p.2.1 = a := by
  unfold pitOf at h
  split at h
  · rename_i hp
    cases h
    refine ⟨hp, ?_, rfl⟩
    have := stepI_stepOf hp.s1
    unfold numP
    simp only
    rw [this]
    omega
  · cases h
theorem pitOf_none {n a : Int} (h : ∀ k o : Int, Pit k a o → numP k a o ≠ n) : pitOf n a = none := by
  cases hp : pitOf n a with
  | none => rfl
  | some p =>
    obtain ⟨h1, h2, h3⟩ := pitOf_pit hp
    rw [h3] at h1 h2
    exact absurd h2 (h _ _ h1)
theorem altered_fun (n a : Int) (w : World) (n0 : 0 ≤ n) (n1 : n ≤ 127) (a0 : -2 ≤ a) (a1 : a ≤ 2) (ht : PT w) :
    Calls Tryd.prog 72 #[.int .i64 n, .int .i64 a] w fun e w' =>
      ((∃ p : Int × Int × Int, pitOf n a = some p ∧ e = .returned (.tuple #[.agg #[.int .i64 p.1, .int .i64 p.2.1, .int .i64 p.2.2], .bool true])) ∨
       (pitOf n a = none ∧ e = .returned (.tuple #[.agg #[.int .i64 0, .int .i64 0, .int .i64 0], .bool false]))) ∧ Below w.heap.size w w' := by
  refine (altered_any n a w n0 n1 a0 a1 ht).mono ?_
  rintro e w' (⟨k, o, hp, hn, rfl, hb⟩ | ⟨hn, rfl, hb⟩)
  · exact ⟨.inl ⟨_, pitOf_some hp hn, rfl⟩, hb⟩
  · exact ⟨.inr ⟨pitOf_none hn, rfl⟩, hb⟩
theorem altered_some (n a : Int) (p : Int × Int × Int) (w : World) (n0 : 0 ≤ n) (n1 : n ≤ 127) (a0 : -2 ≤ a) (a1 : a ≤ 2) (ht : PT w) (hp : pitOf n a = some p) :
    Calls Tryd.prog 72 #[.int .i64 n, .int .i64 a] w fun e w' => e = .returned (.tuple #[.agg #[.int .i64 p.1, .int .i64 p.2.1, .int .i64 p.2.2], .bool true]) ∧ Below w.heap.size w w' :=
  (altered_fun n a w n0 n1 a0 a1 ht).mono fun e w' ⟨h, hb⟩ => by
    rcases h with ⟨q, hq, he⟩ | ⟨hq, _⟩
    · rw [hp] at hq; cases hq; exact ⟨he, hb⟩
    · rw [hp] at hq; cases hq
theorem altered_no (n a : Int) (w : World) (n0 : 0 ≤ n) (n1 : n ≤ 127) (a0 : -2 ≤ a) (a1 : a ≤ 2) (ht : PT w) (hp : pitOf n a = none) :
    Calls Tryd.prog 72 #[.int .i64 n, .int .i64 a] w fun e w' => e = .returned (.tuple #[.agg #[.int .i64 0, .int .i64 0, .int .i64 0], .bool false]) ∧ Below w.heap.size w w' :=
  (altered_fun n a w n0 n1 a0 a1 ht).mono fun e w' ⟨h, hb⟩ => by
    rcases h with ⟨q, hq, _⟩ | ⟨_, he⟩
    · rw [hp] at hq; cases hq
    · exact ⟨he, hb⟩
theorem keepsOthers_of_below {W W' : World} (h : Below W.heap.size W W') : KeepsOthers W W' := ⟨h.size, fun k o hk _ => (h.block k (Array.getElem?_eq_some_iff.1 hk).1).trans hk⟩
theorem boxUp {W W' : World} {B : Nat} {t : TypeId} {v : Value} (h : Boxed W B t v) (hb : Below W.heap.size W W') : Boxed W' B t v := (hb.block B h.lt).trans h
theorem ownUp {w w' : World} {base : Nat} {e : TypeId} {size : Nat} {v : Value} {n : Nat} {xs : List Value} (h : w.ownsRow base e size v n xs) (hb : Below w.heap.size w w') : w'.ownsRow base e size v n xs :=
  h.kept (row := none) ⟨hb.os, hb.tape, hb.output, hb.size, fun k hk _ => hb.block k hk⟩ (by cases v.ownBlock <;> simp)
/-- the pitches that come with some alterations -/
def pitL (n : Int) (l : List (Fin 5)) : List (Int × Int × Int) := l.filterMap fun x => pitOf n (alF x)
theorem pitL_hit {n : Int} {l : List (Fin 5)} {x : Fin 5} {p : Int × Int × Int} (h : pitOf n (alF x) = some p) : pitL n (l ++ [x]) = pitL n l ++ [p] := by simp [pitL, h]
theorem pitL_miss {n : Int} {l : List (Fin 5)} {x : Fin 5} (h : pitOf n (alF x) = none) : pitL n (l ++ [x]) = pitL n l := by simp [pitL, h]
theorem pitL_len (n : Int) (l : List (Fin 5)) : (pitL n l).length ≤ l.length := List.length_filterMap_le _ _
def cells3 (l : List (Int × Int × Int)) : List Value := l.flatMap fun p => [.int .i64 p.1, .int .i64 p.2.1, .int .i64 p.2.2]
theorem cells3_snoc (l : List (Int × Int × Int)) (p : Int × Int × Int) : cells3 (l ++ [p]) = cells3 l ++ [.int .i64 p.1, .int .i64 p.2.1, .int .i64 p.2.2] := by simp [cells3]
/-- all pitches with a number, in the program's order -/
def enhL (n : Int) : List (Int × Int × Int) := pitL n (upF 5)
theorem infoP : (Tryd.prog.info? 41).map (fun i => (i.zero, i.size, i.bytes)) = some (some (.agg #[.int .i64 0, .int .i64 0, .int .i64 0]), 3, 24) := by kernel_rfl

theorem cell3_new (w : World) (x y z : Value) (t : TypeId) (n : Nat) (hn : n = w.heap.size) : ∀ (j : Nat) (u : Value), [x, y, z][j]? = some u → (w.alloc (.cells #[x, y, z] t)).cell? ((⟨n, 0, none⟩ : Addr).add j) = some u := by
  subst hn
  intro j u hj
  match j, hj with
  | 0, hj => simp at hj; subst hj; simp [Addr.add]
  | 1, hj => simp at hj; subst hj; simp [Addr.add]
  | 2, hj => simp at hj; subst hj; simp [Addr.add]
theorem KeepM.own {β : Type} {M B C : Nat} (W0 : World) : OwnFrom C (fun (_ : β) W => KeepM M B W0 W) := by
  intro s W W' row hs hg hr
  refine hs.trans ?_
  intro k p hk hb hp hpc
  have hlt := (Array.getElem?_eq_some_iff.1 hp).1
  rw [hg.block k hlt (fun e => by obtain ⟨_, o, ho, hc⟩ := hr k e.symm; rw [hp] at ho; cases ho; rw [hc] at hpc; cases hpc)]
  exact hp
theorem KeepM.cell' {M B : Nat} {W W' : World} (h : KeepM M B W W') {b o : Nat} {v : Value} (hb : b < M) (hB : b ≠ B) (hc : W.cell? ⟨b, o, none⟩ = some v) : W'.cell? ⟨b, o, none⟩ = some v := by
  refine h.cell hb hB hc ?_
  unfold World.cell? at hc
  cases hh : W.heap[b]? with
  | none => rw [hh] at hc; cases hc
  | some x =>
    rw [hh] at hc
    cases x with
    | cells cs t m => exact ⟨cs, t, m, rfl⟩
    | _ => cases hc
theorem PT.keep {M B : Nat} {w W W' : World} (h : PT w) (hb : Below w.heap.size w W) (hk : KeepM M B W W') (hM : w.heap.size ≤ M) (hB : w.heap.size ≤ B) : PT W' := by
  have f : ∀ {b o : Nat} {v : Value}, w.cell? ⟨b, o, none⟩ = some v → W'.cell? ⟨b, o, none⟩ = some v := fun {b o v} hc => by
    have hlt : b < w.heap.size := lt_of_cell (a := ⟨b, o, none⟩) hc
    exact hk.cell' (by omega) (by omega) (cell_up hb hc)
  exact ⟨f h.n0, f h.n1, f h.n2, f h.n3, f h.n4, f h.n5, f h.n6⟩
theorem own_mono {W : World} {base base' : Nat} {e : TypeId} {size : Nat} {v : Value} {k : Nat} {xs : List Value} (h : W.ownsRow base e size v k xs) (hb : base' ≤ base) : W.ownsRow base' e size v k xs := by
  refine ⟨h.1, ?_⟩
  rcases h.2 with h2 | ⟨g, cap, cur, hv, hg, r⟩
  · exact .inl h2
  · exact .inr ⟨g, cap, cur, hv, by omega, r⟩

set_option maxRecDepth 100000 in
set_option maxHeartbeats 4000000 in
theorem enharmonics_any (m : Int) (w : World) (m0 : 0 ≤ m) (m1 : m ≤ 127) (ht : PT w) :
    Calls Tryd.prog 64 #[.int .i64 m] w fun e W' => ∃ v, e = .returned v ∧ W'.ownsRow w.heap.size 41 3 v (enhL m).length (cells3 (enhL m)) ∧ (v = .slice none 0 0 ↔ enhL m = []) ∧ Below w.heap.size w W' := by
  have h1 : 1 ≤ 3 := by omega
  obtain ⟨i0, hi, hz0, hz1, hz2⟩ := info_parts infoP
  have HT := Lib.hid ht
  clear ht
  refine (callsIn_wide (n := 3)).1 ?_
  refine callsIn_of_wp_marks Tryd.func64 rfl trivial ?_ rfl
  simp only [Tryd.ntmps64, List.size_toArray, List.length_cons, List.length_nil, Nat.reduceAdd, Nat.reduceSub, Array.replicate_succ, Array.replicate_zero, List.push_toArray, List.append_toArray, List.nil_append, List.cons_append]
  gi_wp2_with (refine ⟨trivial, ?_⟩; gi_at_call 71; refine (backward_in Fence.wide (3 - 1) trivial rfl _ _ _ _).mono ?_; rintro e w' ⟨rfl, rfl⟩)
  have s4 : ((((w.alloc (Obj.cells #[Value.int IntKind.i64 m] 3)).alloc (Obj.cells #[Value.slice none 0 0] 51)).alloc (Obj.cells #[Value.int IntKind.i64 (-2), Value.int IntKind.i64 (-1), Value.int IntKind.i64 0, Value.int IntKind.i64 1, Value.int IntKind.i64 2] 3)).alloc (Obj.cells #[Value.slice (some { block := w.heap.size + 1 + 1, off := 0 }) 5 5] 85)).heap.size = w.heap.size + 1 + 1 + 1 + 1 := by simp
  have hB0 : Below w.heap.size w ((((w.alloc (Obj.cells #[Value.int IntKind.i64 m] 3)).alloc (Obj.cells #[Value.slice none 0 0] 51)).alloc (Obj.cells #[Value.int IntKind.i64 (-2), Value.int IntKind.i64 (-1), Value.int IntKind.i64 0, Value.int IntKind.i64 1, Value.int IntKind.i64 2] 3)).alloc (Obj.cells #[Value.slice (some { block := w.heap.size + 1 + 1, off := 0 }) 5 5] 85)) := ((((Bel.refl w).alloc _).alloc _).alloc _).alloc _
  have bN := ((((Boxed.new w 3 (.int .i64 m)).alloc (Obj.cells #[Value.slice none 0 0] 51)).alloc (Obj.cells #[Value.int IntKind.i64 (-2), Value.int IntKind.i64 (-1), Value.int IntKind.i64 0, Value.int IntKind.i64 1, Value.int IntKind.i64 2] 3)).alloc (Obj.cells #[Value.slice (some { block := w.heap.size + 1 + 1, off := 0 }) 5 5] 85))
  have bO := (((Boxed.new (w.alloc (Obj.cells #[Value.int IntKind.i64 m] 3)) 51 (.slice none 0 0)).alloc (Obj.cells #[Value.int IntKind.i64 (-2), Value.int IntKind.i64 (-1), Value.int IntKind.i64 0, Value.int IntKind.i64 1, Value.int IntKind.i64 2] 3)).alloc (Obj.cells #[Value.slice (some { block := w.heap.size + 1 + 1, off := 0 }) 5 5] 85))
  have bX := Boxed.new (((w.alloc (Obj.cells #[Value.int IntKind.i64 m] 3)).alloc (Obj.cells #[Value.slice none 0 0] 51)).alloc (Obj.cells #[Value.int IntKind.i64 (-2), Value.int IntKind.i64 (-1), Value.int IntKind.i64 0, Value.int IntKind.i64 1, Value.int IntKind.i64 2] 3)) 85 (Value.slice (some { block := w.heap.size + 1 + 1, off := 0 }) 5 5)
  have bS := (World.alloc_heap_new ((w.alloc (Obj.cells #[Value.int IntKind.i64 m] 3)).alloc (Obj.cells #[Value.slice none 0 0] 51)) (Obj.cells #[Value.int IntKind.i64 (-2), Value.int IntKind.i64 (-1), Value.int IntKind.i64 0, Value.int IntKind.i64 1, Value.int IntKind.i64 2] 3))
  rw [World.size_alloc] at bO
  rw [World.size_alloc, World.size_alloc, World.size_alloc] at bX
  rw [World.size_alloc, World.size_alloc] at bS
  replace bS := (Below.heap_alloc _ (Obj.cells #[Value.slice (some { block := w.heap.size + 1 + 1, off := 0 }) 5 5] 85) _ (Array.getElem?_eq_some_iff.1 bS).1).trans bS
  obtain ⟨W0, hW0⟩ : ∃ W0, ((((w.alloc (Obj.cells #[Value.int IntKind.i64 m] 3)).alloc (Obj.cells #[Value.slice none 0 0] 51)).alloc (Obj.cells #[Value.int IntKind.i64 (-2), Value.int IntKind.i64 (-1), Value.int IntKind.i64 0, Value.int IntKind.i64 1, Value.int IntKind.i64 2] 3)).alloc (Obj.cells #[Value.slice (some { block := w.heap.size + 1 + 1, off := 0 }) 5 5] 85)) = W0 := ⟨_, rfl⟩
  rw [hW0] at s4 hB0 bN bO bX bS ⊢
  clear hW0
  refine wpIn_rangeFunc_ownG (Kp := KeepM (w.heap.size + 4) (w.heap.size + 1)) rfl h1 (gf := 80) (lb := #[.pointer (some ⟨w.heap.size + 1 + 1 + 1, 0, none⟩)]) rfl trivial (enters_of Tryd.func80 (by kernel_rfl) rfl)
    (encs := encF) (S := fun ys => ys = upF 5) (Sp := fun pre => ∃ k, k ≤ 5 ∧ pre = upF k) (N := 5) (w0 := W0)
    (fun l J Jx W hW _ _ hY h0 => backward1_in Fence.wide (3 - 1) trivial rfl (by omega) l (w.heap.size + 1 + 1 + 1) (w.heap.size + 1 + 1) (w.heap.size + 4) (w.heap.size + 1) (by omega) (by omega) J Jx hY W ((hW.block _ (by omega)).trans bX) ((hW.block _ (by omega)).trans bS) h0)
    KeepM.trans (fun W l o o' _ ho hc _ => KeepM.put W l o o' ho hc) (Below.refl _ _) (fun x => by rw [encF_eq]; rfl)
    (fun pre W => (∃ v, Boxed W (w.heap.size + 1) 51 v ∧ W.ownsRow (w.heap.size + 4) 41 3 v (pitL m pre).length (cells3 (pitL m pre)) ∧ (v = .slice none 0 0 ↔ pitL m pre = [])) ∧ (KeepM (w.heap.size + 4) (w.heap.size + 1) W0 W ∧ Below w.heap.size w W))
    (fun _ _ _ => False)
    (OwnFrom.and (Own.from (holdsRow_own (w.heap.size + 4) (w.heap.size + 1) 51 41 3 (fun pre => (pitL m pre).length) (fun pre => cells3 (pitL m pre)) (fun pre v => v = .slice none 0 0 ↔ pitL m pre = [])) _) (OwnFrom.and (KeepM.own W0) (ownFrom_below (Nat.le_refl _) (by omega))))
    (fun _ _ _ _ _ hs _ _ => hs)
    ⟨⟨_, bO, World.ownsRow_nil _ _ _ _, by simp [pitL]⟩, KeepM.refl _ _ _, hB0⟩
    (fun x => { tmps := #[.int .i64 m, .pointer (some ⟨w.heap.size, 0, none⟩), .slice none 0 0, .pointer (some ⟨w.heap.size + 1, 0, none⟩), undef, .int .i64 (alF x), undef, undef, .slice (some ⟨w.heap.size + 1 + 1, 0, none⟩) 5 5, .func (.func 80) #[] #[.pointer (some ⟨w.heap.size + 1 + 1 + 1, 0, none⟩)], .int .i64 (idF x), .int .i64 (alF x), undef, undef, undef, undef, undef, undef, undef, undef, undef, undef, undef, undef], defers := [] }) ?assign ?body ?done ?stop
  case assign =>
    intro l x W K hK
    simp only [encF_eq]
    gi_wp2
    exact hK
  case body =>
    rintro l pre x W ⟨⟨v, hv, hr, hnil⟩, hK, hB⟩ hlen
    obtain ⟨b0, b1⟩ := alF_bd x
    have hnum : W.cell? ⟨w.heap.size, 0, none⟩ = some (.int .i64 m) := hK.cell' (by omega) (by omega) bN.cell
    have hT : PT W := HT.out.keep hB0 hK (by omega) (by omega)
    have hWs : w.heap.size + 4 ≤ W.heap.size := by
      have := hK (w.heap.size + 1 + 1 + 1) _ (by omega) (by omega) bX rfl
      have := (Array.getElem?_eq_some_iff.1 this).1
      omega
    have hL := pitL_len m pre
    cases hpo : pitOf m (alF x) with
    | none =>
      have HM := Lib.hid (pitL_miss (l := pre) hpo)
      have HP := Lib.hid hpo
      clear hpo
      gi_wp2_with (refine ⟨trivial, ?_⟩; gi_at_call 72; refine (CallsIn.inRound l (callsIn_wide.2 (altered_no m (alF x) _ m0 m1 b0 b1 hT HP.out))).mono ?_; rintro e W1 ⟨rfl, hb⟩)
      refine ⟨((keepsOthers_of_below hb).trans (KeepsOthers.alloc _ _)).from _, (KeepM.below hb).trans (KeepM.below ((Below.refl _ _).alloc (Nat.le_refl _) _)), ?_, (hK.trans (KeepM.below hb)).trans (KeepM.below ((Below.refl _ _).alloc (Nat.le_refl _) _)), Bel.alloc (Bel.up hB hb) _⟩
      rw [HM.out]
      exact ⟨v, (boxUp hv hb).alloc _, (ownUp hr hb).alloc _, hnil⟩
    | some p =>
      have HM := Lib.hid (pitL_hit (l := pre) hpo)
      have HP := Lib.hid hpo
      clear hpo
      gi_wp2_with (first | (refine ⟨trivial, ?_⟩; gi_at_call 72; refine (CallsIn.inRound l (callsIn_wide.2 (altered_some m (alF x) p _ m0 m1 b0 b1 hT HP.out))).mono ?_; rintro e W1 ⟨rfl, hb⟩; have hv1 := (boxUp hv hb).alloc (.cells #[.int .i64 p.1, .int .i64 p.2.1, .int .i64 p.2.2] 41); have hr1 := (ownUp hr hb).alloc (.cells #[.int .i64 p.1, .int .i64 p.2.1, .int .i64 p.2.2] 41); have hcc := hv1.cell; have hsz := hb.size) | (gi_at_builtin; refine wpListIn_append_own _ rfl _ _ 51 rfl (w.heap.size + 4) 41 i0 (.agg #[.int .i64 0, .int .i64 0, .int .i64 0]) 3 24 Tryd.underlying51 hi hz0 hz1 hz2 rfl (by decide) _ _ _ rfl (hr1.alloc _) ⟨W1.heap.size + 1, 0, none⟩ 1 1 [.int .i64 p.1, .int .i64 p.2.1, .int .i64 p.2.2] rfl rfl (cell3_new _ _ _ _ _ _ (by simp)) (by simp [Value.oneCell']) (by unfold maxLen; omega) (by omega) (by simp; omega) ?_; intro v' w2 hown' hgrow _; obtain ⟨g', cap', rfl⟩ := ownsRow_succ hown'; obtain ⟨hv2, hv3, hr3, hk3, hb3⟩ := hv1.appended (by decide) (own_mono hr1 (Nat.le_add_right _ 4)) (by simp; omega) (Nat.le_succ _) (own_mono hown' (Nat.le_add_right _ 4)) hgrow; have hc1 := hv2.cell; have hf1 := hv2.frozen))
      have hk0 : KeepM (w.heap.size + 4) (w.heap.size + 1) W W1 := KeepM.below hb
      have hkA : KeepM (w.heap.size + 4) (w.heap.size + 1) W1 (W1.alloc (.cells #[.int .i64 p.1, .int .i64 p.2.1, .int .i64 p.2.2] 41)) := KeepM.below ((Below.refl _ _).alloc (Nat.le_refl _) _)
      have hkB : KeepM (w.heap.size + 4) (w.heap.size + 1) (W1.alloc (.cells #[.int .i64 p.1, .int .i64 p.2.1, .int .i64 p.2.2] 41)) _ := KeepM.below ((Below.refl _ _).alloc (Nat.le_refl _) (.cells #[.int .i64 p.1, .int .i64 p.2.1, .int .i64 p.2.2] 41))
      have hkC := KeepM.grown (M := w.heap.size + 4) (B := w.heap.size + 1) hgrow (fun r e => .inl (hr1.lt r e).1)
      have hkD := KeepM.grown (M := w.heap.size + 4) (B := w.heap.size + 1) (grownBy_setCell' w2 (w.heap.size + 1) (.slice (some ⟨g', 0, none⟩) ((pitL m pre).length + 1) cap')) (fun r e => by cases e; exact .inr rfl)
      have hkW := (((hk0.trans hkA).trans hkB).trans hkC).trans hkD
      have hbW : Below w.heap.size w (w2.setCell ⟨w.heap.size + 1, 0, none⟩ (.slice (some ⟨g', 0, none⟩) ((pitL m pre).length + 1) cap')) := (Bel.alloc (Bel.up hB hb) _).out.trans hb3
      refine ⟨(((keepsOthers_of_below hb).trans (KeepsOthers.alloc _ _)).trans hk3).from _, hkW, ?_, hK.trans hkW, hbW⟩
      rw [HM.out, List.length_append, cells3_snoc]
      exact ⟨_, hv3, ownsRow_setCell_below hown' (a := ⟨w.heap.size + 1, 0, none⟩) (show w.heap.size + 1 < w.heap.size + 4 by omega) _, by simp⟩
  case done =>
    rintro D ys W hD rfl ⟨⟨v, hv, hr, hnil⟩, hK, hB⟩ hKd
    have hvc := hv.cell
    gi_wp2
    refine ⟨by simp, .inl ⟨_, _, rfl, run_takeDeferred hKd, ?_⟩⟩
    exact ⟨_, results_tmp rfl _ _ _, v, rfl, own_mono (ownsRow_putObj hr _ hKd rfl) (by omega), hnil, hB.trans (belowK_b (w := w) (Nat.le_refl _) W D _ _ (by omega) hKd rfl rfl)⟩
  case stop =>
    rintro D c pre W _ _ h _
    exact h.elim
end Go.Proofs.YtfbogakmhaiddaaDoor
