/- Spans: Check. -/
import Derived.Test.YtabafabebodojaaDoorQg
import Derived.Test.YtabafabebodojaaDoorSf
import Derived.Maps.AppendAt
import Derived.Maps.Own
import Derived.Maps.OwnOps
namespace Go.Proofs.YtabafabebodojaaDoor
open Go Go.RowKit Go.MapKept
open Go.Maps (Keyed)
set_option linter.unusedVariables false
set_option linter.unusedSimpArgs false

theorem rules_at (w : World) : Calls Tryd.prog 47 #[] w fun e w' => e = .returned (.agg #[.nilFunc, .func (.func 60) #[] #[], .func (.func 61) #[] #[], .func (.func 61) #[] #[], .func (.func 62) #[] #[], .func (.func 62) #[] #[], .func (.func 61) #[] #[], .func (.func 62) #[] #[]]) ∧ Below w.heap.size w w' := rules_ok w
theorem infoS : (Tryd.prog.info? 31).map (fun i => (i.zero, i.size, i.bytes)) = some (some (.agg #[.int .i64 0, .int .i64 0, .int .i64 0, .int .i64 0, .int .i64 0, .int .i64 0, .int .i64 0, .int .i64 0, .int .i64 0]), 9, 72) := by kernel_rfl
theorem zeroF (w : World) : (zeroValue 39).run Tryd.prog w = .ok .nilFunc w := by kernel_rfl
theorem gl_next (f : Nat → Sp) (k : Nat) (g : Gr) : gl f (k + 1) g = if g = grp (f k) then gl f k (grp (f k)) ++ [f k] else gl f k g := by
  by_cases h : g = grp (f k)
  · subst h; simp [gl]
  · rw [if_neg h]
    have : ¬ grp (f k) = g := fun e => h e.symm
    simp [gl, this]
theorem wpList_entry {P : Program} {w w2 : World} {ops : Array Oper} {rest : List Oper} {o : Oper} {a : Act} {Q : Exit → Act → World → Prop} (hg : o.guard = none) (t : TypeId) (m st v : Operand) (ho : o.op = .entryStore t m st v)
    (hrun : (Instr.entryStore t (a.eval m) (a.eval st) (a.eval v)).run P w = .ok () w2) (h : wpList P ops Q rest (a.put o.dst undef) w2) : wpList P ops Q (o :: rest) a w := by
  refine wpList_plain hg fun K hK => ?_
  unfold Oper.wp execOp
  simp only [ho, Sem.run_bind, hrun, Result.andThen_ok, Sem.run_pure]
  exact hK _ _ h
theorem Gs.entry2 {w : World} {base b : Nat} {G : Gr → List Sp} (h : GsP w base b G) {g : Gr} (hg : okG g) :
    ∃ (v : Value) (born : Int) (w5 : World), (Instr.mapEntry 86 (.map (some b)) (.agg #[.int .i64 g.k, .int .i64 g.s, .int .i64 g.v])).run Tryd.prog w = .ok (.tuple #[v, .int .i64 born]) w5 ∧ w.grownBy w5 (some b) ∧ w5.ownsRow base 31 9 v (G g).length ((G g).flatMap spc) ∧
      ∀ (w1 : World) (v' : Value) (L : List Sp), w5.grownBy w1 v.ownBlock → w1.ownsRow base 31 9 v' L.length (L.flatMap spc) → (v'.ownBlock = v.ownBlock ∨ v'.ownBlock = some w5.heap.size) →
        ∃ w2, (Instr.entryStore 86 (.map (some b)) (.int .i64 born) v').run Tryd.prog w1 = .ok () w2 ∧ GsP w2 base b (fun g' => if g' = g then L else G g') ∧ w1.grownBy w2 (some b) := by
  obtain ⟨es, clock, j, e1, h1, h2, h3, h4, h5, h6⟩ := h.entry lawG key_g gv_inj Tryd.underlying86 zeroSl hg
  exact ⟨e1.val, e1.born, _, h1, h2, h6, fun w1 v' L h7 h8 h9 => h3.back gv_inj h4 h5 hg h7 h8 (h9.imp id (fun h => ⟨_, h, Nat.le_refl _⟩))⟩
theorem Gs.look2 {w : World} {base b : Nat} {G : Gr → List Sp} (h : GsP w base b G) {g : Gr} (hg : okG g) :
    ∃ ad cap, (Instr.lookup 86 (.map (some b)) (.agg #[.int .i64 g.k, .int .i64 g.s, .int .i64 g.v]) false).run Tryd.prog w = .ok (.slice ad (G g).length cap) w ∧ SpAt w ad (G g).length (fun k => (G g).getD k sp0) := by
  obtain ⟨v, h1, h2⟩ := h.look lawG key_g gv_inj Tryd.underlying86 zeroSl hg
  obtain ⟨ad, cap, rfl, h3⟩ := SpAt.of_row h2
  exact ⟨ad, cap, h1, h3⟩
theorem Tri.of_range {w : World} {b : Nat} {x y z : Value} (hl : b < w.heap.size) (h : w.rangeAt b 0 [x, y, z]) (ht : w.there b 0 3) : Tri w b x y z := by
  have a0 := h 0 x rfl
  have a1 := h 1 y rfl
  have a2 := h 2 z rfl
  have b0 := (ht 0 (by omega)).2
  have b1 := (ht 1 (by omega)).2
  have b2 := (ht 2 (by omega)).2
  simp only [Nat.zero_add] at *
  exact ⟨hl, a0, a1, a2, b0, b1, b2⟩
theorem Uno.of_range {w : World} {b : Nat} {x : Value} (hl : b < w.heap.size) (h : w.rangeAt b 0 [x]) (ht : w.there b 0 1) : Uno w b x := by
  have a0 := h 0 x rfl
  have b0 := (ht 0 (by omega)).2
  simp only [Nat.zero_add] at *
  exact ⟨hl, a0, b0⟩
theorem cellS_new (w w5 : World) (s : Sp) (b : Nat) (hg : (w.alloc (.cells #[.int .i64 s.k, .int .i64 s.f.m, .int .i64 s.f.a, .int .i64 s.f.s, .int .i64 s.f.v, .int .i64 s.t.m, .int .i64 s.t.a, .int .i64 s.t.s, .int .i64 s.t.v] 31)).grownBy w5 (some b)) (hb : b < w.heap.size) : ∀ j u, (spc s)[j]? = some u → w5.cell? ((⟨w.heap.size, 0, none⟩ : Addr).add j) = some u := fun j u hj => by
  rw [Addr.add_mid]
  have hne : some w.heap.size ≠ some b := fun e => by cases e; omega
  refine hg.cell ?_ hne
  have := tab_new w #[.int .i64 s.k, .int .i64 s.f.m, .int .i64 s.f.a, .int .i64 s.f.s, .int .i64 s.f.v, .int .i64 s.t.m, .int .i64 s.t.a, .int .i64 s.t.s, .int .i64 s.t.v] 31 w.heap.size rfl j u (by simpa [spc] using hj)
  simpa using this
set_option maxRecDepth 100000 in
set_option maxHeartbeats 8000000 in
theorem check_ok (n cap : Nat) (ad : Option Addr) (f : Nat → Sp) (r1 r2 : Int) (w : World) (hn : n ≤ 4096) (h : SpAt w ad n f) (hr : fst f n 0 = (r1, r2)) :
    Calls Tryd.prog 22 #[.slice ad n cap] w fun e w' => e = .returned (.tuple #[.int .i64 r1, .int .i64 r2]) ∧ Below w.heap.size w w' := by
  have HR := Lib.hid h
  have HX := Lib.hid hr
  clear h hr
  have hmm := @run_makeMap Tryd.prog
  have h5 : decide (4096 < (n : Int)) = false := decide_eq_false (by omega)
  go_enter Tryd.func22, Tryd.ntmps22
  go_wp2_with fail
  clear hmm
  go_loopg [16] n (fun gm i wr => ∃ k : Nat, k ≤ n ∧ gm = n - k ∧ i = .int .i64 (k : Int) ∧ Hid (∀ j, j < k → er f j = 0) ∧ Hid (Bel w wr) ∧ w.heap.size < wr.heap.size ∧ Hid (GsP wr (w.heap.size + 1) w.heap.size (gl f k)))
  case atStart => exact ⟨0, by omega, by omega, rfl, Lib.hid (fun j hj => absurd hj (by omega)), Lib.hid ((Bel.refl w).alloc _), by simp, Lib.hid (Gs_made w _ (by omega))⟩
  case round =>
    obtain ⟨k, hk, rfl, rfl, HN, HB, hwz, HG⟩ := hrel
    by_cases hlt : k < n
    · obtain ⟨b, off, rfl, q0, q1, q2, q3, q4, q5, q6, q7, q8⟩ := (HR.out.up HB.out.out) k hlt
      have B0 := Lib.hid (HB.out.alloc (.cells #[.int .i64 (f k).k, .int .i64 (f k).f.m, .int .i64 (f k).f.a, .int .i64 (f k).f.s, .int .i64 (f k).f.v, .int .i64 (f k).t.m, .int .i64 (f k).t.a, .int .i64 (f k).t.s, .int .i64 (f k).t.v] 31))
      have S0 := Non.new wr (.int .i64 (f k).k) (.int .i64 (f k).f.m) (.int .i64 (f k).f.a) (.int .i64 (f k).f.s) (.int .i64 (f k).f.v) (.int .i64 (f k).t.m) (.int .i64 (f k).t.a) (.int .i64 (f k).t.s) (.int .i64 (f k).t.v) 31 wr.heap.size rfl
      have G0 := Lib.hid (HG.out.below ((Below.refl _ wr).alloc (Nat.le_refl _) (.cells #[.int .i64 (f k).k, .int .i64 (f k).f.m, .int .i64 (f k).f.a, .int .i64 (f k).f.s, .int .i64 (f k).f.v, .int .i64 (f k).t.m, .int .i64 (f k).t.a, .int .i64 (f k).t.s, .int .i64 (f k).t.v] 31)))
      clear HB HG
      obtain ⟨sf0, sf1, sf2, sf3, sf4, sf5, sf6, sf7, sf8, sf9, sf10, sf11, sf12, sf13, sf14, sf15, sf16, sf17, sf18⟩ := id S0
      by_cases hp : proper (f k) = 0
      · have HP := Lib.hid hp
        clear hp
        go_wp2_with fail
        refine (proper_at (f k) 0 _ HP.out).mono ?_
        rintro e w1 ⟨rfl, hb⟩
        have B1 := Lib.hid (B0.out.up hb)
        have S1 := S0.up hb
        have G1 := Lib.hid (G0.out.below hb)
        have hz1 : wr.heap.size < w1.heap.size := by have := hb.size; simp at this; omega
        clear hb B0 S0 G0 q0 q1 q2 q3 q4 q5 q6 q7 q8 sf0 sf1 sf2 sf3 sf4 sf5 sf6 sf7 sf8 sf9 sf10 sf11 sf12 sf13 sf14 sf15 sf16 sf17 sf18
        go_wp2_with fail
        obtain ⟨g, hg⟩ : ∃ g, grp (f k) = g := ⟨_, rfl⟩
        have hgo : okG g := by rw [← hg]; exact (ok_grp HP.out).1
        have HI := idx_rules (f k).k (ok_grp HP.out).2
        have HGR := Lib.hid hg
        have HGO := Lib.hid hgo
        clear hg hgo
        refine Qf.freshV 6 2 [.agg #[.int .i64 (f k).k, .int .i64 (f k).f.m, .int .i64 (f k).f.a, .int .i64 (f k).f.s, .int .i64 (f k).f.v, .int .i64 (f k).t.m, .int .i64 (f k).t.a, .int .i64 (f k).t.s, .int .i64 (f k).t.v], .agg #[.int .i64 g.k, .int .i64 g.s, .int .i64 g.v], .agg #[.nilFunc, .func (.func 60) #[] #[], .func (.func 61) #[] #[], .func (.func 61) #[] #[], .func (.func 62) #[] #[], .func (.func 62) #[] #[], .func (.func 61) #[] #[], .func (.func 62) #[] #[]], .pointer (some ⟨wr.heap.size, 0, none⟩), .int .i64 (f k).k, .func (.func (rid (f k).k)) #[] #[]] [(8, [.int .i64 g.k, .int .i64 g.s, .int .i64 g.v]), (9, [.func (.func (rid (f k).k)) #[] #[]])] (by kernel_rfl) (by kernel_rfl) rfl (by rfl) ?hwalk ?hal ?hst ?fin
        case hwalk =>
          intro T f_ F hne
          have RS := fun t => S1.up (F.below t)
          have RS0 := fun t => (RS t).c0
          have RS1 := fun t => (RS t).c1
          have RS2 := fun t => (RS t).c2
          have RS3 := fun t => (RS t).c3
          have RS4 := fun t => (RS t).c4
          have RS5 := fun t => (RS t).c5
          have RS6 := fun t => (RS t).c6
          have RS7 := fun t => (RS t).c7
          have RS8 := fun t => (RS t).c8

          simp only [List.take_succ_cons, List.take_zero]
          repeat (go_big_quiet_step (first | (go_at_call 46; with_reducible exact F.call (groupOf_at (f k) g _ HGR.out)) | (go_at_call 47; with_reducible exact F.call (rules_at _))))
          refine wpQuiet_nil ?_
          rfl
        case hal =>
          intro j x hx o ho
          rcases j with _ | _ | j
          · obtain rfl := Option.some.inj hx
            obtain rfl := Option.some.inj ho
            exact ⟨rfl, fun a u => ⟨[.int .i64 0, .int .i64 0, .int .i64 0], 82, rfl, exec_alloc rfl allocG a u⟩⟩
          · obtain rfl := Option.some.inj hx
            obtain rfl := Option.some.inj ho
            exact ⟨rfl, fun a u => ⟨[.nilFunc], 39, rfl, exec_alloc rfl allocF a u⟩⟩
          · cases hx
        case hst =>
          intro j x hx o ho a u c hc hl ht
          rcases j with _ | _ | j
          · obtain rfl := Option.some.inj hx
            obtain rfl := Option.some.inj ho
            exact exec_store rfl hc (hl 28 (of_decide_eq_true (by kernel_rfl)) (show (28 : Nat) ≠ 8 from by decide)) ht infoG1 (by simp [Value.oneCell'])
          · obtain rfl := Option.some.inj hx
            obtain rfl := Option.some.inj ho
            exact exec_storeF rfl hc (hl 32 (of_decide_eq_true (by kernel_rfl)) (show (32 : Nat) ≠ 9 from by decide)) ht infoF1
          · cases hx
        case fin =>
          intro B w2 hb hB hne
          obtain ⟨c1, c2, c3, c4⟩ := hB 0 _ rfl
          obtain ⟨d1, d2, d3, d4⟩ := hB 1 _ rfl
          have X2 := Tri.of_range c2 c3 c4
          have E2 := Uno.of_range d2 d3 d4
          have B2 := Lib.hid (B1.out.up hb)
          have S2 := S1.up hb
          have G2 := Lib.hid (G1.out.below hb)
          have hz2 : wr.heap.size < w2.heap.size := by have := hb.size; omega
          simp only [Qf.putFr, Qf.putAll, List.take_succ_cons, List.take_zero, Act.put, List.setIfInBounds_toArray, List.set_cons_succ, List.set_cons_zero]
          clear hB hb c3 c4 d3 d4 hne B1 S1 G1 HI
          generalize B 0 = bg at *
          generalize B 1 = be at *
          clear B
          obtain ⟨ad2, cap2, hlk, hSp⟩ := G2.out.look2 HGO.out
          obtain ⟨r, hr⟩ : ∃ r, cl f k = r := ⟨_, rfl⟩
          have HCR := Lib.hid (show anyN (fun j => exc (f k).k ((gl f k g).getD j sp0) (f k)) (gl f k g).length = r from by
            rw [anyN_list (fun o => exc (f k).k o (f k)), ← hr]; unfold cl; rw [HGR.out])
          have HSp := Lib.hid hSp
          have HCL := Lib.hid hr
          have hgl : (gl f k g).length ≤ 4096 := by have := gl_len f k g; omega
          clear hSp hr
          obtain ⟨xf0, xf1, xf2, xf3, xf4, xf5, xf6⟩ := id X2
          go_wp2_with fail
          refine (contains_at (f k).k (f k) be wr.heap.size (gl f k g).length cap2 ad2 _ r _ (by omega) E2 S2 HSp.out HCR.out).mono ?_
          rintro e w3 ⟨rfl, hb⟩
          have B3 := Lib.hid (B2.out.up hb)
          have S3 := S2.up hb
          have G3 := Lib.hid (G2.out.below hb)
          have X3 := X2.up hb
          have hz3 : wr.heap.size < w3.heap.size := by have := hb.size; omega
          clear hb B2 S2 G2 X2 E2 HSp HCR hlk xf0 xf1 xf2 xf3 xf4 xf5 xf6 d2 c2 c1 d1 hz2 hz1
          cases r
          · have B4 := Lib.hid (B3.out.alloc (.cells #[.int .i64 (f k).k, .int .i64 (f k).f.m, .int .i64 (f k).f.a, .int .i64 (f k).f.s, .int .i64 (f k).f.v, .int .i64 (f k).t.m, .int .i64 (f k).t.a, .int .i64 (f k).t.s, .int .i64 (f k).t.v] 31))
            have G4 := Lib.hid (G3.out.below ((Below.refl _ w3).alloc (Nat.le_refl _) (.cells #[.int .i64 (f k).k, .int .i64 (f k).f.m, .int .i64 (f k).f.a, .int .i64 (f k).f.s, .int .i64 (f k).f.v, .int .i64 (f k).t.m, .int .i64 (f k).t.a, .int .i64 (f k).t.s, .int .i64 (f k).t.v] 31)))
            obtain ⟨v5, born, w5, hrun5, hg5, hown5, hback⟩ := G4.out.entry2 HGO.out
            have HBK := Lib.hid hback
            have hz5 : w3.heap.size < w5.heap.size := by have := hg5.size; simp at this; omega
            have HCN := Lib.hid (cellS_new w3 w5 (f k) _ hg5 (by omega))
            have B5 := Lib.hid (show Bel w w5 from Below.grown B4.out.out hg5 (by simp; omega) (fun j hj => by cases hj; exact Nat.le_refl _))
            have HG5 := Lib.hid hg5
            obtain ⟨i0, hi, hz0, hz1, hz2⟩ := info_parts infoS
            obtain ⟨xf0, xf1, xf2, xf3, xf4, xf5, xf6⟩ := id X3
            obtain ⟨sf0, sf1, sf2, sf3, sf4, sf5, sf6, sf7, sf8, sf9, sf10, sf11, sf12, sf13, sf14, sf15, sf16, sf17, sf18⟩ := id S3
            clear hback hg5 B3 G3 B4 G4
            go_wp2_with (first
              | (at_builtin
                 refine wpList_append_own_at _ rfl _ _ 43 rfl (w.heap.size + 1) 31 i0 (.agg #[.int .i64 0, .int .i64 0, .int .i64 0, .int .i64 0, .int .i64 0, .int .i64 0, .int .i64 0, .int .i64 0, .int .i64 0]) 9 72 Tryd.underlying43 hi hz0 hz1 hz2 rfl (by decide) _ _ _ rfl hown5 ⟨_, 0, none⟩ 1 1 (spc (f k)) rfl rfl HCN.out (by simp [Value.oneCell', spc]) (by unfold maxLen; omega) (by omega) (by omega) ?_
                 intro v6 w6 hown6 hgrow6 _ hat6
                 have hown6' : w6.ownsRow (w.heap.size + 1) 31 9 v6 (gl f k g ++ [f k]).length ((gl f k g ++ [f k]).flatMap spc) := by
                   have : (gl f k g ++ [f k]).flatMap spc = (gl f k g).flatMap spc ++ spc (f k) := by simp
                   rw [this, List.length_append]
                   exact hown6
                 obtain ⟨w7, hrun7, hG7, hg7⟩ := HBK.out w6 v6 _ hgrow6 hown6' hat6
                 have HR7 := Lib.hid hrun7
                 have B7 := Lib.hid (show Bel w w7 from (B5.out.out.grown hgrow6 (by omega) (fun j hj => by have := (hown5.lt j hj).1; omega)).grown hg7 (by have := hgrow6.size; omega) (fun j hj => by cases hj; exact Nat.le_refl _))
                 have G7 := Lib.hid (show GsP w7 (w.heap.size + 1) w.heap.size (gl f (k + 1)) from by
                   have e : gl f (k + 1) = fun g' => if g' = g then gl f k g ++ [f k] else gl f k g' := funext fun g' => by rw [gl_next, HGR.out]
                   rw [e]; exact hG7)
                 have hz7 : w.heap.size < w7.heap.size := by have h1 := hgrow6.size; have h2 := hg7.size; omega
                 have hN : er f k = 0 := by unfold er; rw [if_neg (by rw [HP.out]; omega), if_neg (by rw [HCL.out]; simp)]
                 have HN7 := Lib.hid hN
                 clear hN hrun7 hown6 hown6' hgrow6 hat6 hg7 hG7 HBK hown5 B5 HCN HG5 hrun5 hi hz0 hz1 hz2)
              | (fail))
            rw [HR7.out, Result.andThen_ok]
            go_wp2_with fail
            go_roundg (n - (k + 1))
            case measure => omega
            case rel => exact ⟨k + 1, by omega, rfl, by go_num, Lib.hid (fun j hj => by
                by_cases e : j = k
                · subst e; exact HN7.out
                · exact HN.out j (by omega)), B7, hz7, G7⟩
          · have hX : fst f n 0 = ((k : Int), 26) := by
              have he : er f k = 26 := by unfold er; rw [if_neg (by rw [HP.out]; omega), if_pos HCL.out]
              rw [fst_bad (j := k) n 0 (by omega) (by omega) (fun j _ hj => HN.out j hj) (by rw [he]; omega), he]
            rw [HX.out] at hX
            obtain ⟨rfl, rfl⟩ := Prod.mk.inj hX
            clear hX
            go_wp2_with fail
            go_ret2
            exact ⟨rfl, B3.out.out⟩
      · obtain ⟨r, hr⟩ : ∃ r, proper (f k) = r := ⟨_, rfl⟩
        have hr0 : (r != 0) = true := by rw [← hr]; simpa using hp
        have hX : fst f n 0 = ((k : Int), r) := by
          have he : er f k = r := by unfold er; rw [if_pos hp, hr]
          rw [fst_bad (j := k) n 0 (by omega) (by omega) (fun j _ hj => HN.out j hj) (by rw [he, ← hr]; exact hp), he]
        rw [HX.out] at hX
        obtain ⟨rfl, rfl⟩ := Prod.mk.inj hX
        have HP := Lib.hid hr
        clear hp hr hX
        go_wp2_with fail
        refine (proper_at (f k) _ _ HP.out).mono ?_
        rintro e w1 ⟨rfl, hb⟩
        have B1 := Lib.hid (B0.out.up hb)
        clear hb B0 S0 G0
        go_wp2_with fail
        go_ret2
        exact ⟨rfl, B1.out.out⟩
    · obtain rfl : n = k := by omega
      have hX := fst_ok (f := f) n 0 (fun j _ hj => HN.out j (by omega))
      rw [HX.out] at hX
      obtain ⟨rfl, rfl⟩ := Prod.mk.inj hX
      clear hX
      go_wp2_with fail
      go_ret2
      exact ⟨rfl, HB.out.out⟩
end Go.Proofs.YtabafabebodojaaDoor
