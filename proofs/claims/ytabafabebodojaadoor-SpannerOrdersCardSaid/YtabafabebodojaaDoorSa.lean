/- Spans: the rules, as functions. -/
import Derived.Test.YtabafabebodojaaDoorProg
namespace Go.Proofs.YtabafabebodojaaDoor
open Go
set_option linter.unusedVariables false
set_option linter.unusedSimpArgs false

structure Pl where
  m : Int
  a : Int
  s : Int
  v : Int
structure Sp where
  k : Int
  f : Pl
  t : Pl
structure Gr where
  k : Int
  s : Int
  v : Int
deriving DecidableEq
def cmpI (x y : Int) : Int := if x < y then -1 else if y < x then 1 else 0
def orF2 (x y : Int) : Int := if x ≠ 0 then x else y
def cmpP (a b : Pl) : Int := orF2 (cmpI a.m b.m) (cmpI a.a b.a)
theorem cmpP_le {a b : Pl} : cmpP a b ≤ 0 ↔ a.m < b.m ∨ a.m = b.m ∧ a.a ≤ b.a := by
  unfold cmpP orF2 cmpI
  repeat' split
  all_goals omega
theorem cmpP_lt {a b : Pl} : cmpP a b < 0 ↔ a.m < b.m ∨ a.m = b.m ∧ a.a < b.a := by
  unfold cmpP orF2 cmpI
  repeat' split
  all_goals omega
theorem cmpP_neg (a b : Pl) : cmpP a b = - cmpP b a := by
  unfold cmpP orF2 cmpI
  repeat' split
  all_goals omega
theorem cmpP_bd (a b : Pl) : -1 ≤ cmpP a b ∧ cmpP a b ≤ 1 := by
  unfold cmpP orF2 cmpI
  repeat' split
  all_goals omega
def ofV (k : Int) : Bool := decide (k = 1) || decide (k = 7)
def isK (k : Int) : Bool := decide (1 ≤ k) && decide (k ≤ 7)
def upTo (n g : Int) : Bool := decide (0 ≤ n) && decide (n ≤ g)
def isP (p : Pl) : Bool := upTo p.m 1023 && upTo p.a 4398046511104 && upTo p.s 127 && upTo p.v 1
/-- the error of a single span -/
def proper (s : Sp) : Int := if isK s.k = false then 11 else if isP s.f = false ∨ isP s.t = false then 2 else if s.f.s ≠ s.t.s ∨ (ofV s.k = true ∧ s.f.v ≠ s.t.v) then 23 else if 0 ≤ cmpP s.f s.t then 25 else 0
def gK (k : Int) : Int := if k = 3 then 2 else if k = 5 then 4 else k
def grp (s : Sp) : Gr := ⟨gK s.k, s.f.s, if ofV s.k then s.f.v else 0⟩
def ovl (a b : Sp) : Bool := decide (0 < cmpP a.t b.f) && decide (0 < cmpP b.t a.f)
def tch (a b : Sp) : Bool := decide (0 ≤ cmpP a.t b.f) && decide (0 ≤ cmpP b.t a.f)
def wth (a b : Sp) : Bool := decide (0 ≤ cmpP a.f b.f) && decide (cmpP a.t b.t ≤ 0)
def ent (a b : Sp) : Bool := ovl a b && (wth a b == wth b a)
/-- the rule of a kind -/
def exc (k : Int) (a b : Sp) : Bool := if k = 1 then ent a b else if k = 4 ∨ k = 5 ∨ k = 7 then tch a b else ovl a b
def cf (a b : Sp) : Bool := isK a.k && (decide (grp a = grp b) && exc a.k a b)
theorem ovl_comm (a b : Sp) : ovl a b = ovl b a := by unfold ovl; rw [Bool.and_comm]
theorem tch_comm (a b : Sp) : tch a b = tch b a := by unfold tch; rw [Bool.and_comm]
theorem ent_comm (a b : Sp) : ent a b = ent b a := by unfold ent; rw [ovl_comm, Bool.beq_comm]
theorem exc_comm (k : Int) (a b : Sp) : exc k a b = exc k b a := by
  unfold exc
  repeat' split
  · exact ent_comm a b
  · exact tch_comm a b
  · exact ovl_comm a b
theorem gK_exc {k l : Int} (hk : isK k = true) (h : gK k = gK l) (a b : Sp) : exc k a b = exc l a b ∧ isK l = true := by
  unfold isK at *
  simp only [Bool.and_eq_true, decide_eq_true_eq] at *
  unfold gK at h
  unfold exc
  repeat' split
  all_goals first | omega | (refine ⟨rfl, ?_⟩; repeat' split at h; all_goals omega)
theorem cf_comm (a b : Sp) : cf a b = cf b a := by
  unfold cf
  by_cases hg : grp a = grp b
  · have hk : gK a.k = gK b.k := congrArg Gr.k hg
    rw [decide_eq_true hg, decide_eq_true hg.symm]
    cases ha : isK a.k
    · cases hb : isK b.k
      · rfl
      · have := (gK_exc hb hk.symm a b).2
        rw [ha] at this; cases this
    · obtain ⟨h1, h2⟩ := gK_exc ha hk a b
      rw [h2, h1, exc_comm]
  · rw [decide_eq_false hg, decide_eq_false (fun h => hg h.symm)]
    simp
/-- the spans of a group among the first n -/
def gl (f : Nat → Sp) : Nat → Gr → List Sp
  | 0, _ => []
  | n + 1, g => gl f n g ++ (if grp (f n) = g then [f n] else [])
theorem gl_len (f : Nat → Sp) : ∀ n g, (gl f n g).length ≤ n
  | 0, _ => Nat.le_refl _
  | n + 1, g => by
    have := gl_len f n g
    unfold gl
    split <;> simp <;> omega
theorem gl_mem (f : Nat → Sp) : ∀ n g x, x ∈ gl f n g ↔ ∃ k, k < n ∧ f k = x ∧ grp (f k) = g
  | 0, g, x => by simp [gl]
  | n + 1, g, x => by
    unfold gl
    rw [List.mem_append, gl_mem f n g x]
    constructor
    · rintro (⟨k, hk, h⟩ | h)
      · exact ⟨k, by omega, h⟩
      · split at h
        · rename_i hg; simp only [List.mem_singleton] at h; exact ⟨n, by omega, h.symm, hg⟩
        · cases h
    · rintro ⟨k, hk, h1, h2⟩
      by_cases e : k = n
      · subst e; right; rw [if_pos h2, h1]; simp
      · exact .inl ⟨k, by omega, h1, h2⟩
/-- whether an earlier span excludes span i -/
def cl (f : Nat → Sp) (i : Nat) : Bool := (gl f i (grp (f i))).any (fun o => exc (f i).k o (f i))
theorem cl_iff (f : Nat → Sp) (i : Nat) (hk : isK (f i).k = true) : cl f i = true ↔ ∃ k, k < i ∧ cf (f i) (f k) = true := by
  unfold cl
  rw [List.any_eq_true]
  constructor
  · rintro ⟨x, hx, he⟩
    obtain ⟨k, hki, rfl, hg⟩ := (gl_mem f i _ x).1 hx
    exact ⟨k, hki, by unfold cf; rw [hk, decide_eq_true hg.symm, exc_comm]; simpa using he⟩
  · rintro ⟨k, hki, h⟩
    unfold cf at h
    simp only [Bool.and_eq_true, decide_eq_true_eq] at h
    exact ⟨f k, (gl_mem f i _ _).2 ⟨k, hki, rfl, h.2.1.symm⟩, by rw [exc_comm]; exact h.2.2⟩
/-- the error of span i -/
def er (f : Nat → Sp) (i : Nat) : Int := if proper (f i) ≠ 0 then proper (f i) else if cl f i = true then 26 else 0
/-- the first one with an error, from i on -/
def fst (f : Nat → Sp) : Nat → Nat → Int × Int
  | 0, _ => (-1, 0)
  | m + 1, i => if er f i ≠ 0 then (i, er f i) else fst f m (i + 1)
def chk (f : Nat → Sp) (n : Nat) : Int × Int := if 4096 < n then (4096, 9) else fst f n 0
theorem fst_ok {f : Nat → Sp} : ∀ m i, (∀ k, i ≤ k → k < i + m → er f k = 0) → fst f m i = (-1, 0)
  | 0, _, _ => rfl
  | m + 1, i, h => by
    unfold fst
    rw [h i (by omega) (by omega), if_neg (by simp)]
    exact fst_ok m (i + 1) (fun k h1 h2 => h k (by omega) (by omega))
theorem fst_bad {f : Nat → Sp} {j : Nat} : ∀ m i, i ≤ j → j < i + m → (∀ k, i ≤ k → k < j → er f k = 0) → er f j ≠ 0 → fst f m i = ((j : Int), er f j)
  | 0, i, h1, h2, _, _ => by omega
  | m + 1, i, h1, h2, h, he => by
    unfold fst
    by_cases e : i = j
    · subst e; rw [if_pos he]
    · rw [h i (by omega) (by omega), if_neg (by simp)]
      exact fst_bad m (i + 1) (by omega) (by omega) (fun k g1 g2 => h k (by omega) g2) he
theorem first_bad (f : Nat → Sp) : ∀ n, (∀ k, k < n → er f k = 0) ∨ ∃ j, j < n ∧ (∀ k, k < j → er f k = 0) ∧ er f j ≠ 0
  | 0 => .inl fun k h => by omega
  | n + 1 => by
    rcases first_bad f n with h | ⟨j, hj, h⟩
    · by_cases e : er f n = 0
      · exact .inl fun k hk => by
          by_cases e2 : k = n
          · rw [e2]; exact e
          · exact h k (by omega)
      · exact .inr ⟨n, by omega, h, e⟩
    · exact .inr ⟨j, by omega, h⟩
end Go.Proofs.YtabafabebodojaaDoor
