/- Tuplets: what inserting does. -/
import Derived.Test.YtidggmfgbcmklaaTsu
namespace Go.Proofs.Ytidggmfgbcmklaa
open Go.RowKit
set_option linter.unusedVariables false
set_option linter.unusedSimpArgs false

/-- a tuplet after some events were inserted -/
def insT (p c : Int) (t : Tp) : Tp := if p ≤ t.F then ⟨t.F + c, t.C, t.A, t.N⟩ else if p < t.F + t.C then ⟨t.F, t.C + c, t.A, t.N⟩ else t
def insF (f : Nat → Tp) (p c : Int) : Nat → Tp := fun k => insT p c (f k)
theorem insT_F (p c : Int) (t : Tp) : (insT p c t).F = if p ≤ t.F then t.F + c else t.F := by
  unfold insT
  split
  · rfl
  · split <;> rfl
theorem insT_e (p c : Int) (t : Tp) (h : 1 ≤ t.C) : (insT p c t).e = if p < t.e then t.e + c else t.e := by
  unfold insT Tp.e
  by_cases h1 : p ≤ t.F
  · rw [if_pos h1, if_pos (by omega)]; simp only; omega
  · rw [if_neg h1]
    by_cases h2 : p < t.F + t.C
    · rw [if_pos h2, if_pos h2]; simp only; omega
    · rw [if_neg h2, if_neg h2]
theorem insT_r (p c : Int) (t : Tp) : (insT p c t).A = t.A ∧ (insT p c t).N = t.N := by
  unfold insT
  split
  · exact ⟨rfl, rfl⟩
  · split <;> exact ⟨rfl, rfl⟩
theorem ins_chk {f : Nat → Tp} {n : Nat} {ev p c : Int} (h : chk f n ev = 0) (p0 : 0 ≤ p) (p1 : p ≤ ev) (c0 : 0 ≤ c) (c1 : c ≤ 128 - ev) : chk (insF f p c) n (ev + c) = 0 := by
  obtain ⟨e0, e1, hn, hg⟩ := chk_zero h
  have hC : ∀ j, j < n → 1 ≤ (f j).C := fun j hj => (hg.parts hj).1.1
  have hF : ∀ j, (insF f p c j).F = if p ≤ (f j).F then (f j).F + c else (f j).F := fun j => insT_F p c (f j)
  have hE : ∀ j, j < n → (insF f p c j).e = if p < (f j).e then (f j).e + c else (f j).e := fun j hj => insT_e p c (f j) (hC j hj)
  refine chk_ok (by omega) (by omega) (fun i hi => ?_)
  have hp := hg.parts hi
  have hr := hp.1
  unfold Tp.inR at hr
  have hFi := hF i
  have hEi := hE i hi
  obtain ⟨hA, hN⟩ := insT_r p c (f i)
  have hA' : (insF f p c i).A = (f i).A := hA
  have hN' : (insF f p c i).N = (f i).N := hN
  have hin : (insF f p c i).inR (ev + c) := by
    unfold Tp.inR
    rw [hA', hN']
    have : (insF f p c i).e = (insF f p c i).F + (insF f p c i).C := rfl
    have hfe : (f i).e = (f i).F + (f i).C := rfl
    split at hFi <;> split at hEi <;> omega
  have hnot : ¬ (0 < i ∧ (insF f p c i).after (insF f p c (i - 1))) := by
    rintro ⟨h0, ha⟩
    have hb := hg.sorted (show i - 1 ≤ i by omega) hi
    have hF2 := hF (i - 1)
    have hE2 := hE (i - 1) (by omega)
    have d1 : (insF f p c i).e = (insF f p c i).F + (insF f p c i).C := rfl
    have d2 : (insF f p c (i - 1)).e = (insF f p c (i - 1)).F + (insF f p c (i - 1)).C := rfl
    have d3 : (f i).e = (f i).F + (f i).C := rfl
    have d4 : (f (i - 1)).e = (f (i - 1)).F + (f (i - 1)).C := rfl
    have hC2 := hC (i - 1) (by omega)
    unfold Tp.after at ha hb
    split at hFi <;> split at hEi <;> split at hF2 <;> split at hE2 <;> omega
  have hopn : opn (insF f p c) i = opn f i := by
    unfold opn
    refine List.filter_congr (fun j hj => decide_eq_decide.2 ?_)
    have hj := List.mem_range.1 hj
    rw [hF i, hE j (by omega)]
    have hCj := hC j (by omega)
    split <;> split <;> omega
  have hok : okP (insF f p c) i := by
    unfold okP
    rw [hopn]
    refine ⟨hp.2.2.1, fun k hk => ?_⟩
    have hle := hp.2.2.2 k hk
    have hki := (mem_opn.1 hk).1
    rw [hE i hi, hE k (by omega)]
    split <;> split <;> omega
  unfold err1
  rw [if_neg (fun g => g hin), if_neg hnot, if_neg (fun g => g hok)]
end Go.Proofs.Ytidggmfgbcmklaa
