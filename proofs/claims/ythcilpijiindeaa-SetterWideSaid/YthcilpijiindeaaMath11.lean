/-
  What the best breaks are, over all breaks that may be; no program is mentioned here.
-/
import Derived.Test.YthcilpijiindeaaWaysM12
set_option linter.unusedVariables false
set_option linter.unusedSimpArgs false
namespace Go.Proofs.Ythcilpijiindeaa
open Go.RowKit

theorem total_empty {l : List It.Itm} (h : l.length = 0) (bs : List Int) (t tol : Int) : It.total l bs t tol = none := by
  cases e : It.total l bs t tol with
  | none => rfl
  | some x =>
    obtain ⟨h1, y, h2, _⟩ := It.total_some e
    cases bs with
    | nil => simp at h1
    | cons b r =>
      simp only [It.goS] at h2
      cases ec : It.costOf l (-1) b t tol with
      | none => rw [ec] at h2; cases h2
      | some dc =>
        obtain ⟨d, c⟩ := dc
        have := It.costOf_lt ec
        omega
/-- no breaks are told: none may be -/
theorem best_none {l : List It.Itm} (hm : It.may l = true) {t tol : Int} (h : bestW l t tol = none) (bs : List Int) : It.total l bs t tol = none := by
  by_cases h0 : 0 < l.length
  · unfold bestW at h
    rw [if_pos ⟨hm, h0⟩] at h
    rw [It.total_run hm h0]
    exact (It.way_best l t tol l.length 0 2 (by omega)).1 h bs
  · exact total_empty (by omega) bs t tol
/-- breaks are told: what they cost, and that none are less bad, nor as bad with an earlier first unlike one -/
theorem best_some {l : List It.Itm} {t tol : Int} {x : Int × Int × List Int} (h : bestW l t tol = some x) : It.may l = true ∧ 0 < l.length ∧ It.run l t tol (-1) 2 x.2.2 = some x.1 ∧ It.total l x.2.2 t tol = some x.1 ∧ ∀ cs y, It.total l cs t tol = some y → x.1 ≤ y ∧ (x.1 = y → It.aheadL cs x.2.2 = false) := by
  unfold bestW at h
  split at h
  · rename_i hc
    obtain ⟨h1, h2⟩ := (It.way_best l t tol l.length 0 2 (by omega)).2 x h
    refine ⟨hc.1, hc.2, h1, by rw [It.total_run hc.1 hc.2]; exact h1, fun cs y hy => ?_⟩
    rw [It.total_run hc.1 hc.2] at hy
    exact h2 cs y hy
  · cases h
theorem run_ne {l : List It.Itm} {t tol a q y : Int} {bs : List Int} (ha : a < (l.length : Int) - 1) (h : It.run l t tol a q bs = some y) : bs ≠ [] := by
  intro e
  subst e
  simp only [It.run] at h
  rw [if_neg (by omega)] at h
  cases h
theorem run_cons {l : List It.Itm} {t tol a q y b : Int} {r : List Int} (h : It.run l t tol a q (b :: r) = some y) : ∃ d c y', It.costOf l a b t tol = some (d, c) ∧ It.run l t tol b c r = some y' ∧ -1 ≤ a ∧ a < b ∧ 0 ≤ b ∧ b < l.length ∧ It.legal l b = true := by
  simp only [It.run] at h
  cases e : It.costOf l a b t tol with
  | none => rw [e] at h; cases h
  | some dc =>
    obtain ⟨d, c⟩ := dc
    rw [e] at h
    simp only [] at h
    cases e2 : It.run l t tol b c r with
    | none => rw [e2] at h; cases h
    | some y' =>
      obtain ⟨S, h1, _⟩ := It.costOf_some e
      obtain ⟨h2, _⟩ := It.lineOf_some h1
      obtain ⟨h3, h4, h5, h6, h7, _⟩ := It.isLine_lt h2
      exact ⟨d, c, y', rfl, e2, h3, h4, h5, h6, h7⟩
theorem run_end {l : List It.Itm} {t tol a q y : Int} (h : It.run l t tol a q [] = some y) : a = (l.length : Int) - 1 := by
  simp only [It.run] at h
  split at h
  · assumption
  · cases h
/-- a higher tolerance: the same breaks, the same demerits -/
theorem run_more {l : List It.Itm} {t tol : Int} : ∀ {bs : List Int} {a q y : Int}, It.run l t tol a q bs = some y → It.run l t 10000 a q bs = some y
  | [], a, q, y, h => h
  | b :: r, a, q, y, h => by
    obtain ⟨d, c, y', h1, h2, _⟩ := run_cons h
    simp only [It.run] at h ⊢
    rw [h1] at h
    rw [(It.costOf_more h1).1]
    simp only [] at h ⊢
    rw [h2] at h
    rw [run_more h2]
    exact h
/-- each forced break is one of the breaks -/
theorem run_forced {l : List It.Itm} {t tol : Int} : ∀ {bs : List Int} {a q y : Int}, It.run l t tol a q bs = some y → ∀ (i : Nat) (x : It.Itm), a < i → l[i]? = some x → It.forced x = true → (i : Int) ∈ bs
  | [], a, q, y, h, i, x, hi, hx, hf => by
    have := run_end h
    have := (List.getElem?_eq_some_iff.1 hx).1
    omega
  | b :: r, a, q, y, h, i, x, hi, hx, hf => by
    obtain ⟨d, c, y', h1, h2, h3, h4, h5, h6, h7⟩ := run_cons h
    by_cases hib : (i : Int) ≤ b
    · by_cases he : (i : Int) = b
      · rw [he]; exact List.mem_cons_self
      · exfalso
        obtain ⟨s, hs⟩ : ∃ s : Nat, a + 1 = (s : Int) := ⟨(a + 1).toNat, by omega⟩
        obtain ⟨bn, rfl⟩ : ∃ bn : Nat, b = (bn : Int) := ⟨b.toNat, by omega⟩
        rw [It.cost_forced hs hx hf (by omega) (by omega) t tol] at h1
        cases h1
    · exact List.mem_cons_of_mem _ (run_forced h2 i x (by omega) hx hf)
end Go.Proofs.Ythcilpijiindeaa
