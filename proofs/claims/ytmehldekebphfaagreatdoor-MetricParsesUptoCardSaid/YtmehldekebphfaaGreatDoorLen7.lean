/-
  How long a table's text is; which codes a text that is no table's has. Plain mathematics.
-/
import Derived.Test.YtmehldekebphfaaGreatDoorCalls7
set_option linter.unusedVariables false
set_option linter.unusedSimpArgs false
namespace Go.Proofs.YtmehldekebphfaaGreatDoor.Mt
open Go.Lib Go.Proofs.YtmehldekebphfaaGreatDoor

theorem text_len {l : Ln} (h : lnOk l) : (text l).length ≤ 110 := by
  have p : ∀ n, (Sc.print n).length ≤ 26 := Sc.print_len
  cases l with
  | space a b c =>
    have := p a; have := p b; have := p c
    simp only [text, wordsOf, join, List.length_append, List.length_cons, spaceW, List.length_nil]; omega
  | hyphen c =>
    have := h.2.1
    simp only [text, wordsOf, join, List.length_append, List.length_cons, hyphenW, List.length_nil]; omega
  | char c w hh d =>
    have := h.1.2.1; have := p w; have := p hh; have := p d
    simp only [text, wordsOf, join, List.length_append, List.length_cons, charW, List.length_nil]; omega
  | kern a b w =>
    have := h.1.2.1; have := h.2.1.2.1; have := p w
    simp only [text, wordsOf, join, List.length_append, List.length_cons, kernW, List.length_nil]; omega
  | lig a b t =>
    have := h.1.2.1; have := h.2.1.2.1; have := h.2.2.2.1
    simp only [text, wordsOf, join, List.length_append, List.length_cons, ligW, List.length_nil]; omega
theorem body_len : ∀ (ls : List Ln), (∀ l ∈ ls, lnOk l) → (body ls).length ≤ 111 * ls.length
  | [], _ => by simp [body]
  | l :: r, h => by
    have h1 := text_len (h l (List.mem_cons_self ..))
    have h2 := body_len r (fun x hx => h x (List.mem_cons_of_mem _ hx))
    have e : body (l :: r) = text l ++ [10] ++ body r := by simp [body]
    rw [e]
    simp only [List.length_append, List.length_cons, List.length_nil]
    omega
theorem print_small (m : Tab) : (print m).length ≤ 1048576 := by
  unfold print
  by_cases h : may m = true
  · rw [if_pos h]
    have h1 := body_len (lines m) (lines_ok h)
    obtain ⟨⟨h2, h3, h4, _⟩, _⟩ := may_parts h
    have h5 : (lines m).length = 2 + (m.chars.length + (m.kerns.length + m.ligs.length)) := by simp [lines]; omega
    omega
  · rw [if_neg h]; simp
theorem print_not {m : Tab} (h : may m = false) : print m = [] := by
  unfold print
  rw [if_neg (by simp [h])]
/-- the codes of faults, and where they are -/
theorem read_at : ∀ (p : List (List UInt8)) (i last : Nat) (m : Tab) (j : Nat), read i last m p = .inr j → i ≤ j ∧ j ≤ i + p.length
  | [], i, last, m, j, h => by
    rw [read] at h
    injection h with h
    subst h
    exact ⟨Nat.le_refl _, by simp⟩
  | [l], i, last, m, j, h => by
    rw [read] at h
    split at h
    · cases h
    · injection h with h
      subst h
      exact ⟨Nat.le_refl _, by simp⟩
  | l :: s :: r, i, last, m, j, h => by
    rw [read] at h
    cases hr : row l with
    | none =>
      rw [hr] at h
      injection h with h
      subst h
      exact ⟨Nat.le_refl _, by simp⟩
    | some ln =>
      rw [hr] at h
      simp only [] at h
      split at h
      · have := read_at (s :: r) _ _ _ j h
        simp only [List.length_cons] at this ⊢
        omega
      · injection h with h
        subst h
        exact ⟨Nat.le_refl _, by simp⟩
theorem parse_codes {l : List UInt8} {x : Int × Int} (h : parse l = .inr x) : (x.1 = 70 ∧ 0 ≤ x.2) ∨ x = (71, -1) := by
  unfold parse at h
  cases hr : read 0 0 {} (split 10 l) with
  | inr i =>
    rw [hr] at h
    injection h with h
    subst h
    exact .inl ⟨rfl, by simp⟩
  | inl m =>
    rw [hr] at h
    simp only [] at h
    split at h
    · cases h
    · injection h with h
      exact .inr h.symm
end Go.Proofs.YtmehldekebphfaaGreatDoor.Mt
