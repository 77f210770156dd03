/-
  The boxes of what is built, one behind the other; where it must be broken. Plain mathematics.
-/
import Derived.Test.YtfgfplpbddapnaaLawMay9
set_option linter.unusedVariables false
set_option linter.unusedSimpArgs false
namespace Go.Proofs.Ytfgfplpbddapnaa.It

theorem boxes_nil : boxes [] = [] := rfl
theorem boxes_word_at {hy n : Int} {l : List Pt} {k : Nat} {p : Pt} (h : l[k]? = some p) : boxes (wordI hy n k (l.drop k)) = box p.w n k :: boxes (wordI hy n (k + 1) (l.drop (k + 1))) := by
  rw [word_at h, boxes_app]
  have e1 : boxes (if 0 < k then [pen hy] else []) = [] := by split <;> rfl
  have e2 : ∀ r, boxes (box p.w n k :: r) = box p.w n k :: boxes r := fun r => rfl
  rw [e1, e2, List.nil_append]
theorem boxes_words_at {sp : Gl} {hy n : Int} {l : List (List Pt)} {k : Nat} {p : List Pt} (h : l[k]? = some p) : boxes (wordsI sp hy n k (l.drop k)) = boxes (wordI hy n 0 (p.drop 0)) ++ boxes (wordsI sp hy (n + 1) (k + 1) (l.drop (k + 1))) := by
  rw [words_at h, boxes_app, boxes_app]
  have e1 : boxes (if 0 < k then [spc sp] else []) = [] := by split <;> rfl
  rw [e1, List.nil_append, List.drop_zero]
theorem boxes_vers_at {sp : Gl} {hy n : Int} {l : List (List (List Pt))} {k : Nat} {p : List (List Pt)} (h : l[k]? = some p) : boxes (versI sp hy n (l.drop k)) = boxes (wordsI sp hy n 0 (p.drop 0)) ++ boxes (versI sp hy (n + p.length) (l.drop (k + 1))) := by
  rw [vers_at h, boxes_app, boxes_app]
  have e1 : boxes endI = [] := rfl
  rw [e1, List.nil_append, List.drop_zero]
theorem wordsI_more (sp : Gl) (hy : Int) : ∀ (l : List (List Pt)) (n : Int) (i : Nat), 0 < i → l.length ≤ (wordsI sp hy n i l).length
  | [], n, i, _ => by simp
  | p :: r, n, i, hi => by
    have := wordsI_more sp hy r (n + 1) (i + 1) (by omega)
    simp only [wordsI, if_pos hi, List.length_append, List.length_cons, List.length_nil]
    omega
theorem wordsI_most (sp : Gl) (hy : Int) (l : List (List Pt)) (n : Int) : l.length ≤ (wordsI sp hy n 0 l).length + 1 := by
  cases l with
  | nil => simp
  | cons p r =>
    have := wordsI_more sp hy r (n + 1) (0 + 1) (by omega)
    simp only [wordsI, List.length_append, List.length_cons]
    omega
theorem cnt_le (sp : Gl) (hy : Int) : ∀ (l : List (List (List Pt))) (n : Int), cnt l ≤ (versI sp hy n l).length
  | [], n => by simp [cnt]
  | p :: r, n => by
    have h1 := wordsI_most sp hy p n
    have h2 := cnt_le sp hy r (n + p.length)
    have h3 : endI.length = 3 := rfl
    unfold cnt at h2 ⊢
    simp only [versI, List.map_cons, List.sum_cons, List.length_append, h3]
    omega
theorem cnt_at {l : List (List (List Pt))} {k : Nat} {p : List (List Pt)} (h : l[k]? = some p) : cnt (l.drop k) = p.length + cnt (l.drop (k + 1)) := by
  rw [drop_at h]; simp [cnt]
/-- the places at which it must be broken -/
def must (x : Itm) : Bool := decide (x.k = 2) && decide (x.p = -10000)
def frc (l : List Itm) : Nat := (l.filter must).length
theorem frc_app (a b : List Itm) : frc (a ++ b) = frc a + frc b := by unfold frc; rw [List.filter_append, List.length_append]
theorem frc_word (hy : Int) : ∀ (l : List Pt) (n : Int) (i : Nat), frc (wordI hy n i l) = 0
  | [], n, i => rfl
  | p :: r, n, i => by
    have e : ∀ s, frc (box p.w n i :: s) = frc s := fun s => rfl
    rw [wordI, frc_app, e, frc_word hy r]
    split <;> rfl
theorem frc_words (sp : Gl) (hy : Int) : ∀ (l : List (List Pt)) (n : Int) (i : Nat), frc (wordsI sp hy n i l) = 0
  | [], n, i => rfl
  | p :: r, n, i => by
    rw [wordsI, frc_app, frc_app, frc_word, frc_words sp hy r]
    split <;> rfl
theorem frc_vers (sp : Gl) (hy : Int) : ∀ (l : List (List (List Pt))) (n : Int), frc (versI sp hy n l) = l.length
  | [], n => rfl
  | p :: r, n => by
    have e : frc endI = 1 := rfl
    rw [versI, frc_app, frc_app, frc_words, frc_vers sp hy r, e, List.length_cons]
    omega
theorem frc_yes {l : List Itm} {k : Nat} {x : Itm} (h : l[k]? = some x) (hx : must x = true) : frc (l.take (k + 1)) = frc (l.take k) + 1 := by
  have e : frc [x] = 1 := by unfold frc; simp [hx]
  rw [take_snoc h, frc_app, e]
theorem frc_no {l : List Itm} {k : Nat} {x : Itm} (h : l[k]? = some x) (hx : must x = false) : frc (l.take (k + 1)) = frc (l.take k) := by
  have e : frc [x] = 0 := by unfold frc; simp [hx]
  rw [take_snoc h, frc_app, e]; rfl
theorem frc_len (l : List Itm) (k : Nat) : frc (l.take k) ≤ k := by
  have h1 : frc (l.take k) ≤ (l.take k).length := List.length_filter_le _ _
  rw [List.length_take] at h1
  omega
theorem drop_cons {α : Type} {l : List α} {a : Nat} {x : α} {r : List α} (h : l.drop a = x :: r) : l[a]? = some x ∧ a < l.length ∧ l.drop (a + 1) = r := by
  have h1 : a < l.length := by
    rcases Nat.lt_or_ge a l.length with h' | h'
    · exact h'
    · rw [List.drop_of_length_le h'] at h; cases h
  have h2 : l[a]? = some l[a] := List.getElem?_eq_getElem h1
  rw [drop_at h2] at h
  injection h with h3 h4
  exact ⟨by rw [h2, h3], h1, h4⟩
end Go.Proofs.Ytfgfplpbddapnaa.It
