/-
  The plain mathematics of package lexer, sixth part: the print of tokens, one behind the other.
-/
import Derived.Test.YtimpadooknclkaaLexMore
set_option linter.unusedVariables false
set_option linter.unusedSimpArgs false
namespace Go.Proofs.Ytimpadooknclkaa.Lx

def pr (t : Tok) : List UInt8 := (pcT t).1
theorem pr_word (s : List UInt8) (a : Int) : pr ⟨0, s, a⟩ = escape s := rfl
theorem pr_cmd (s : List UInt8) (a : Int) : pr ⟨1, s, a⟩ = 92 :: s := rfl
theorem pr_opn (s : List UInt8) (a : Int) : pr ⟨2, s, a⟩ = [123] := rfl
theorem pr_cls (s : List UInt8) (a : Int) : pr ⟨3, s, a⟩ = [125] := rfl
theorem prs_one (t : Tok) : prs [t] = pr t := by show (pcT t).1 ++ [] = _; rw [List.append_nil]; rfl
theorem prs_cons (t u : Tok) (r : List Tok) : prs (t :: u :: r) = pr t ++ 32 :: prs (u :: r) := rfl
theorem prs_snoc : ∀ (l : List Tok) (t : Tok), l ≠ [] → prs (l ++ [t]) = prs l ++ 32 :: pr t
  | [], t, h => absurd rfl h
  | [u], t, _ => by rw [List.cons_append, List.nil_append, prs_cons, prs_one, prs_one]
  | u :: v :: r, t, _ => by
    rw [List.cons_append, List.cons_append, prs_cons, ← List.cons_append, prs_snoc (v :: r) t (by simp), prs_cons, List.append_assoc]
    rfl
theorem prs_take {ts : List Tok} {k : Nat} {t : Tok} (h : ts[k]? = some t) : prs (ts.take (k + 1)) = prs (ts.take k) ++ (if k = 0 then [] else [32]) ++ pr t := by
  rw [List.take_add_one, h]
  show prs (ts.take k ++ [t]) = _
  cases k with
  | zero => rw [List.take_zero, List.nil_append, prs_one]; rfl
  | succ k =>
    have hlt : k + 1 < ts.length := by
      rcases Nat.lt_or_ge (k + 1) ts.length with h' | h'
      · exact h'
      · rw [List.getElem?_eq_none h'] at h; cases h
    rw [prs_snoc _ _ (by intro e; have := congrArg List.length e; rw [List.length_take, List.length_nil] at this; omega), if_neg (by omega), List.append_assoc]
    rfl
/-- how long a print is -/
def room (l : List Tok) : Nat := (l.map fun t => 2 * t.text.length + 2).sum
theorem esc_len : ∀ (k : Nat) (l : List UInt8), l.length ≤ k → (escape l).length ≤ 2 * l.length
  | _, [], _ => Nat.le_refl _
  | 0, _ :: _, h => by simp at h
  | k + 1, [c], _ => by rw [escape_one]; split <;> simp
  | k + 1, c :: d :: r, h => by
    simp only [List.length_cons] at h
    rw [escape_two]
    split
    · have := esc_len k r (by omega)
      simp only [List.length_cons]
      omega
    · have := esc_len k (d :: r) (by simp; omega)
      simp only [List.length_append, List.length_cons] at this ⊢
      split <;> simp <;> omega
theorem pr_len (t : Tok) : (pr t).length ≤ 2 * t.text.length + 1 := by
  unfold pr pcT
  split
  · have := esc_len t.text.length t.text (Nat.le_refl _)
    simp only []
    omega
  · split
    · simp; omega
    · split <;> simp
theorem prs_len : ∀ (l : List Tok), (prs l).length ≤ room l
  | [] => Nat.zero_le _
  | [t] => by
    have := pr_len t
    rw [prs_one]
    unfold room
    simp
    omega
  | t :: u :: r => by
    have h1 := pr_len t
    have h2 := prs_len (u :: r)
    rw [prs_cons, List.length_append, List.length_cons]
    unfold room at h2 ⊢
    rw [List.map_cons, List.sum_cons]
    omega
theorem room_take (l : List Tok) (k : Nat) : room (l.take k) ≤ room l := by
  unfold room
  rw [List.map_take]
  have h := congrArg List.sum (List.take_append_drop k (l.map fun t => 2 * t.text.length + 2))
  rw [List.sum_append] at h
  omega
theorem text_room {l : List Tok} {t : Tok} (h : t ∈ l) : 2 * t.text.length + 2 ≤ room l := by
  obtain ⟨a, b, rfl⟩ := List.append_of_mem h
  unfold room
  rw [List.map_append, List.sum_append, List.map_cons, List.sum_cons]
  omega
end Go.Proofs.Ytimpadooknclkaa.Lx
