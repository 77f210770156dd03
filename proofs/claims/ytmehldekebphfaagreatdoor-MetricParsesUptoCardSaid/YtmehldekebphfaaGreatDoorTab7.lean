/-
  The plain mathematics of package metric, second part: a table's text, what a text is read as, and that the two undo one another; no program is mentioned here.
-/
import Derived.Test.YtmehldekebphfaaGreatDoorMt
set_option linter.unusedVariables false
set_option linter.unusedSimpArgs false
namespace Go.Proofs.YtmehldekebphfaaGreatDoor.Mt
open Go.Lib

def add (m : Tab) : Ln → Tab
  | .space a b c => { m with sw := a, st := b, sk := c, order := 0 }
  | .hyphen c => { m with hyph := c }
  | .char c w h d => { m with chars := m.chars ++ [⟨c, w, h, d⟩] }
  | .kern a b w => { m with kerns := m.kerns ++ [⟨a, b, w⟩] }
  | .lig a b t => { m with ligs := m.ligs ++ [⟨a, b, t⟩] }
def lnC (c : Ch) : Ln := .char c.code c.w c.h c.d
def lnK (k : Kn) : Ln := .kern k.a k.b k.w
def lnL (l : Lg) : Ln := .lig l.a l.b l.to
/-- a table's lines -/
def lines (m : Tab) : List Ln := .space m.sw m.st m.sk :: .hyphen m.hyph :: (m.chars.map lnC ++ (m.kerns.map lnK ++ m.ligs.map lnL))
def body (ls : List Ln) : List UInt8 := ls.flatMap fun l => text l ++ [10]
def print (m : Tab) : List UInt8 := if may m then body (lines m) else []
/-- may such a line stand at place i, behind one of the kind last? -/
def good (i last k : Nat) : Bool := if i < 2 then k == i else decide (2 ≤ k) && decide (last ≤ k)
/-- what lines are read as: a table, or the place of the first one that is wrong -/
def read : Nat → Nat → Tab → List (List UInt8) → Tab ⊕ Nat
  | i, _, _, [] => .inr i
  | i, last, m, [l] => if l = [] ∧ 2 ≤ i then .inl m else .inr i
  | i, last, m, l :: s :: r => match row l with
    | none => .inr i
    | some ln => if good i last (kind ln) then read (i + 1) (kind ln) (add m ln) (s :: r) else .inr i
def parse (s : List UInt8) : Tab ⊕ (Int × Int) := match read 0 0 {} (split 10 s) with
  | .inr i => .inr (70, i)
  | .inl m => if may m then .inl m else .inr (71, -1)

/-! ### lines that are read are those of the table -/
/-- lines of kinds that may follow one another, from place i on -/
def okFrom : Nat → Nat → List Ln → Bool
  | i, _, [] => true
  | i, last, l :: r => good i last (kind l) && okFrom (i + 1) (kind l) r
theorem read_cons {i last : Nat} {m : Tab} {l : List UInt8} {ln : Ln} (h : row l = some ln) (hg : good i last (kind ln) = true) {r : List (List UInt8)} (hr : r ≠ []) : read i last m (l :: r) = read (i + 1) (kind ln) (add m ln) r := by
  cases r with
  | nil => exact absurd rfl hr
  | cons s r => rw [read, h]; simp only []; rw [if_pos hg]
theorem read_lines (r : List (List UInt8)) (hr : r ≠ []) : ∀ (ls : List Ln) (i last : Nat) (m : Tab), (∀ l ∈ ls, lnOk l) → okFrom i last ls = true →
    ∃ last', read i last m (ls.map text ++ r) = read (i + ls.length) last' (ls.foldl add m) r
  | [], i, last, m, _, _ => ⟨last, rfl⟩
  | l :: ls, i, last, m, h, k => by
    simp only [okFrom, Bool.and_eq_true] at k
    obtain ⟨last', e⟩ := read_lines r hr ls (i + 1) (kind l) (add m l) (fun x hx => h x (List.mem_cons_of_mem _ hx)) k.2
    refine ⟨last', ?_⟩
    rw [List.map_cons, List.cons_append, read_cons (row_text (h l (List.mem_cons_self ..))) k.1 (by simp [hr]), e, List.foldl_cons, List.length_cons, Nat.add_right_comm, Nat.add_assoc i]
/-- what was read, was the text of such lines -/
theorem read_some : ∀ (p : List (List UInt8)) (i last : Nat) (m m' : Tab), read i last m p = .inl m' →
    ∃ ls : List Ln, p = ls.map text ++ [[]] ∧ (∀ l ∈ ls, lnOk l) ∧ okFrom i last ls = true ∧ m' = ls.foldl add m ∧ 2 ≤ i + ls.length
  | [], i, last, m, m', h => by simp [read] at h
  | [l], i, last, m, m', h => by
    rw [read] at h
    split at h
    · rename_i hl
      injection h with h
      exact ⟨[], by simp [hl.1], by simp, rfl, h.symm, by simpa using hl.2⟩
    · cases h
  | l :: s :: r, i, last, m, m', h => by
    rw [read] at h
    cases hr : row l with
    | none => rw [hr] at h; cases h
    | some ln =>
      rw [hr] at h
      simp only [] at h
      split at h
      · rename_i hg
        obtain ⟨ls, h1, h2, h3, h4, h5⟩ := read_some (s :: r) (i + 1) (kind ln) (add m ln) m' h
        obtain ⟨e, hk⟩ := text_row hr
        refine ⟨ln :: ls, by rw [h1, e]; rfl, ?_, by simp [okFrom, hg, h3], h4, by simp; omega⟩
        intro x hx
        rcases List.mem_cons.1 hx with rfl | hx
        · exact hk
        · exact h2 x hx
      · cases h
/-! ### lines behind the first two, in their order -/
theorem fold_chars (cs : List Ch) : ∀ m : Tab, (cs.map lnC).foldl add m = { m with chars := m.chars ++ cs } := by
  induction cs with
  | nil => intro m; simp
  | cons c r ih => intro m; rw [List.map_cons, List.foldl_cons, ih]; simp [lnC, add]
theorem fold_kerns (cs : List Kn) : ∀ m : Tab, (cs.map lnK).foldl add m = { m with kerns := m.kerns ++ cs } := by
  induction cs with
  | nil => intro m; simp
  | cons c r ih => intro m; rw [List.map_cons, List.foldl_cons, ih]; simp [lnK, add]
theorem fold_ligs (cs : List Lg) : ∀ m : Tab, (cs.map lnL).foldl add m = { m with ligs := m.ligs ++ cs } := by
  induction cs with
  | nil => intro m; simp
  | cons c r ih => intro m; rw [List.map_cons, List.foldl_cons, ih]; simp [lnL, add]
theorem fold_lines (m : Tab) (h : m.order = 0) : (lines m).foldl add {} = m := by
  unfold lines
  rw [List.foldl_cons, List.foldl_cons, List.foldl_append, List.foldl_append, fold_chars, fold_kerns, fold_ligs]
  cases m
  simp only [] at h
  subst h
  simp [add]
/-- lines of kinds 2 to 4 that do not fall: letters, then kerns, then ligatures -/
theorem three_parts : ∀ (ls : List Ln) (i last : Nat), 2 ≤ i → okFrom i last ls = true → ∃ cs ks gs, ls = List.map lnC cs ++ (List.map lnK ks ++ List.map lnL gs) ∧ (2 < last → cs = []) ∧ (3 < last → ks = [])
  | [], i, last, _, _ => ⟨[], [], [], rfl, fun _ => rfl, fun _ => rfl⟩
  | l :: r, i, last, hi, h => by
    simp only [okFrom, Bool.and_eq_true, good, if_neg (show ¬ i < 2 by omega), decide_eq_true_eq] at h
    obtain ⟨cs, ks, gs, e, h1, h2⟩ := three_parts r (i + 1) (kind l) (by omega) h.2
    obtain ⟨⟨k2, k3⟩, _⟩ := h
    cases l with
    | space a b c => simp [kind] at k2
    | hyphen c => simp [kind] at k2
    | char c w hh d => exact ⟨⟨c, w, hh, d⟩ :: cs, ks, gs, by rw [e]; rfl, fun h => by simp only [kind] at k3; omega, fun h => by simp only [kind] at k3; omega⟩
    | kern a b w =>
      have := h1 (by simp [kind])
      subst this
      exact ⟨[], ⟨a, b, w⟩ :: ks, gs, by rw [e]; rfl, fun _ => rfl, fun h => by simp only [kind] at k3; omega⟩
    | lig a b t =>
      have := h1 (by simp [kind])
      subst this
      have := h2 (by simp [kind])
      subst this
      exact ⟨[], [], ⟨a, b, t⟩ :: gs, by rw [e]; rfl, fun _ => rfl, fun _ => rfl⟩
theorem lines_fold (ls : List Ln) (h : okFrom 0 0 ls = true) (hn : 2 ≤ ls.length) : lines (ls.foldl add {}) = ls ∧ (ls.foldl add {}).order = 0 := by
  match ls, hn with
  | x :: y :: r, _ =>
    simp only [okFrom, Bool.and_eq_true] at h
    obtain ⟨h0, h1, h2⟩ := h
    obtain ⟨cs, ks, gs, rfl, _, _⟩ := three_parts r _ _ (by omega) h2
    have e0 : kind x = 0 := by simpa [good] using h0
    have e1 : kind y = 1 := by simpa [good] using h1
    cases x with
    | space a b c =>
      cases y with
      | hyphen c =>
        rw [List.foldl_cons, List.foldl_cons, List.foldl_append, List.foldl_append, fold_chars, fold_kerns, fold_ligs]
        simp [add, lines]
      | _ => simp [kind] at e1
    | _ => simp [kind] at e0
