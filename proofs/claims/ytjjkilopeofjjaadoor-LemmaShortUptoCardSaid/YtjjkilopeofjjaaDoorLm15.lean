/-
  The plain mathematics of package lemma: plain forms, counts, marks, words in short, heads; no program is mentioned here.
-/
import Derived.Lib.Replace
import Derived.Test.YtjjkilopeofjjaaDoorMath
set_option linter.unusedVariables false
set_option linter.unusedSimpArgs false
namespace Go.Proofs.YtjjkilopeofjjaaDoor.Lm
open Go.Lib

/-! ### plain forms -/
def plain : List UInt8 → List UInt8
  | x :: y :: r => if x = 194 ∧ y = 173 then plain r else x :: plain (y :: r)
  | l => l
abbrev soft : List UInt8 := [194, 173]
theorem pre_soft (x y : UInt8) (r : List UInt8) : soft.isPrefixOf (x :: y :: r) = decide (x = 194 ∧ y = 173) := by
  simp only [soft, List.isPrefixOf, Bool.and_true]
  rw [Bool.eq_iff_iff, Bool.and_eq_true, beq_iff_eq, beq_iff_eq, decide_eq_true_iff]
  exact ⟨fun h => ⟨h.1.symm, h.2.symm⟩, fun h => ⟨h.1.symm, h.2.symm⟩⟩
theorem plain_none : ∀ s : List UInt8, index s soft = -1 → plain s = s
  | [], _ => by unfold plain; rfl
  | [x], _ => by unfold plain; rfl
  | x :: y :: r, h => by
    unfold index at h
    rw [pre_soft] at h
    unfold plain
    by_cases hx : x = 194 ∧ y = 173
    · rw [if_pos (by simpa using hx)] at h; simp at h
    · rw [if_neg (by simpa using hx)] at h
      rw [if_neg hx]
      have : index (y :: r) soft = -1 := by
        by_cases e : (index (y :: r) soft == -1) = true
        · simpa using e
        · rw [if_neg e] at h
          have := index_ge (y :: r) soft
          omega
      rw [plain_none _ this]
theorem plain_hit : ∀ (s : List UInt8) (i : Nat), index s soft = i → plain s = s.take i ++ plain (s.drop (i + 2))
  | [], i, h => by unfold index at h; simp at h
  | [x], i, h => by
    have e : index [x] soft = -1 := by simp [index, soft, List.isPrefixOf]
    rw [e] at h; omega
  | x :: y :: r, i, h => by
    unfold index at h
    rw [pre_soft] at h
    conv => lhs; unfold plain
    by_cases hx : x = 194 ∧ y = 173
    · rw [if_pos (by simpa using hx)] at h
      rw [if_pos hx]
      have : i = 0 := by omega
      subst this
      rfl
    · rw [if_neg (by simpa using hx)] at h
      rw [if_neg hx]
      by_cases e : (index (y :: r) soft == -1) = true
      · rw [if_pos e] at h; omega
      · rw [if_neg e] at h
        have h0 := index_ge (y :: r) soft
        have e' : index (y :: r) soft ≠ -1 := by simpa using e
        obtain ⟨j, hj⟩ : ∃ j, i = j + 1 := ⟨i - 1, by omega⟩
        subst hj
        rw [plain_hit (y :: r) j (by omega)]
        rfl
theorem replace_fuel : ∀ (f : Nat) (s : List UInt8), s.length < f → replaceK soft [] (countFrom soft f s) s = plain s
  | 0, s, h => absurd h (Nat.not_lt_zero _)
  | f + 1, s, h => by
    rw [countFrom]
    by_cases e : (index s soft == -1) = true
    · rw [if_pos e]
      exact (plain_none s (by simpa using e)).symm
    · rw [if_neg e]
      have h0 := index_ge s soft
      have e' : index s soft ≠ -1 := by simpa using e
      obtain ⟨i, hi⟩ : ∃ i : Nat, index s soft = i := ⟨(index s soft).toNat, by omega⟩
      have hlt : (index s soft).toNat + soft.length = i + 2 := by rw [hi]; rfl
      rw [hlt, Nat.add_comm 1, replaceK_hit _ _ _ _ i hi]
      show s.take i ++ [] ++ replaceK soft [] (countFrom soft f (s.drop (i + 2))) (s.drop (i + 2)) = plain s
      have hne : s ≠ [] := by rintro rfl; simp [index, soft] at hi
      have hl : 0 < s.length := List.length_pos_iff.2 hne
      rw [replace_fuel f (s.drop (i + 2)) (by rw [List.length_drop]; omega), plain_hit s i hi, List.append_nil]
theorem replaceAll_plain (s : List UInt8) : replaceAll s soft [] = plain s := by
  unfold replaceAll replace
  rw [if_neg (by simp [soft])]
  have : replaceNum s soft (-1) = countFrom soft (s.length + 1) s := by
    unfold replaceNum count
    rw [if_pos (Or.inl (by omega))]
  rw [this]
  exact replace_fuel _ s (by omega)
theorem plain_length : ∀ s : List UInt8, (plain s).length ≤ s.length
  | [] => by unfold plain; exact Nat.le_refl _
  | [x] => by unfold plain; exact Nat.le_refl _
  | x :: y :: r => by
    unfold plain
    split
    · have := plain_length r; simp only [List.length_cons]; omega
    · have := plain_length (y :: r); simp only [List.length_cons] at this ⊢; omega
theorem plain_mem : ∀ (s : List UInt8) (c : UInt8), c ∈ plain s → c ∈ s
  | [], c, h => by unfold plain at h; exact h
  | [x], c, h => by unfold plain at h; exact h
  | x :: y :: r, c, h => by
    unfold plain at h
    split at h
    · exact List.mem_cons_of_mem _ (List.mem_cons_of_mem _ (plain_mem r c h))
    · rcases List.mem_cons.1 h with rfl | h
      · exact List.mem_cons_self ..
      · exact List.mem_cons_of_mem _ (plain_mem (y :: r) c h)

theorem plain_skip {L : List UInt8} {k : Nat} (h0 : L[k]? = some 194) (h1 : L[k + 1]? = some 173) : plain (L.drop k) = plain (L.drop (k + 2)) := by
  obtain ⟨l0, e0⟩ := List.getElem?_eq_some_iff.1 h0
  obtain ⟨l1, e1⟩ := List.getElem?_eq_some_iff.1 h1
  rw [List.drop_eq_getElem_cons l0, List.drop_eq_getElem_cons l1, e0, e1]
  conv => lhs; unfold plain
  rw [if_pos ⟨rfl, rfl⟩]
theorem plain_step {L : List UInt8} {k : Nat} {x : UInt8} (h0 : L[k]? = some x) (h : ¬ (x = 194 ∧ L[k + 1]? = some 173)) : plain (L.drop k) = x :: plain (L.drop (k + 1)) := by
  obtain ⟨l0, e0⟩ := List.getElem?_eq_some_iff.1 h0
  rw [List.drop_eq_getElem_cons l0, e0]
  by_cases l1 : k + 1 < L.length
  · rw [List.drop_eq_getElem_cons l1]
    conv => lhs; unfold plain
    rw [if_neg (fun c => h ⟨c.1, by rw [List.getElem?_eq_getElem l1, c.2]⟩)]
  · rw [List.drop_eq_nil_of_le (by omega)]
    unfold plain
    rfl
/-! ### counts -/
/-- how many words have this plain form -/
def eqs (q : List UInt8) (l : List (List UInt8)) : Nat := l.countP fun x => plain x == q
def at_ (l : List (List UInt8)) (k : Nat) : List UInt8 := l.getD k []
theorem at_get {l : List (List UInt8)} {k : Nat} {x : List UInt8} (h : l[k]? = some x) : at_ l k = x := by unfold at_; rw [List.getD_eq_getElem?_getD, h]; rfl
def nth (l : List (List UInt8)) (k : Nat) : Nat := eqs (plain (at_ l k)) (l.take (k + 1))
def alls (l : List (List UInt8)) (k : Nat) : Nat := eqs (plain (at_ l k)) l
def cnt (l : List (List UInt8)) (k : Int) : Int × Int := if 0 ≤ k ∧ k < l.length then (nth l k.toNat, alls l k.toNat) else (0, 0)
theorem eqs_append (q : List UInt8) (a b : List (List UInt8)) : eqs q (a ++ b) = eqs q a + eqs q b := List.countP_append ..
theorem eqs_cons (q x : List UInt8) (b : List (List UInt8)) : eqs q (x :: b) = (if plain x == q then 1 else 0) + eqs q b := by
  unfold eqs; rw [List.countP_cons]; omega
theorem eqs_one (q x : List UInt8) : eqs q [x] = if plain x == q then 1 else 0 := by rw [eqs_cons]; rfl
theorem eqs_le (q : List UInt8) (l : List (List UInt8)) : eqs q l ≤ l.length := List.countP_le_length
theorem eqs_take (q : List UInt8) (l : List (List UInt8)) (k : Nat) : eqs q (l.take k) ≤ eqs q l := by
  have h : eqs q l = eqs q (l.take k ++ l.drop k) := by rw [List.take_append_drop]
  rw [h, eqs_append]; omega
theorem take_succ {l : List (List UInt8)} {k : Nat} {x : List UInt8} (h : l[k]? = some x) : l.take (k + 1) = l.take k ++ [x] := by
  rw [List.take_add_one, h]; rfl
theorem get_of {l : List (List UInt8)} {k : Nat} (h : k < l.length) : l[k]? = some (at_ l k) := by
  unfold at_; rw [List.getD_eq_getElem?_getD, List.getElem?_eq_getElem h]; rfl
theorem nth_ahead {l : List (List UInt8)} {k : Nat} (h : k < l.length) : nth l k = eqs (plain (at_ l k)) (l.take k) + 1 := by
  unfold nth; rw [take_succ (get_of h), eqs_append, eqs_one, if_pos (by simp)]
theorem nth_le (l : List (List UInt8)) (k : Nat) : nth l k ≤ alls l k := eqs_take _ _ _
theorem nth_more {l : List (List UInt8)} {k : Nat} (h : k < l.length) (x : List UInt8) : nth (l ++ [x]) k = nth l k := by
  have e : at_ (l ++ [x]) k = at_ l k := by
    unfold at_; rw [List.getD_eq_getElem?_getD, List.getD_eq_getElem?_getD, List.getElem?_append_left h]
  unfold nth
  rw [e, List.take_append_of_le_length (by omega)]
theorem alls_more {l : List (List UInt8)} {k : Nat} (h : k < l.length) (x : List UInt8) : alls (l ++ [x]) k = alls l k + if plain x == plain (at_ l k) then 1 else 0 := by
  have e : at_ (l ++ [x]) k = at_ l k := by
    unfold at_; rw [List.getD_eq_getElem?_getD, List.getD_eq_getElem?_getD, List.getElem?_append_left h]
  unfold alls
  rw [e, eqs_append, eqs_one]

/-! ### marks -/
def hatOf (p : List UInt8) (n : Nat) : List UInt8 := p ++ (94 :: itoa n)
def mark (l : List (List UInt8)) (k : Nat) : List UInt8 := if alls l k = 1 then plain (at_ l k) else hatOf (plain (at_ l k)) (nth l k)
def markI (l : List (List UInt8)) (k : Int) : List UInt8 := if 0 ≤ k ∧ k < l.length then mark l k.toNat else []
theorem hat_inj {p q : List UInt8} {n m : Nat} (hp : (94 : UInt8) ∉ p) (hq : (94 : UInt8) ∉ q) (hn : n ≤ 9223372036854775807) (hm : m ≤ 9223372036854775807) (h : hatOf p n = hatOf q m) : p = q ∧ n = m := by
  have key : ∀ (p q a b : List UInt8), (94 : UInt8) ∉ p → (94 : UInt8) ∉ q → p ++ (94 :: a) = q ++ (94 :: b) → p = q ∧ a = b := by
    intro p
    induction p with
    | nil =>
      intro q a b _ hq h
      cases q with
      | nil => simp at h; exact ⟨rfl, h⟩
      | cons y t => simp at h; exact absurd (by rw [h.1]; exact List.mem_cons_self ..) hq
    | cons x t ih =>
      intro q a b hp hq h
      cases q with
      | nil => simp at h; exact absurd (by rw [← h.1]; exact List.mem_cons_self ..) hp
      | cons y u =>
        simp only [List.cons_append, List.cons.injEq] at h
        obtain ⟨e1, e2⟩ := ih u a b (fun c => hp (List.mem_cons_of_mem _ c)) (fun c => hq (List.mem_cons_of_mem _ c)) h.2
        exact ⟨by rw [h.1, e1], e2⟩
  obtain ⟨e1, e2⟩ := key p q _ _ hp hq h
  have := Fm.num_inj (a := n) (b := m) (by omega) (by omega) e2
  exact ⟨e1, by omega⟩
theorem no_hat {p q : List UInt8} {n : Nat} (hp : (94 : UInt8) ∉ p) : p ≠ hatOf q n := fun e => hp (by rw [e]; unfold hatOf; simp)
theorem marks_apart {l : List (List UInt8)} (hl : l.length ≤ 100) (hh : ∀ x ∈ l, (94 : UInt8) ∉ x) {i k : Nat} (hi : i < l.length) (hk : k < i) : mark l i ≠ mark l k := by
  intro h
  have hk' : k < l.length := by omega
  have gi := get_of hi
  have gk := get_of hk'
  have pi : (94 : UInt8) ∉ plain (at_ l i) := fun c => hh _ (List.mem_of_getElem? gi) (plain_mem _ _ c)
  have pk : (94 : UInt8) ∉ plain (at_ l k) := fun c => hh _ (List.mem_of_getElem? gk) (plain_mem _ _ c)
  have n1 := eqs_le (plain (at_ l i)) (l.take (i + 1))
  have n2 := eqs_le (plain (at_ l k)) (l.take (k + 1))
  rw [List.length_take] at n1 n2
  -- the same plain form: two of them at least
  have hlt : plain (at_ l i) = plain (at_ l k) → nth l k < nth l i ∧ 2 ≤ nth l i := by
    intro e
    rw [nth_ahead hi, nth_ahead hk', e]
    have hs : l.take i = l.take (k + 1) ++ (l.take i).drop (k + 1) := by
      have h := (List.take_append_drop (k + 1) (l.take i)).symm
      rwa [List.take_take, Nat.min_eq_left (by omega : k + 1 ≤ i)] at h
    have ha : eqs (plain (at_ l k)) (l.take k) + 1 ≤ eqs (plain (at_ l k)) (l.take i) := by
      have hx : eqs (plain (at_ l k)) (l.take i) = eqs (plain (at_ l k)) (l.take (k + 1) ++ (l.take i).drop (k + 1)) := by rw [← hs]
      rw [hx, eqs_append, take_succ gk, eqs_append, eqs_one, if_pos (by simp)]
      omega
    exact ⟨by omega, by omega⟩
  unfold mark at h
  have ai := nth_le l i
  have ak := nth_le l k
  unfold nth at ai ak hlt
  by_cases c1 : alls l i = 1 <;> by_cases c2 : alls l k = 1
  · rw [if_pos c1, if_pos c2] at h
    have := hlt h
    omega
  · rw [if_pos c1, if_neg c2] at h
    exact no_hat pi h
  · rw [if_neg c1, if_pos c2] at h
    exact no_hat pk h.symm
  · rw [if_neg c1, if_neg c2] at h
    obtain ⟨e, en⟩ := hat_inj pi pk (by unfold nth; omega) (by unfold nth; omega) h
    have := hlt e
    unfold nth at en
    omega

/-! ### in short -/
def gap : List UInt8 := [32, 46, 46, 46, 32]
def sepd : List (List UInt8) → List UInt8
  | [] => []
  | x :: r => x ++ r.flatMap fun y => 32 :: y
def join (l : List (List UInt8)) : List UInt8 := if 3 < l.length then at_ l 0 ++ gap ++ at_ l (l.length - 1) else sepd l
def short (l : List (List UInt8)) : List UInt8 := join (l.map plain)
/-- the marks of a part of a line -/
def marks (l : List (List UInt8)) (a n : Nat) : List (List UInt8) := (List.range n).map fun k => mark l (a + k)
def head (l : List (List UInt8)) (a b : Int) : List UInt8 := if 0 ≤ a ∧ a < b ∧ b ≤ l.length then join (marks l a.toNat (b - a).toNat) else []
theorem marks_get (l : List (List UInt8)) (a n k : Nat) (h : k < n) : (marks l a n)[k]? = some (mark l (a + k)) := by
  unfold marks; rw [List.getElem?_map, List.getElem?_range h]; rfl
theorem marks_len (l : List (List UInt8)) (a n : Nat) : (marks l a n).length = n := by unfold marks; simp
theorem sepd_snoc (l : List (List UInt8)) (x : List UInt8) : sepd (l ++ [x]) = if l = [] then x else sepd l ++ (32 :: x) := by
  cases l with
  | nil => simp [sepd]
  | cons y t => simp [sepd]
theorem join_first (l : List (List UInt8)) (x : List UInt8) (h : l[0]? = some x) : ∃ t, join l = x ++ t := by
  unfold join
  split
  · rw [at_get h]; exact ⟨gap ++ at_ l (l.length - 1), by rw [List.append_assoc]⟩
  · cases l with
    | nil => simp at h
    | cons y t => simp at h; subst h; exact ⟨_, rfl⟩
theorem join_last (l : List (List UInt8)) (x : List UInt8) (h : l[l.length - 1]? = some x) : ∃ t, join l = t ++ x := by
  unfold join
  split
  · rw [at_get h]; exact ⟨_, rfl⟩
  · have hne : l ≠ [] := by rintro rfl; simp at h
    rw [← List.dropLast_concat_getLast hne] at h ⊢
    rw [sepd_snoc]
    have hx : l.getLast hne = x := by
      rw [List.getElem?_append_right (by simp)] at h
      simpa using h
    rw [hx]
    split
    · exact ⟨[], rfl⟩
    · exact ⟨sepd l.dropLast ++ [32], by simp⟩
theorem join_one (x : List UInt8) : join [x] = x := by simp [join, sepd]
theorem marks_once {l : List (List UInt8)} (h : ∀ k, k < l.length → alls l k = 1) : marks l 0 l.length = l.map plain := by
  apply List.ext_getElem?
  intro k
  by_cases hk : k < l.length
  · rw [marks_get _ _ _ _ hk, List.getElem?_map, get_of hk]
    show some (mark l (0 + k)) = some (plain (at_ l k))
    unfold mark
    rw [Nat.zero_add, if_pos (h k hk)]
  · rw [List.getElem?_eq_none (by rw [marks_len]; omega), List.getElem?_eq_none (by simp; omega)]
end Go.Proofs.YtjjkilopeofjjaaDoor.Lm
