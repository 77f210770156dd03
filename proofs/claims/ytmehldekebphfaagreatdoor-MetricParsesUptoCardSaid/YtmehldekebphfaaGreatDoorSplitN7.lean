/-
  Plain mathematics: the library's split into at most so many pieces, and the split at each place of a byte; a line's words and its numbers.
-/
import Derived.Test.YtmehldekebphfaaGreatDoorNumbers7
import Derived.Test.YtmehldekebphfaaGreatDoorLines7
import Derived.Lib.Split
import Derived.Lib.IndexLaws
import Derived.Lib.IndexBytes
set_option linter.unusedVariables false
set_option linter.unusedSimpArgs false
namespace Go.Proofs.YtmehldekebphfaaGreatDoor
open Go.RowKit

theorem take_free {c : UInt8} {l : List UInt8} {o : Nat} (h : ∀ k : Nat, k < o → l[k]? ≠ some c) : c ∉ l.take o := by
  intro hm
  obtain ⟨k, hk, e⟩ := List.mem_iff_getElem.1 hm
  rw [List.length_take] at hk
  exact h k (by omega) (by rw [List.getElem_take] at e; rw [List.getElem?_eq_getElem (by omega), e])
theorem all_free {c : UInt8} {l : List UInt8} (h : ∀ k : Nat, l[k]? ≠ some c) : c ∉ l := by
  intro hm
  obtain ⟨k, hk, e⟩ := List.mem_iff_getElem.1 hm
  exact h k (by rw [List.getElem?_eq_getElem hk, e])
theorem split_cut {c : UInt8} {l : List UInt8} {o : Nat} (h : l[o]? = some c) (hn : ∀ k : Nat, k < o → l[k]? ≠ some c) : Mt.split c l = l.take o :: Mt.split c (l.drop (o + 1)) := by
  have hl := (List.getElem?_eq_some_iff.1 h).1
  have e : l = l.take o ++ c :: l.drop (o + 1) := by
    have h1 := List.take_append_drop o l
    rw [List.drop_eq_getElem_cons hl] at h1
    have h2 : l[o] = c := by rw [List.getElem?_eq_getElem hl] at h; exact Option.some.inj h
    rw [h2] at h1
    exact h1.symm
  conv => lhs; rw [e]
  rw [Mt.split_more _ (take_free hn)]
theorem splitK_is (c : UInt8) : ∀ (K : Nat) (l : List UInt8), ((Mt.split c l).length ≤ K + 1 → Lib.splitK [c] 0 K l = Mt.split c l) ∧ (K + 1 < (Mt.split c l).length → (Lib.splitK [c] 0 K l).length = K + 1)
  | 0, l => by
    refine ⟨fun h => ?_, fun _ => rfl⟩
    show [l] = _
    have hj := Mt.join_split c l
    have hne := Mt.split_ne c l
    match hs : Mt.split c l, h, hne, hj with
    | [x], _, _, hj => simp [Mt.join] at hj; rw [hj]
    | x :: y :: r, h, _, _ => simp at h
  | K + 1, l => by
    have ih := splitK_is c K
    rcases Int.lt_or_le (Lib.indexByte l c) 0 with hneg | hpos
    · have h1 : Lib.indexByte l c = -1 := by have := Lib.indexByte_ge l c; omega
      have hs : Mt.split c l = [l] := Mt.split_plain (all_free (Lib.indexByte_none h1))
      have hk : Lib.splitK [c] 0 (K + 1) l = [l] := by
        unfold Lib.splitK
        rw [Lib.index_one, h1]
        rfl
      rw [hs, hk]
      exact ⟨fun _ => rfl, fun h => by simp at h⟩
    · obtain ⟨o, ho⟩ : ∃ o : Nat, Lib.indexByte l c = o := ⟨(Lib.indexByte l c).toNat, by omega⟩
      obtain ⟨h1, h2⟩ := Lib.indexByte_some ho
      have hs := split_cut h1 h2
      have hk : Lib.splitK [c] 0 (K + 1) l = l.take o :: Lib.splitK [c] 0 K (l.drop (o + 1)) := by
        conv => lhs; unfold Lib.splitK
        rw [Lib.index_one, ho, if_neg (by intro e; have := beq_iff_eq.1 e; omega)]
        simp
      rw [hs, hk]
      obtain ⟨i1, i2⟩ := ih (l.drop (o + 1))
      refine ⟨fun h => ?_, fun h => ?_⟩
      · rw [List.length_cons] at h
        rw [i1 (by omega)]
      · rw [List.length_cons] at h ⊢
        rw [i2 (by omega)]
theorem split_len (c : UInt8) : ∀ l : List UInt8, (Mt.split c l).length ≤ l.length + 1
  | [] => by simp [Mt.split]
  | x :: r => by
    have ih := split_len c r
    unfold Mt.split
    split
    · simp; omega
    · split
      · simp
      · rename_i h t hs
        rw [hs] at ih
        simp at ih ⊢
        omega

/-! ### a line's words -/
def nC (k : Nat) : Nat := match k with
  | 0 => 0
  | 1 => 1
  | 2 => 1
  | 3 => 2
  | _ => 3
def nL (k : Nat) : Nat := match k with
  | 0 => 3
  | 1 => 0
  | 2 => 3
  | 3 => 1
  | _ => 0
def Fit (k : Nat) (ws : List (List UInt8)) : Prop := ws[0]? = some (nameOf k) ∧ ws.length = 1 + nC k + nL k
def mkLn (k : Nat) (cs ls : List Int) : Mt.Ln := match k with
  | 0 => .space (ls.getD 0 0) (ls.getD 1 0) (ls.getD 2 0)
  | 1 => .hyphen (cs.getD 0 0)
  | 2 => .char (cs.getD 0 0) (ls.getD 0 0) (ls.getD 1 0) (ls.getD 2 0)
  | 3 => .kern (cs.getD 0 0) (cs.getD 1 0) (ls.getD 0 0)
  | _ => .lig (cs.getD 0 0) (cs.getD 1 0) (cs.getD 2 0)
def both (k : Nat) : Option (List Int) → Option (List Int) → Option Mt.Ln
  | some cs, some ls => some (mkLn k cs ls)
  | _, _ => none
theorem names_ne : Mt.spaceW ≠ Mt.hyphenW ∧ Mt.spaceW ≠ Mt.charW ∧ Mt.spaceW ≠ Mt.kernW ∧ Mt.spaceW ≠ Mt.ligW ∧ Mt.kernW ≠ Mt.ligW ∧ Mt.kernW ≠ Mt.spaceW ∧ Mt.ligW ≠ Mt.spaceW ∧ Mt.ligW ≠ Mt.kernW := by decide
theorem row_fit {k : Nat} (hk : k < 5) {ws : List (List UInt8)} (h : Fit k ws) : Mt.rowOf ws = both k (collect Mt.codeB ((ws.drop 1).take (nC k))) (collect Mt.lenB (ws.drop (1 + nC k))) := by
  obtain ⟨h0, hl⟩ := h
  match k, hk with
  | 0, _ =>
    match ws, hl with
    | [w, a, b, c], _ =>
      simp at h0; subst h0
      show Mt.rowOf [Mt.spaceW, a, b, c] = _
      rw [Mt.rowOf, if_pos rfl]
      simp only [nC, List.drop_succ_cons, List.drop_zero, List.take_zero, collect]
      cases Mt.lenB a <;> cases Mt.lenB b <;> cases Mt.lenB c <;> rfl
  | 1, _ =>
    match ws, hl with
    | [w, a], _ =>
      simp at h0; subst h0
      show Mt.rowOf [Mt.hyphenW, a] = _
      rw [Mt.rowOf, if_pos rfl]
      simp only [nC, List.drop_succ_cons, List.drop_zero, List.take_succ_cons, List.take_zero, collect]
      cases Mt.codeB a <;> rfl
  | 2, _ =>
    match ws, hl with
    | [w, a, b, c, d], _ =>
      simp at h0; subst h0
      show Mt.rowOf [Mt.charW, a, b, c, d] = _
      rw [Mt.rowOf, if_pos rfl]
      simp only [nC, List.drop_succ_cons, List.drop_zero, List.take_succ_cons, List.take_zero, collect]
      cases Mt.codeB a <;> cases Mt.lenB b <;> cases Mt.lenB c <;> cases Mt.lenB d <;> rfl
  | 3, _ =>
    match ws, hl with
    | [w, a, b, c], _ =>
      simp at h0; subst h0
      show Mt.rowOf [Mt.kernW, a, b, c] = _
      rw [Mt.rowOf, if_neg names_ne.2.2.2.2.2.1, if_pos rfl]
      simp only [nC, List.drop_succ_cons, List.drop_zero, List.take_succ_cons, List.take_zero, collect]
      cases Mt.codeB a <;> cases Mt.codeB b <;> cases Mt.lenB c <;> rfl
  | 4, _ =>
    match ws, hl with
    | [w, a, b, c], _ =>
      simp at h0; subst h0
      show Mt.rowOf [Mt.ligW, a, b, c] = _
      rw [Mt.rowOf, if_neg names_ne.2.2.2.2.2.2.1, if_neg names_ne.2.2.2.2.2.2.2, if_pos rfl]
      simp only [nC, List.drop_succ_cons, List.drop_zero, List.take_succ_cons, List.take_zero, collect]
      cases Mt.codeB a <;> cases Mt.codeB b <;> cases Mt.codeB c <;> rfl
theorem row_unfit {ws : List (List UInt8)} (h : ∀ k, k < 5 → ¬ Fit k ws) : Mt.rowOf ws = none := by
  unfold Mt.rowOf
  split
  · rw [if_neg]
    intro e; exact h 1 (by omega) ⟨by rw [e]; rfl, rfl⟩
  · rw [if_neg, if_neg, if_neg]
    · intro e; exact h 4 (by omega) ⟨by rw [e]; rfl, rfl⟩
    · intro e; exact h 3 (by omega) ⟨by rw [e]; rfl, rfl⟩
    · intro e; exact h 0 (by omega) ⟨by rw [e]; rfl, rfl⟩
  · rw [if_neg]
    intro e; exact h 2 (by omega) ⟨by rw [e]; rfl, rfl⟩
  · rfl
theorem collect_len {f : List UInt8 → Option Int} : ∀ {l : List (List UInt8)} {r : List Int}, collect f l = some r → r.length = l.length
  | [], r, h => by simp [collect] at h; subst h; rfl
  | x :: t, r, h => by
    unfold collect at h
    cases hx : f x with
    | none => rw [hx] at h; cases h
    | some n =>
      rw [hx] at h
      obtain ⟨q, hq, rfl⟩ := Option.map_eq_some_iff.1 h
      simp [collect_len hq]
theorem mkLn_is {k : Nat} (hk : k < 5) {cs ls : List Int} (hc : cs.length = nC k) (hl : ls.length = nL k) : Mt.kind (mkLn k cs ls) = k ∧ lnCodes (mkLn k cs ls) = cs ∧ lnLens (mkLn k cs ls) = ls := by
  match k, hk with
  | 0, _ =>
    match cs, hc, ls, hl with
    | [], _, [a, b, c], _ => exact ⟨rfl, rfl, rfl⟩
  | 1, _ =>
    match cs, hc, ls, hl with
    | [a], _, [], _ => exact ⟨rfl, rfl, rfl⟩
  | 2, _ =>
    match cs, hc, ls, hl with
    | [d], _, [a, b, c], _ => exact ⟨rfl, rfl, rfl⟩
  | 3, _ =>
    match cs, hc, ls, hl with
    | [d, e], _, [a], _ => exact ⟨rfl, rfl, rfl⟩
  | 4, _ =>
    match cs, hc, ls, hl with
    | [d, e, f], _, [], _ => exact ⟨rfl, rfl, rfl⟩
end Go.Proofs.YtmehldekebphfaaGreatDoor
