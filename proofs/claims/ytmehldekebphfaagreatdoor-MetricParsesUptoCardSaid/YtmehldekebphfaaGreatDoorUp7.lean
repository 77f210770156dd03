/-
  Plain mathematics: a property of all records of a list, record by record; an order from each to the next one; no program is mentioned here.
-/
import Derived.Test.YtmehldekebphfaaGreatDoorTab72
set_option linter.unusedVariables false
set_option linter.unusedSimpArgs false
namespace Go.Proofs.YtmehldekebphfaaGreatDoor

theorem all_on {α : Type} {p : α → Bool} {l : List α} {k : Nat} {x : α} (hx : l[k]? = some x) : (l.drop k).all p = (p x && (l.drop (k + 1)).all p) := by
  obtain ⟨hk, e⟩ := List.getElem?_eq_some_iff.1 hx
  rw [List.drop_eq_getElem_cons hk, e, List.all_cons]
theorem all_end {α : Type} {p : α → Bool} {l : List α} {k : Nat} (h : l.length ≤ k) : (l.drop k).all p = true := by
  rw [List.drop_of_length_le h]; rfl
theorem up_on {α : Type} {r : α → α → Bool} {l : List α} {k : Nat} {y x : α} (hy : l[k]? = some y) (hx : l[k + 1]? = some x) : Mt.up r (l.drop k) = (r y x && Mt.up r (l.drop (k + 1))) := by
  obtain ⟨hk, e⟩ := List.getElem?_eq_some_iff.1 hy
  obtain ⟨hk2, e2⟩ := List.getElem?_eq_some_iff.1 hx
  rw [List.drop_eq_getElem_cons hk, e, List.drop_eq_getElem_cons hk2, e2]
  rfl
theorem up_end {α : Type} {r : α → α → Bool} {l : List α} {k : Nat} (h : l.length ≤ k + 1) : Mt.up r (l.drop k) = true := by
  rcases hd : l.drop k with _ | ⟨x, t⟩
  · rfl
  · have := congrArg List.length hd
    rw [List.length_drop, List.length_cons] at this
    obtain rfl : t = [] := List.eq_nil_of_length_eq_zero (by omega)
    rfl
/-- whether a table may be, in the order in which the program asks -/
theorem may_order (m : Mt.Tab) : Mt.may m = ((decide (m.order = 0) && (Mt.amount m.sw && Mt.amount m.st && Mt.amount m.sk)) && (decide (m.chars.length ≤ 256) && Mt.up (fun a b => decide (a.code < b.code)) m.chars && m.chars.all Mt.chOk) && Mt.has m m.hyph &&
    (decide (m.kerns.length ≤ 1000) && Mt.up (fun a b => Mt.rises a.a a.b b.a b.b) m.kerns && m.kerns.all (Mt.knOk m)) && (decide (m.ligs.length ≤ 1000) && Mt.up (fun a b => Mt.rises a.a a.b b.a b.b) m.ligs && m.ligs.all (Mt.lgOk m))) := by
  unfold Mt.may
  have h0 : decide (m.chars.length ≤ 256 ∧ m.kerns.length ≤ 1000 ∧ m.ligs.length ≤ 1000 ∧ m.order = 0) = (decide (m.chars.length ≤ 256) && (decide (m.kerns.length ≤ 1000) && (decide (m.ligs.length ≤ 1000) && decide (m.order = 0)))) := by
    rw [Bool.eq_iff_iff]; simp
  rw [h0]
  generalize decide (m.chars.length ≤ 256) = b1
  generalize decide (m.kerns.length ≤ 1000) = b2
  generalize decide (m.ligs.length ≤ 1000) = b3
  generalize decide (m.order = 0) = b4
  generalize Mt.amount m.sw = b5
  generalize Mt.amount m.st = b6
  generalize Mt.amount m.sk = b7
  generalize Mt.has m m.hyph = b8
  generalize m.chars.all Mt.chOk = b9
  generalize Mt.up _ m.chars = b10
  generalize m.kerns.all (Mt.knOk m) = b11
  generalize Mt.up _ m.kerns = b12
  generalize m.ligs.all (Mt.lgOk m) = b13
  generalize Mt.up _ m.ligs = b14
  cases b1 <;> cases b2 <;> cases b3 <;> cases b4 <;> simp
  cases b5 <;> cases b6 <;> cases b7 <;> cases b8 <;> simp
  cases b9 <;> cases b10 <;> cases b11 <;> cases b12 <;> cases b13 <;> cases b14 <;> rfl
end Go.Proofs.YtmehldekebphfaaGreatDoor
