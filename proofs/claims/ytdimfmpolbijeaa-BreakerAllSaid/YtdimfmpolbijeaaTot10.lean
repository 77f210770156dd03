/-
  The landed Total: what breaks cost together.
-/
import Derived.Test.YtdimfmpolbijeaaCost10
set_option linter.unusedVariables false
set_option linter.unusedSimpArgs false
namespace Go.Proofs.Ytdimfmpolbijeaa
open Go.RowKit

/-- what Total answers -/
def tolV : Option Int → Value
  | none => .tuple #[.int .i64 0, .bool false]
  | some t => .tuple #[.int .i64 t, .bool true]
theorem goS_next {l : List It.Itm} {t tol : Int} {bs : List Int} {j : Nat} {b a q acc : Int} (hb : bs[j]? = some b) (h : It.goS l t tol (-1) 2 0 (bs.take j) = some (a, q, acc)) : It.goS l t tol (-1) 2 0 (bs.take (j + 1)) = match It.costOf l a b t tol with
    | none => none
    | some (d, c) => some (b, c, It.stepT acc d (It.unlike c q)) := by
  rw [It.take_snoc hb, It.goS_app, h]
  simp only [Option.bind_some, It.goS]
  cases It.costOf l a b t tol with
  | none => rfl
  | some y => rfl
theorem goS_stop {l : List It.Itm} {t tol : Int} {bs : List Int} {j : Nat} (h : It.goS l t tol (-1) 2 0 (bs.take j) = none) : It.goS l t tol (-1) 2 0 bs = none := by
  rw [← List.take_append_drop j bs, It.goS_app, h]; rfl
theorem total_bad {l : List It.Itm} {t tol : Int} {bs : List Int} (h : It.totOk l bs = false) : It.total l bs t tol = none := by unfold It.total; rw [h]; rfl
theorem total_ok {l : List It.Itm} {t tol : Int} {bs : List Int} (h : It.totOk l bs = true) : It.total l bs t tol = (It.goS l t tol (-1) 2 0 bs).map (·.2.2) := by unfold It.total; rw [if_pos h]
theorem totOk_nil (l : List It.Itm) : It.totOk l [] = false := by simp [It.totOk]
theorem totOk_at {l : List It.Itm} {bs : List Int} {m : Nat} {x : Int} (hm : bs.length = m + 1) (hx : bs[m]? = some x) : It.totOk l bs = decide (x = (l.length : Int) - 1) := by
  unfold It.totOk
  rw [List.getLast?_eq_getElem?, hm, Nat.add_sub_cancel, hx]
  simp
theorem cost_cls {l : List It.Itm} {a b t tol d c : Int} (h : It.costOf l a b t tol = some (d, c)) : 0 ≤ c ∧ c ≤ 3 := (It.costOf_more h).2

end Go.Proofs.Ytdimfmpolbijeaa
