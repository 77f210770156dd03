/-
  Glue and items held against one another.
-/
import Derived.Test.YtffjboddnjbepaaMem9
import Derived.Test.YtffjboddnjbepaaFltEq
set_option linter.unusedVariables false
set_option linter.unusedSimpArgs false
namespace Go.Proofs.Ytffjboddnjbepaa
open Go.RowKit

theorem eq_step (d : Nat) (xs ys : Array Value) (fs : List Field) (n : String) (t : TypeId) (o : Nat) (r : List (String × TypeId × Nat)) (h : fs.map (fun f => (f.name, f.type, f.offset)) = (n, t, o) :: r) (hn : n ≠ "_") (w : World) (a b : Value) (q : Bool)
    (ha : (part t xs o).run Try.prog w = .ok a w) (hb : (part t ys o).run Try.prog w = .ok b w) (hq : (Op.equalIn d t a b).run Try.prog w = .ok q w) :
    ∃ fs', fs'.map (fun f : Field => (f.name, f.type, f.offset)) = r ∧ (Op.eqFields d xs ys fs).run Try.prog w = if q = true then (Op.eqFields d xs ys fs').run Try.prog w else .ok false w := by
  obtain ⟨fs', h1, e1⟩ := eqFields_names d xs ys fs n t o r h hn
  refine ⟨fs', h1, ?_⟩
  rw [e1]
  simp only [Sem.run_bind, ha, hb, hq, Result.andThen_ok]
  cases q <;> simp
theorem eq_done (d : Nat) (xs ys : Array Value) (fs : List Field) (h : fs.map (fun f : Field => (f.name, f.type, f.offset)) = []) (w : World) : (Op.eqFields d xs ys fs).run Try.prog w = .ok true w := by
  obtain rfl : fs = [] := by simpa using h
  simp [Op.eqFields]
theorem gl_ext {g h : It.Gl} : (g = h) ↔ (g.w = h.w ∧ g.st = h.st ∧ g.sk = h.sk ∧ g.o = h.o) := by
  obtain ⟨a, b, c, d⟩ := g
  obtain ⟨e, f, i, j⟩ := h
  simp
theorem it_ext {g h : It.Itm} : (g = h) ↔ (g.k = h.k ∧ g.g = h.g ∧ g.p = h.p ∧ g.f = h.f ∧ g.n = h.n ∧ g.q = h.q) := by
  obtain ⟨a, b, c, d, e, f⟩ := g
  obtain ⟨a', b', c', d', e', f'⟩ := h
  simp

/-! ### small tests -/
end Go.Proofs.Ytffjboddnjbepaa
