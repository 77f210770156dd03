/-
  Four cells of a record: laid, set, read.
-/
import Derived.Test.YtmehldekebphfaaGreatDoorFixed7
set_option linter.unusedVariables false
set_option linter.unusedSimpArgs false
namespace Go.Proofs.YtmehldekebphfaaGreatDoor
open Go.RowKit

/-- four cells that were laid, none of them frozen -/
theorem four_of {w : World} {p : Nat} {a b c d : Value} {T : TypeId} (h1 : w.heap[p]? = some (.cells #[a, b, c, d] T (0, 0))) :
    w.cell? ⟨p, 0, none⟩ = some a ∧ w.cell? ⟨p, 1, none⟩ = some b ∧ w.cell? ⟨p, 2, none⟩ = some c ∧ w.cell? ⟨p, 3, none⟩ = some d := by
  refine ⟨?_, ?_, ?_, ?_⟩
  all_goals (rw [Lib.cell_of_heap h1]; rfl)
theorem new_four (w : World) (p : Nat) (hp : w.heap.size = p) (a b c d : Value) (T : TypeId) {w' : World} (hb : Below (w.alloc (.cells #[a, b, c, d] T)).heap.size (w.alloc (.cells #[a, b, c, d] T)) w') :
    w'.heap[p]? = some (.cells #[a, b, c, d] T (0, 0)) ∧ (w'.cell? ⟨p, 0, none⟩ = some a ∧ w'.cell? ⟨p, 1, none⟩ = some b ∧ w'.cell? ⟨p, 2, none⟩ = some c ∧ w'.cell? ⟨p, 3, none⟩ = some d) ∧
    (w'.frozen? ⟨p, 0, none⟩ = false ∧ w'.frozen? ⟨p, 1, none⟩ = false ∧ w'.frozen? ⟨p, 2, none⟩ = false ∧ w'.frozen? ⟨p, 3, none⟩ = false) := by
  subst hp
  have h1 : w'.heap[w.heap.size]? = some (.cells #[a, b, c, d] T (0, 0)) := (hb.block _ (by rw [World.size_alloc]; omega)).trans (heap_alloc_new _ _)
  exact ⟨h1, four_of h1, Lib.frozen_of_heap h1 0, Lib.frozen_of_heap h1 1, Lib.frozen_of_heap h1 2, Lib.frozen_of_heap h1 3⟩
theorem set_four {w : World} {p : Nat} {a b c d x y z t : Value} {T : TypeId} (h : w.heap[p]? = some (.cells #[x, y, z, t] T (0, 0))) :
    ((((w.setCell ⟨p, 0, none⟩ a).setCell ⟨p, 1, none⟩ b).setCell ⟨p, 2, none⟩ c).setCell ⟨p, 3, none⟩ d).cell? ⟨p, 0, none⟩ = some a ∧ ((((w.setCell ⟨p, 0, none⟩ a).setCell ⟨p, 1, none⟩ b).setCell ⟨p, 2, none⟩ c).setCell ⟨p, 3, none⟩ d).cell? ⟨p, 1, none⟩ = some b ∧
    ((((w.setCell ⟨p, 0, none⟩ a).setCell ⟨p, 1, none⟩ b).setCell ⟨p, 2, none⟩ c).setCell ⟨p, 3, none⟩ d).cell? ⟨p, 2, none⟩ = some c ∧ ((((w.setCell ⟨p, 0, none⟩ a).setCell ⟨p, 1, none⟩ b).setCell ⟨p, 2, none⟩ c).setCell ⟨p, 3, none⟩ d).cell? ⟨p, 3, none⟩ = some d := by
  have h0 := heap_setCell_same w p 0 _ T a h
  have h1 := heap_setCell_same _ p 1 _ T b h0
  have h2 := heap_setCell_same _ p 2 _ T c h1
  have h3 := heap_setCell_same _ p 3 _ T d h2
  exact four_of (T := T) h3
end Go.Proofs.YtmehldekebphfaaGreatDoor
