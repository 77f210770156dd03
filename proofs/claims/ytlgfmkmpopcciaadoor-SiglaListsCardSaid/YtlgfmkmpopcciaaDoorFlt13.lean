/-
  The landed noTable and noKey: the faults of lists of keys.
-/
import Derived.Test.YtlgfmkmpopcciaaDoorApp13
set_option linter.unusedVariables false
set_option linter.unusedSimpArgs false
namespace Go.Proofs.YtlgfmkmpopcciaaDoor
open Go.RowKit

theorem two_of13 {w : World} {p : Nat} {a b : Value} {T : TypeId} (h1 : w.heap[p]? = some (.cells #[a, b] T (0, 0))) :
    w.cell? ⟨p, 0, none⟩ = some a ∧ w.cell? ⟨p, 1, none⟩ = some b := by
  refine ⟨?_, ?_⟩
  all_goals (rw [Lib.cell_of_heap h1]; rfl)
theorem set_two13 {w : World} {p : Nat} {a b x y : Value} {T : TypeId} (h : w.heap[p]? = some (.cells #[x, y] T (0, 0))) :
    ((w.setCell ⟨p, 0, none⟩ a).setCell ⟨p, 1, none⟩ b).heap[p]? = some (.cells #[a, b] T (0, 0)) := by
  have h0 := heap_setCell_same w p 0 _ T a h
  exact heap_setCell_same _ p 1 _ T b h0
theorem new_two13 (w : World) (p : Nat) (hp : w.heap.size = p) (a b : Value) (T : TypeId) : (w.alloc (.cells #[a, b] T)).heap[p]? = some (.cells #[a, b] T (0, 0)) := obj_new w p hp _ T
theorem below_two13 {w w1 : World} {p : Nat} {a b : Value} (hp : w.heap.size ≤ p) (hb : Below w.heap.size w w1) : Below w.heap.size w ((w1.setCell ⟨p, 0, none⟩ a).setCell ⟨p, 1, none⟩ b) :=
  (hb.setCell (p := ⟨p, 0, none⟩) hp _).setCell (p := ⟨p, 1, none⟩) hp _
set_option maxHeartbeats 1000000 in
set_option maxRecDepth 100000 in
theorem noTable_any (w : World) : Calls Tryd.prog 39 #[] w (Ret (flt 130 (-1)) w) := by
  go_enter Tryd.func39, Tryd.ntmps39
  go_wp2
  exact bodyPost_ret (v := flt 130 (-1)) (by simp [results, Tryd.results39, go_sem, flt]) rfl ⟨rfl, below_alloc _ _⟩
set_option maxHeartbeats 1000000 in
set_option maxRecDepth 100000 in
theorem noKey_any (n : Int) (w : World) : Calls Tryd.prog 40 #[.int .i64 n] w (Ret (flt 133 n) w) := by
  go_enter Tryd.func40, Tryd.ntmps40
  go_wp2
  exact bodyPost_ret (v := flt 133 n) (by simp [results, Tryd.results40, go_sem, flt]) rfl ⟨rfl, below_alloc _ _⟩
end Go.Proofs.YtlgfmkmpopcciaaDoor
