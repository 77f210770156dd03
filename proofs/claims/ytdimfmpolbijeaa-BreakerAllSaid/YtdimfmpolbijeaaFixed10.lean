/-
  The answers that the document fixes (layer 10): the statements' 'fixed' returns true.
-/
import Derived.Test.YtdimfmpolbijeaaTot10
set_option linter.unusedVariables false
set_option linter.unusedSimpArgs false
namespace Go.Proofs.Ytdimfmpolbijeaa
open Go.RowKit

/-- a row that is built whole is the call's own -/
theorem own_new {α : Type} {f : α → List Value} {k : Nat} (hf : ∀ x, (f x).length = k) (w : World) (l : List α) (T : TypeId) (hl : l.length ≤ 100000) (cs : Array Value) (hcs : cs.toList = l.flatMap f) : OwnR T f k w.heap.size (.slice (some ⟨w.heap.size, 0, none⟩) l.length l.length) l (w.alloc (.cells cs T)) := by
  have hsz : cs.size = l.length * k := by rw [← Array.length_toList, hcs, flat_len hf]
  refine ⟨flat_len hf l, .inr ⟨w.heap.size, l.length, cs, rfl, Nat.le_refl _, heap_alloc_new w _, Nat.le_refl _, by unfold maxLen; omega, hsz, ?_⟩⟩
  rw [hcs, List.take_of_length_le (by rw [flat_len hf]; exact Nat.le_refl _)]
def boxF : It.Itm := ⟨0, ⟨10, 0, 0, 0⟩, 0, false, 0, 0⟩
def oneL : List It.Itm := [boxF] ++ It.endI
theorem oneL_len : oneL.length = 4 := rfl

set_option maxHeartbeats 2000000 in
set_option maxRecDepth 100000 in
theorem end_any (w : World) : Calls Try.prog 34 #[] w fun e w' => e = .returned (.slice (some ⟨w.heap.size, 0, none⟩) 3 3) ∧ ItsAt w' (.slice (some ⟨w.heap.size, 0, none⟩) 3 3) It.endI ∧ Below w.heap.size w w' := by
  have HS := Lib.hid (slc_new itC_len w w.heap.size rfl It.endI 47 (by simp [It.endI]) #[.int .i64 2, .int .i64 0, .int .i64 0, .int .i64 0, .int .i64 0, .int .i64 10000, .bool false, .int .i64 0, .int .i64 0, .int .i64 1, .int .i64 0, .int .i64 65536, .int .i64 0, .int .i64 1, .int .i64 0, .bool false, .int .i64 0, .int .i64 0, .int .i64 2, .int .i64 0, .int .i64 0, .int .i64 0, .int .i64 0, .int .i64 (-10000), .bool false, .int .i64 0, .int .i64 0] rfl)
  have HB := Lib.hid (below_alloc w (.cells #[.int .i64 2, .int .i64 0, .int .i64 0, .int .i64 0, .int .i64 0, .int .i64 10000, .bool false, .int .i64 0, .int .i64 0, .int .i64 1, .int .i64 0, .int .i64 65536, .int .i64 0, .int .i64 1, .int .i64 0, .bool false, .int .i64 0, .int .i64 0, .int .i64 2, .int .i64 0, .int .i64 0, .int .i64 0, .int .i64 0, .int .i64 (-10000), .bool false, .int .i64 0, .int .i64 0] 47))
  go_enter Try.func34, Try.ntmps34
  go_wp2
  go_ret
  exact ⟨rfl, HS.out, HB.out⟩

theorem fx1 : It.costOf oneL (-1) 3 10 200 = some (100, 2) := by decide +kernel
theorem fx2 : It.costOf oneL (-1) 3 70000 200 = some (100, 2) := by decide +kernel
theorem fx3 : It.costOf oneL (-1) 3 9 10000 = none := by decide +kernel
theorem fx4 : It.total oneL [3] 10 0 = some 100 := by decide +kernel
theorem fx5 : It.legal oneL 3 = true := by decide +kernel
theorem fx6 : It.legal oneL 1 = false := by decide +kernel
theorem fx7 : It.st oneL 0 = 0 := by decide +kernel
theorem fx8 : (It.gluesN oneL 0 3).length = 3 := by decide +kernel

end Go.Proofs.Ytdimfmpolbijeaa
