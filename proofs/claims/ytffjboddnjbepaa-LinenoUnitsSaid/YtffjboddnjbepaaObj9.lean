/-
  Blocks of memory whole: laid, kept, set; laws on a region's operations.
-/
import Derived.Test.YtffjboddnjbepaaMem9
import Derived.Deep.AppendLies
import Derived.Deep.RegionHeld
import Derived.Deep.RegionLaw
import Derived.Deep.RegionHeld3
import Derived.Deep.DeepCutAuto
set_option linter.unusedVariables false
set_option linter.unusedSimpArgs false
namespace Go.Proofs.Ytffjboddnjbepaa
open Go.RowKit

theorem lt_of_obj {w : World} {b : Nat} {o : Obj} (h : w.heap[b]? = some o) : b < w.heap.size := by
  rcases Nat.lt_or_ge b w.heap.size with h' | h'
  · exact h'
  · rw [Array.getElem?_eq_none h'] at h; cases h
theorem obj_kept {w w' : World} {b : Nat} {o : Obj} (hb : Below w.heap.size w w') (h : w.heap[b]? = some o) : w'.heap[b]? = some o := by rw [hb.block _ (lt_of_obj h)]; exact h
theorem obj_new (w : World) (p : Nat) (hp : w.heap.size = p) (cs : Array Value) (T : TypeId) : (w.alloc (.cells cs T)).heap[p]? = some (.cells cs T (0, 0)) := by subst hp; exact heap_alloc_new w _
theorem obj_far {w w' : World} {row : Option Nat} {b : Nat} {o : Obj} (h : w.heap[b]? = some o) (hg : w.grownBy w' row) (hne : some b ≠ row) : w'.heap[b]? = some o := by rw [hg.block b (lt_of_obj h) hne]; exact h
theorem obj_set {w : World} {b p i : Nat} {v : Value} {o : Obj} (h : w.heap[b]? = some o) (hne : b ≠ p) : (w.setCell ⟨p, i, none⟩ v).heap[b]? = some o := by rw [Below.heap_setCell w ⟨p, i, none⟩ v b hne]; exact h
theorem cell_lay (w : World) (cs : Array Value) (T : TypeId) (j : Nat) (u : Value) (hj : cs[j]? = some u) : (w.alloc (.cells cs T)).cell? ⟨w.heap.size, j, none⟩ = some u := by
  have h1 : (w.alloc (.cells cs T)).heap[w.heap.size]? = some (.cells cs T (0, 0)) := heap_alloc_new _ _
  rw [Lib.cell_of_heap h1]
  exact hj
theorem below_drew9 (w : World) : Below w.heap.size w w.drew := ⟨rfl, rfl, rfl, Nat.le_refl _, fun _ _ => rfl⟩
theorem OwnR.set9 {α : Type} {T : TypeId} {f : α → List Value} {k B p i : Nat} {v y : Value} {l : List α} {w : World} (h : OwnR T f k B v l w) (hp : p < B) : OwnR T f k B v l (w.setCell ⟨p, i, none⟩ y) := by
  refine World.ownsRow.kept h (row := some p) ?_ ?_
  · have hb : Below 0 w (w.setCell ⟨p, i, none⟩ y) := (Below.refl 0 w).setCell (p := ⟨p, i, none⟩) (Nat.zero_le _) y
    refine ⟨hb.os, hb.tape, hb.output, hb.size, fun j hj hne => ?_⟩
    exact Below.heap_setCell w ⟨p, i, none⟩ y j (fun e => hne (by rw [e]))
  · exact .inr fun e => by
      have := (World.ownsRow.lt h p e).1
      omega

theorem own_off9 {w : World} {B F s n b : Nat} {u : Value} {ys : List Value} {cs : Array Value} {T : TypeId} {fr : Nat × Nat} (h : w.ownsRow B F s u n ys) (hb : w.heap[b]? = some (.cells cs T fr)) (hT : T ≠ F) : some b ≠ u.ownBlock := fun hq => by
  rcases h.2 with ⟨hv0, _⟩ | ⟨gg, cp, cu, hv0, _, hgb, _⟩
  · rw [hv0] at hq; cases hq
  · rw [hv0] at hq
    simp [Value.ownBlock] at hq
    subst hq
    rw [hb] at hgb
    injection hgb with hgb
    injection hgb with _ hgb _
    exact hT hgb
/-- an operation that yields where S holds may be taken first: what it is, said apart -/
theorem take_op {P : Program} {md : Region.Mode} {ops : Array Oper} {Q : Exit → Act → World → Prop} {S : World → Prop} {i : Nat} {d : Tmp} {op : Op} {ty : TypeId} {v : Value} {fuel : Nat} {listed : Array Bool} {a : Act} {w : World}
    (hi : (ops[i]?).map (fun o => (o.dst, o.op, o.type)) = some (some d, op, ty)) (hg : (ops[i]?).map (fun o => o.guard) = some none)
    (hs : Region.noSelect ops = true) (hf : Region.free md ops listed i = true) (hr : (Region.ready md ops listed).contains i = true)
    (hQ : ∀ c a w, Q (.panic c) (a.put (some d) v) w → Q (.panic c) a w)
    (hy : ∀ w, S w → (execOp a.eval { dst := some d, op := op, type := ty, pos := "", after := #[], guard := none }).run P w = .ok (.value v) w) (hS : S w)
    (h : wpAnyH P md ops Q S fuel (listed.setIfInBounds i true) (a.put (some d) v) w) : wpAnyH P md ops Q S (fuel + 1) listed a w := by
  cases ho : ops[i]? with
  | none => rw [ho] at hi; cases hi
  | some o =>
    rw [ho] at hi hg
    obtain ⟨dst, op', ty', pos, aft, gd⟩ := o
    simp only [Option.map_some, Option.some.injEq, Prod.mk.injEq] at hi hg
    obtain ⟨rfl, rfl, rfl⟩ := hi
    subst hg
    exact wpAnyH_take ho hs hf hr hQ (.inl ⟨by simp [Region.wanted], hy⟩) hS h

end Go.Proofs.Ytffjboddnjbepaa
