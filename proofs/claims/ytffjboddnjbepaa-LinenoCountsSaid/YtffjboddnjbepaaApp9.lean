/-
  Appending records to a row of a call's own; the reference's Glues; the landed item.May, and the reference's; both Boxes; Same.
-/
import Derived.Test.YtffjboddnjbepaaObj9
import Derived.Test.YtffjboddnjbepaaEqs9
import Derived.Laws.OwnMore
set_option linter.unusedVariables false
set_option linter.unusedSimpArgs false
namespace Go.Proofs.Ytffjboddnjbepaa
open Go.RowKit

theorem append_none_any {w : World} (base : Nat) (t ty e : TypeId) (i : TypeInfo) (size : Nat) (ht : Try.prog.underlying t = some (.slice e)) (hi : Try.prog.info? e = some i)
    (v : Value) (n : Nat) (xs : List Value) (hown : w.ownsRow base e size v n xs) (c : Nat) :
    (Builtin.append_ #[t, t] ty #[v, .slice none 0 c]).run Try.prog w = .ok v w := by
  rcases hown.2 with ⟨rfl, rfl⟩ | ⟨g, cap, cur, rfl, _, _, hnc, _⟩
  · simp [Builtin.append_, run_underlying ht, sizeOf, typeInfo, hi, Builtin.lenOf, Builtin.firstCells]
  · simp [Builtin.append_, run_underlying ht, sizeOf, typeInfo, hi, Builtin.lenOf, Builtin.firstCells, hnc, storeCells]
set_option maxRecDepth 100000 in
/-- a slice of records, appended to a row of the call's own -/
theorem wpList_append_slc {α : Type} {f : α → List Value} {k bytes : Nat} {T S : TypeId} {z : Value} (hS : Try.prog.underlying S = some (.slice T)) (hT : (Try.prog.info? T).map (fun i => (i.zero, i.size, i.bytes)) = some (some z, k, bytes)) (hzk : z.cells.size = k) (hk : 0 < k)
    (hf : ∀ x, (f x).length = k) (h1 : ∀ l : List α, ∀ u ∈ l.flatMap f, u.oneCell' = true)
    {w : World} {ops : Array Oper} {rest : List Oper} {o : Oper} {a : Act} {Q : Exit → Act → World → Prop} (hw : Region.wanted o (yielded ops a.tmps) = true) (s x : Operand)
    (ho : o.op = .call { callee := .builtin .append, args := #[s, x], argTypes := #[S, S] })
    (base : Nat) (v u : Value) (xs ys : List α) (hs : a.eval s = v) (hown : OwnR T f k base v xs w) (hx : a.eval x = u) (hsrc : SlcAt f k w u ys) (hlen : (xs.length + ys.length) * bytes ≤ 140737488355328) (hmax : xs.length + ys.length ≤ maxLen) (hbase : base ≤ w.heap.size)
    (h : ∀ v' w', OwnR T f k base v' (xs ++ ys) w' → w.grownBy w' v.ownBlock → wpList Try.prog ops Q rest (a.put o.dst v') w') : wpList Try.prog ops Q (o :: rest) a w := by
  obtain ⟨i0, hi, hz0, hz1, hz2⟩ := info_parts hT
  obtain ⟨⟨p, cap, rfl, hcap⟩, hm, hkk⟩ := hsrc
  refine wpList_step fun K hK => ?_
  rw [if_pos hw]
  cases p with
  | none =>
    have hn : ys = [] := by
      rcases Nat.eq_zero_or_pos ys.length with h0 | h0
      · exact List.eq_nil_of_length_eq_zero h0
      · obtain ⟨b, o', c', e, _⟩ := hkk h0
        injection e with e1
        cases e1
    subst hn
    have hrun := append_none_any base S o.type T i0 k hS hi v xs.length _ hown cap
    simp only [List.length_nil] at hx
    unfold Oper.wp
    simp [execOp, ho, resolve, invoke, builtin, hs, hx, hrun, Result.andThen]
    exact hK _ _ (h v w (by rw [List.append_nil]; exact hown) ⟨rfl, rfl, rfl, Nat.le_refl _, fun _ _ _ => rfl⟩)
  | some ad =>
    refine wp_append_own w s x _ ho base T i0 _ k bytes hS hi hz0 hz1 hz2 hzk hk v xs.length _ hs hown ad ys.length cap (ys.flatMap f) hx (flat_len hf ys) (fun j u hu => ?_) (h1 ys) hmax hlen hbase fun v' w' h1 h2 _ => hK _ _ (h v' w' ?_ h2)
    · have hp : 0 < ys.length := by
        rcases Nat.eq_zero_or_pos ys.length with h0 | h0
        · obtain rfl := List.eq_nil_of_length_eq_zero h0
          simp at hu
        · exact h0
      obtain ⟨b, o', c', e, hc⟩ := hkk hp
      injection e with e1
      injection e1 with e1
      subst e1
      rw [add_none]
      exact flat_cells hf hc j u hu
    · unfold OwnR
      rw [List.length_append, List.flatMap_append]
      exact h1
/-- records that are laid in a new block -/
theorem slc_new {α : Type} {f : α → List Value} {k : Nat} (hf : ∀ x, (f x).length = k) (w : World) (p : Nat) (hp : w.heap.size = p) (l : List α) (T : TypeId) (hl : l.length ≤ 100000) (cs : Array Value) (hcs : cs.toList = l.flatMap f) : SlcAt f k (w.alloc (.cells cs T)) (.slice (some ⟨p, 0, none⟩) l.length l.length) l := by
  subst hp
  refine ⟨⟨_, _, rfl, Nat.le_refl _⟩, by unfold maxLen; omega, fun _ => ⟨w.heap.size, 0, _, rfl, fun i x hi j u hj => ?_⟩⟩
  have h := flat_at hf l i x hi j u hj
  rw [Nat.zero_add]
  refine cell_lay w _ _ _ _ ?_
  rw [← Array.getElem?_toList, hcs]
  exact h
theorem OwnR.grown {α : Type} {T : TypeId} {f : α → List Value} {k B : Nat} {v : Value} {l : List α} {w w' : World} {row : Option Nat} (h : OwnR T f k B v l w) (hg : w.grownBy w' row) (hne : v.ownBlock = none ∨ v.ownBlock ≠ row) : OwnR T f k B v l w' := World.ownsRow.kept h hg hne
theorem below_app {B : Nat} {w0 w w' : World} {v : Value} {e : TypeId} {size n : Nat} {xs : List Value} (h : Below B w0 w) (hg : w.grownBy w' v.ownBlock) (hown : w.ownsRow B e size v n xs) (hB : B ≤ w.heap.size) : Below B w0 w' :=
  h.grown hg hB (fun q hq => (World.ownsRow.lt hown q hq).1)
theorem below_grow {B : Nat} {w0 w : World} (h : Below B w0 w) (o : Obj) (hB : B ≤ w.heap.size) : Below B w0 (w.alloc o) := h.trans ((below_alloc w o).mono hB)
theorem own_empty {α : Type} (T : TypeId) (f : α → List Value) (k : Nat) (w : World) : OwnR T f k w.heap.size (.slice (some ⟨w.heap.size, 0, none⟩) 0 0) [] (w.alloc (.cells #[] T)) := World.ownsRow_made w #[] 0 (Nat.le_refl _) (by unfold maxLen; omega) (by simp)

/-! ### Glues -/
theorem gls_take {l : List It.Itm} {k : Nat} {x : It.Itm} (h : l[k]? = some x) : It.gls (l.take (k + 1)) = It.gls (l.take k) ++ [x.g] := by
  unfold It.gls
  rw [It.take_snoc h, List.map_append]; rfl
end Go.Proofs.Ytffjboddnjbepaa
