/-
  What holds between two rounds of the landed Expand; what the steps of a round leave as it was.
-/
import Derived.Test.YtlgfmkmpopcciaaDoorSplit13
import Derived.Test.YtlgfmkmpopcciaaDoorFind13
set_option linter.unusedVariables false
set_option linter.unusedSimpArgs false
namespace Go.Proofs.YtlgfmkmpopcciaaDoor
open Go.RowKit Go.Maps Go.Shelf

theorem OwnR.down13 {α : Type} {T : TypeId} {f : α → List Value} {k B B' : Nat} {v : Value} {l : List α} {w : World} (h : OwnR T f k B v l w) (hB : B' ≤ B) : OwnR T f k B' v l w := by
  rcases h with ⟨h0, h | ⟨g, cap, cur, rfl, hg, rest⟩⟩
  · exact ⟨h0, .inl h⟩
  · exact ⟨h0, .inr ⟨g, cap, cur, rfl, by omega, rest⟩⟩
/-- what Expand answers -/
def ExpPost (r : List (List UInt8) × Int × Int) (w : World) (e : Ending) (w' : World) : Prop := ∃ v, e = .returned (.tuple #[v, flt r.2.1 r.2.2]) ∧ OwnTx w.heap.size v r.1 w' ∧ Below w.heap.size w w'
/-- the table's box, and the cells of the two results -/
structure ExpB (B : Nat) (sl : Value) (W : World) : Prop where
  tb : W.heap[B]? = some (.cells #[sl] 22 (0, 0))
  rb : W.heap[B + 1]? = some (.cells #[.slice none 0 0] 34 (0, 0))
  fb : W.heap[B + 1 + 1]? = some (.cells #[.int .i64 0, .int .i64 0] 26 (0, 0))
theorem ExpB.below {B : Nat} {sl : Value} {W W' : World} (h : ExpB B sl W) (hb : Below W.heap.size W W') : ExpB B sl W' := ⟨obj_kept hb h.tb, obj_kept hb h.rb, obj_kept hb h.fb⟩
theorem one_cell13 {w : World} {p : Nat} {a : Value} {T : TypeId} (h : w.heap[p]? = some (.cells #[a] T (0, 0))) : w.cell? ⟨p, 0, none⟩ = some a := by rw [Lib.cell_of_heap h]; rfl
theorem ExpB.cells {B : Nat} {sl : Value} {W : World} (h : ExpB B sl W) : W.cell? ⟨B, 0, none⟩ = some sl ∧ W.cell? ⟨B + 1, 0, none⟩ = some (.slice none 0 0) ∧ W.cell? ⟨B + 1 + 1, 0, none⟩ = some (.int .i64 0) ∧ W.cell? ⟨B + 1 + 1, 1, none⟩ = some (.int .i64 0) :=
  ⟨one_cell13 h.tb, one_cell13 h.rb, (two_of13 h.fb).1, (two_of13 h.fb).2⟩
theorem ExpB.calm {B : Nat} {sl : Value} {W : World} (h : ExpB B sl W) : W.frozen? ⟨B + 1, 0, none⟩ = false ∧ W.frozen? ⟨B + 1 + 1, 0, none⟩ = false ∧ W.frozen? ⟨B + 1 + 1, 1, none⟩ = false :=
  ⟨Lib.frozen_of_heap h.rb 0, Lib.frozen_of_heap h.fb 0, Lib.frozen_of_heap h.fb 1⟩
/-- a slice and a fault stored into the two results -/
theorem ExpB.results {B : Nat} {sl v x y : Value} {W : World} (h : ExpB B sl W) :
    (((W.setCell ⟨B + 1, 0, none⟩ v).setCell ⟨B + 1 + 1, 0, none⟩ x).setCell ⟨B + 1 + 1, 1, none⟩ y).heap[B + 1]? = some (.cells #[v] 34 (0, 0)) ∧
    (((W.setCell ⟨B + 1, 0, none⟩ v).setCell ⟨B + 1 + 1, 0, none⟩ x).setCell ⟨B + 1 + 1, 1, none⟩ y).heap[B + 1 + 1]? = some (.cells #[x, y] 26 (0, 0)) := by
  constructor
  · refine obj_set (obj_set ?_ (by omega)) (by omega)
    exact heap_setCell_same W (B + 1) 0 _ _ v h.rb
  · exact set_two13 (obj_set h.fb (by omega))
/-- what stands but for the keys' box: the table's box, the results, the map's box and the map, the words' number -/
structure ExpO (w : World) (sl : Value) (M b : Nat) (K : List (List UInt8)) (i : Nat) (W : World) : Prop where
  eb : ExpB w.heap.size sl W
  mb : W.heap[M]? = some (.cells #[.map (some b)] 66 (0, 0))
  ib : W.heap[M + 1 + 1]? = some (.cells #[.int .i64 (i : Int)] 3 (0, 0))
  ma : MapAt W b K
  be : Below w.heap.size w W
  sz : M + 6 ≤ W.heap.size
theorem MapAt.turn {w w' : World} {b : Nat} {l : List (List UInt8)} {row : Option Nat} (h : MapAt w b l) (hg : w.grownBy w' row) (hne : some b ≠ row) : MapAt w' b l := by
  obtain ⟨D, n, ho, hi, hn⟩ := h
  exact ⟨D, n, ho.kept hg hne, hi, hn⟩
/-- a block from M + 1 on may turn, but for M + 2 -/
theorem ExpO.turn {w : World} {sl : Value} {M b : Nat} {K : List (List UInt8)} {i : Nat} {W W' : World} {row : Option Nat} (h : ExpO w sl M b K i W) (hM : w.heap.size + 1 + 1 < M) (hb : b < M) (hg : W.grownBy W' row) (hr : ∀ r, row = some r → M < r ∧ r ≠ M + 1 + 1) : ExpO w sl M b K i W' := by
  have ne : ∀ {k : Nat}, k < M ∨ k = M ∨ k = M + 1 + 1 → some k ≠ row := fun hk e => by
    obtain ⟨h1, h2⟩ := hr _ e.symm
    omega
  refine ⟨⟨obj_far h.eb.tb hg (ne (by omega)), obj_far h.eb.rb hg (ne (by omega)), obj_far h.eb.fb hg (ne (by omega))⟩, obj_far h.mb hg (ne (by omega)), obj_far h.ib hg (ne (by omega)), h.ma.turn hg (ne (by omega)), h.be.grown hg h.be.size (fun k e => ?_), Nat.le_trans h.sz hg.size⟩
  have := (hr k e).1
  omega
theorem ExpO.below {w : World} {sl : Value} {M b : Nat} {K : List (List UInt8)} {i : Nat} {W W' : World} (h : ExpO w sl M b K i W) (hb : Below W.heap.size W W') : ExpO w sl M b K i W' :=
  ⟨h.eb.below hb, obj_kept hb h.mb, obj_kept hb h.ib, h.ma.mono hb, below_step h.be hb, Nat.le_trans h.sz hb.size⟩
/-- the keys so far, in their box -/
def KeysAt (M : Nat) (out : List (List UInt8)) (W : World) : Prop := ∃ a c, W.heap[M + 1]? = some (.cells #[.slice a out.length c] 34 (0, 0)) ∧ OwnTx (M + 6) (.slice a out.length c) out W
theorem KeysAt.below {M : Nat} {out : List (List UInt8)} {W W' : World} (h : KeysAt M out W) (hb : Below W.heap.size W W') : KeysAt M out W' := by
  obtain ⟨a, c, h1, h2⟩ := h
  exact ⟨a, c, obj_kept hb h1, h2.mono hb⟩
theorem KeysAt.turn {M : Nat} {out : List (List UInt8)} {W W' : World} {row : Option Nat} (h : KeysAt M out W) (hg : W.grownBy W' row) (hr : ∀ r, row = some r → M + 1 < r ∧ (r < M + 6 ∨ ∃ o, W.heap[r]? = some o ∧ o.isCells = false)) : KeysAt M out W' := by
  obtain ⟨a, c, h1, h2⟩ := h
  refine ⟨a, c, obj_far h1 hg (fun e => by have := (hr _ e.symm).1; omega), h2.grown hg ?_⟩
  rcases h2.2 with ⟨e, _⟩ | ⟨g, cap, cur, e, hg2, hob, _⟩
  · left; rw [e]; rfl
  · right
    rw [e]
    intro e2
    have e3 : some g = row := by simpa [Value.ownBlock] using e2
    obtain ⟨h3, h4⟩ := hr g e3.symm
    rcases h4 with h4 | ⟨o, ho, hc⟩
    · omega
    · rw [hob] at ho; cases ho; cases hc
theorem ExpO.count {w : World} {sl : Value} {M b : Nat} {K : List (List UInt8)} {i : Nat} {W : World} (h : ExpO w sl M b K i W) (hM : w.heap.size + 1 + 1 < M) (hb : b < M) (j : Nat) : ExpO w sl M b K j (W.setCell ⟨M + 1 + 1, 0, none⟩ (.int .i64 (j : Int))) := by
  refine ⟨⟨obj_set h.eb.tb (by omega), obj_set h.eb.rb (by omega), obj_set h.eb.fb (by omega)⟩, obj_set h.mb (by omega), ?_, h.ma.set (by omega), h.be.setCell (p := ⟨M + 1 + 1, 0, none⟩) (by show w.heap.size ≤ M + 1 + 1; omega) _, ?_⟩
  · exact heap_setCell_same W (M + 1 + 1) 0 _ _ _ h.ib
  · exact Nat.le_trans h.sz (KeepsOthers.setCell W _ _).size
theorem KeysAt.count {M : Nat} {out : List (List UInt8)} {W : World} (h : KeysAt M out W) (v : Value) : KeysAt M out (W.setCell ⟨M + 1 + 1, 0, none⟩ v) := by
  obtain ⟨a, c, h1, h2⟩ := h
  exact ⟨a, c, obj_set h1 (by omega), h2.set9 (by omega)⟩
/-- what holds between two rounds -/
def ExpI (w : World) (sl : Value) (M b : Nat) (t : List Sg.Sig) (R : List (List UInt8) × Int × Int) (ws : List (List UInt8)) (pre : List (List UInt8)) (W : World) : Prop :=
  ExpO w sl M b (Sg.keys t) pre.length W ∧ ∃ out, KeysAt M out W ∧ out.length ≤ 100 * pre.length ∧ ∀ post, ws = pre ++ post → R = Sg.expandL t pre.length out post
/-- what holds behind a round that has returned -/
def ExpX (w : World) (R : List (List UInt8) × Int × Int) (_ : List (List UInt8)) (W : World) : Prop :=
  ∃ j : Int, R = ([], 133, j) ∧ W.heap[w.heap.size + 1]? = some (.cells #[.slice none 0 0] 34 (0, 0)) ∧ W.heap[w.heap.size + 1 + 1]? = some (.cells #[.int .i64 133, .int .i64 j] 26 (0, 0)) ∧ Below w.heap.size w W
theorem expI_turn {w : World} {sl : Value} {M b : Nat} {t : List Sg.Sig} {R : List (List UInt8) × Int × Int} {ws pre : List (List UInt8)} {W W' : World} {row : Option Nat} (hM : w.heap.size + 1 + 1 < M) (hb : b < M) (h : ExpI w sl M b t R ws pre W) (hg : W.grownBy W' row)
    (hr : ∀ r, row = some r → M + 3 ≤ r ∧ (r < M + 6 ∨ ∃ o, W.heap[r]? = some o ∧ o.isCells = false)) : ExpI w sl M b t R ws pre W' := by
  obtain ⟨h1, out, h2, h3, h4⟩ := h
  exact ⟨h1.turn hM hb hg (fun r e => by have := (hr r e).1; omega), out, h2.turn hg (fun r e => ⟨by have := (hr r e).1; omega, (hr r e).2⟩), h3, h4⟩
theorem expX_turn {w : World} {R : List (List UInt8) × Int × Int} {pre : List (List UInt8)} {W W' : World} {row : Option Nat} (h : ExpX w R pre W) (hg : W.grownBy W' row) (hr : ∀ r, row = some r → w.heap.size + 1 + 1 < r) : ExpX w R pre W' := by
  obtain ⟨j, h1, h2, h3, h4⟩ := h
  exact ⟨j, h1, obj_far h2 hg (fun e => by have := hr _ e.symm; omega), obj_far h3 hg (fun e => by have := hr _ e.symm; omega), h4.grown hg h4.size (fun k e => by have := hr k e; omega)⟩
theorem expI_from {w : World} {sl : Value} {M b : Nat} {t : List Sg.Sig} {R : List (List UInt8) × Int × Int} {ws : List (List UInt8)} (hM : w.heap.size + 1 + 1 < M) (hb : b < M) : OwnFrom (M + 6) (ExpI w sl M b t R ws) :=
  fun s A A' row h hg hr => expI_turn hM hb h hg (fun r e => ⟨by have := (hr r e).1; omega, .inr (hr r e).2⟩)
theorem expI_out {w : World} {sl : Value} {M b : Nat} {t : List Sg.Sig} {R : List (List UInt8) × Int × Int} {ws : List (List UInt8)} (hM : w.heap.size + 1 + 1 < M) (hb : b < M) : Outlives (M + 3) (ExpI w sl M b t R ws) :=
  fun s A A' h hg => expI_turn hM hb h hg (fun r e => by injection e with e; omega)
theorem expX_from {w : World} {M : Nat} {R : List (List UInt8) × Int × Int} (hM : w.heap.size + 1 + 1 < M) : OwnFrom (M + 6) (ExpX w R) :=
  fun s A A' row h hg hr => expX_turn h hg (fun r e => by have := (hr r e).1; omega)
theorem expX_out {w : World} {M : Nat} {R : List (List UInt8) × Int × Int} (hM : w.heap.size + 1 + 1 < M) : Outlives (M + 3) (ExpX w R) :=
  fun s A A' h hg => expX_turn h hg (fun r e => by injection e with e; omega)
/-- what a round leaves: all that is no cells from D on, and the iterator's boxes -/
structure Left13 (M : Nat) (W W' : World) : Prop where
  kf : KeepsFrom (M + 6) W W'
  bk : BoxesKept (M + 3) W W'
theorem Left13.refl (M : Nat) (W : World) : Left13 M W W := ⟨KeepsFrom.refl _ _, fun _ _ _ => rfl⟩
theorem Left13.below {M : Nat} {X Y Z : World} (h : Left13 M X Y) (hb : Below Y.heap.size Y Z) (hs : M + 6 ≤ Y.heap.size) : Left13 M X Z :=
  ⟨h.kf.trans ⟨hb.size, fun k o _ ho _ => obj_kept hb ho⟩, h.bk.trans (fun k _ hk => hb.block k (by omega))⟩
theorem Left13.set {M p i : Nat} {v : Value} {X Y : World} (h : Left13 M X Y) (hp : p < M + 3) : Left13 M X (Y.setCell ⟨p, i, none⟩ v) :=
  ⟨h.kf.trans ((KeepsOthers.setCell Y _ v).from _), h.bk.trans (fun k h1 _ => Below.heap_setCell Y ⟨p, i, none⟩ v k (by show k ≠ p; omega))⟩
theorem Left13.app {M : Nat} {X Y Z : World} {v : Value} {l : List (List UInt8)} (h : Left13 M X Y) (hg : Y.grownBy Z v.ownBlock) (ho : OwnTx (M + 6) v l Y) (hs : M + 6 ≤ Y.heap.size) : Left13 M X Z := by
  have hk : ∀ k o, Y.heap[k]? = some o → o.isCells = false ∨ k < M + 6 → Z.heap[k]? = some o := fun k o hko hc => by
    refine obj_far hko hg ?_
    rcases ho.2 with ⟨e, _⟩ | ⟨g, cap, cur, e, hg2, hob, _⟩
    · rw [e]; simp [Value.ownBlock]
    · rw [e]
      intro e2
      obtain rfl : k = g := by simpa [Value.ownBlock] using e2
      rcases hc with hc | hc
      · rw [hob] at hko; cases hko; cases hc
      · omega
  refine ⟨h.kf.trans ⟨hg.size, fun k o _ h1 h2 => hk k o h1 (.inl h2)⟩, h.bk.trans (fun k h1 h2 => ?_)⟩
  cases e : Y.heap[k]? with
  | none =>
    rw [Array.getElem?_eq_none_iff] at e
    omega
  | some o => exact hk k o e (.inr (by omega))
/-- an append within a round -/
theorem append_round {P : Program} {n l : Nat} {o : Oper} {a : Act} {w w' : World} {K : Act → World → Prop} {Q : Exit → Act → World → Prop} {s x : Operand} {t : TypeId} {v u v' : Value} (hop : o.op = Op.call { callee := Callee.builtin Builtin.append, args := #[s, x], argTypes := #[t, t] })
    (hs : a.eval s = v) (hx : a.eval x = u) (hrun : (Builtin.append_ #[t, t] o.type #[v, u]).run P w = .ok v' w') (h : K (a.put o.dst v') w') : o.wpIn (Fence.wide.inRound l) n P a w K Q := by
  unfold Oper.wpIn
  refine ⟨fun _ _ => trivial, ?_⟩
  rw [Oper.semAt_plain _ _ _ (by rw [hop]; intro c hc'; cases hc')]
  simp [execOp, hop, resolve, invoke, builtin, hs, hx, hrun, Result.andThen]
  exact h
set_option maxRecDepth 100000 in
/-- a key more, appended and stored -/
theorem exp_append {w : World} {sl : Value} {M b : Nat} {K : List (List UInt8)} {i : Nat} {W W5 : World} {acc : List (List UInt8)} {k : List UInt8} {a : Option Addr} {c : Nat} (hM : w.heap.size + 1 + 1 < M) (hb : b < M) (hO : ExpO w sl M b K i W5)
    (h1 : W5.heap[M + 1]? = some (.cells #[.slice a acc.length c] 34 (0, 0))) (h2 : OwnTx (M + 6) (.slice a acc.length c) acc W5) (hL : Left13 M W W5) (hlen : acc.length ≤ 1000000000000) :
    ∃ g cap w6, (Builtin.append_ #[34, 34] 34 #[.slice a acc.length c, .slice (some ⟨W5.heap.size, 0, none⟩) 1 1]).run Tryd.prog (W5.alloc (.cells #[.string (str k)] 9)) = .ok (.slice (some ⟨g, 0, none⟩) (acc.length + 1) cap) w6 ∧
      (∃ v, w6.cell? ⟨M + 1, 0, none⟩ = some v) ∧ w6.frozen? ⟨M + 1, 0, none⟩ = false ∧ Hid (ExpO w sl M b K i (w6.setCell ⟨M + 1, 0, none⟩ (.slice (some ⟨g, 0, none⟩) (acc.length + 1) cap))) ∧
      Hid (KeysAt M (acc ++ [k]) (w6.setCell ⟨M + 1, 0, none⟩ (.slice (some ⟨g, 0, none⟩) (acc.length + 1) cap))) ∧ Hid (Left13 M W (w6.setCell ⟨M + 1, 0, none⟩ (.slice (some ⟨g, 0, none⟩) (acc.length + 1) cap))) := by
  obtain ⟨i0, hi0, hz0, hz1, hz2⟩ := info_parts infoTx13
  have hba := below_alloc W5 (.cells #[.string (str k)] 9)
  have hO1 := hO.below hba
  have h11 := obj_kept hba h1
  have h21 := h2.mono hba
  have hL1 := hL.below hba hO.sz
  have hcell := lay_one13 W5 W5.heap.size rfl (.string (str k)) 9
  generalize hW7 : W5.alloc (.cells #[.string (str k)] 9) = W7 at *
  obtain ⟨v', w6, hrun, r1, r2, r3⟩ := run_append_own (P := Tryd.prog) W7 (M + 6) 34 34 9 i0 (.string ByteArray.empty) 1 16 Tryd.underlying34 hi0 hz0 hz1 hz2 rfl (by decide) (.slice a acc.length c) acc.length _ h21 ⟨W5.heap.size, 0, none⟩ 1 1 [.string (str k)] rfl
    (fun j u hu => by
      cases j with
      | zero => simp at hu; subst hu; exact hcell
      | succ j => simp at hu) (by simp [Value.oneCell']) (by unfold maxLen; omega) (by omega) hO1.sz
  obtain ⟨g, cap, rfl⟩ := ownsRow_succ r1
  have h3 := obj_far h11 r2 (own_off9 h21 h11 (by decide))
  have hO6 : ExpO w sl M b K i w6 := hO1.turn hM hb r2 (fun r e => by
    rcases h21.2 with ⟨e1, _⟩ | ⟨g2, cap2, cur, e1, hg2, _⟩
    · rw [e1] at e; simp [Value.ownBlock] at e
    · rw [e1] at e
      obtain rfl : g2 = r := by simpa [Value.ownBlock] using e
      omega)
  have hO7 := hO6.turn hM hb (grownBy_setCell' w6 (M + 1) (.slice (some ⟨g, 0, none⟩) (acc.length + 1) cap)) (fun r e => by injection e with e; omega)
  have hown : OwnTx (M + 6) (.slice (some ⟨g, 0, none⟩) (acc ++ [k]).length cap) (acc ++ [k]) w6 := by
    unfold OwnTx OwnR
    rw [List.length_append, List.flatMap_append]
    exact r1
  refine ⟨g, cap, w6, hrun, ⟨_, one_cell13 h3⟩, Lib.frozen_of_heap h3 0, Lib.hid hO7, Lib.hid ⟨some ⟨g, 0, none⟩, cap, ?_, hown.set9 (by omega)⟩, Lib.hid ((hL1.app r2 h21 hO1.sz).set (by omega))⟩
  rw [List.length_append]
  exact heap_setCell_same w6 (M + 1) 0 _ _ _ h3
end Go.Proofs.YtlgfmkmpopcciaaDoor
