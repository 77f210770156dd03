/-
  Appending whole slices, wherever they lie, to rows of a call's own: tokens, nodes, texts.
-/
import Derived.Test.YtimpadooknclkaaCalls6
import Derived.Laws.OwnMore
set_option linter.unusedVariables false
set_option linter.unusedSimpArgs false
namespace Go.Proofs.Ytimpadooknclkaa
open Go.RowKit

theorem append_none_any {w : World} (base : Nat) (t ty e : TypeId) (i : TypeInfo) (size : Nat) (ht : Try.prog.underlying t = some (.slice e)) (hi : Try.prog.info? e = some i)
    (v : Value) (n : Nat) (xs : List Value) (hown : w.ownsRow base e size v n xs) (c : Nat) :
    (Builtin.append_ #[t, t] ty #[v, .slice none 0 c]).run Try.prog w = .ok v w := by
  rcases hown.2 with ⟨rfl, rfl⟩ | ⟨g, cap, cur, rfl, _, _, hnc, _⟩
  · simp [Builtin.append_, run_underlying ht, sizeOf, typeInfo, hi, Builtin.lenOf, Builtin.firstCells]
  · simp [Builtin.append_, run_underlying ht, sizeOf, typeInfo, hi, Builtin.lenOf, Builtin.firstCells, hnc, storeCells]

theorem toks_cells {w : World} {b : Nat} : ∀ {ts : List Tok} {o : Nat}, (∀ i t, ts[i]? = some t → TokAt w b (o + i * 3) t) → ∀ j u, (allCells ts)[j]? = some u → w.cell? ⟨b, o + j, none⟩ = some u
  | [], o, h, j, u, hj => by simp [allCells] at hj
  | t :: r, o, h, j, u, hj => by
    have h0 := h 0 t rfl
    rw [Nat.zero_mul, Nat.add_zero] at h0
    have e : allCells (t :: r) = tokCells t ++ allCells r := rfl
    rw [e] at hj
    match j, hj with
    | 0, hj => simp [tokCells] at hj; subst hj; exact h0.k
    | 1, hj => simp [tokCells] at hj; subst hj; exact h0.s
    | 2, hj => simp [tokCells] at hj; subst hj; exact h0.a
    | j + 3, hj =>
      have h1 : (allCells r)[j]? = some u := by
        rw [List.getElem?_append_right (by show 3 ≤ j + 3; omega)] at hj
        simpa [tokCells] using hj
      have h2 := toks_cells (ts := r) (o := o + 3) (fun i s hs => by
        have := h (i + 1) s (by simpa using hs)
        rw [show o + 3 + i * 3 = o + (i + 1) * 3 by omega]
        exact this) j u h1
      rw [show o + (j + 3) = o + 3 + j by omega]
      exact h2
theorem toks_one_cell (ts : List Tok) : ∀ u ∈ allCells ts, u.oneCell' = true := by
  intro u hu
  unfold allCells at hu
  obtain ⟨t, _, h⟩ := List.mem_flatMap.1 hu
  exact one_cells t u h
theorem wpList_append_toksAt {w : World} {ops : Array Oper} {rest : List Oper} {o : Oper} {a : Act} {Q : Exit → Act → World → Prop} (hw : Region.wanted o (yielded ops a.tmps) = true) (s x : Operand)
    (ho : o.op = .call { callee := .builtin .append, args := #[s, x], argTypes := #[22, 22] })
    (base : Nat) (v u : Value) (xs ys : List Tok) (hs : a.eval s = v) (hown : OwnT base v xs w) (hx : a.eval x = u) (hsrc : ToksAt w u ys) (hlen : (xs.length + ys.length) * 32 ≤ 140737488355328) (hbase : base ≤ w.heap.size)
    (h : ∀ v' w', OwnT base v' (xs ++ ys) w' → Below base w w' → wpList Try.prog ops Q rest (a.put o.dst v') w') : wpList Try.prog ops Q (o :: rest) a w := by
  obtain ⟨i0, hi, hz0, hz1, hz2⟩ := info_parts infoTok
  obtain ⟨⟨p, cap, rfl, hcap⟩, hm, hk⟩ := hsrc
  refine wpList_step fun K hK => ?_
  rw [if_pos hw]
  cases p with
  | none =>
    have hn : ys = [] := by
      rcases Nat.eq_zero_or_pos ys.length with h0 | h0
      · exact List.eq_nil_of_length_eq_zero h0
      · obtain ⟨b, o', c', e, _⟩ := hk h0
        injection e with e1
        cases e1
    subst hn
    have hrun := append_none_any base 22 o.type 36 i0 3 Try.underlying22 hi v xs.length _ hown cap
    simp only [List.length_nil] at hx
    unfold Oper.wp
    simp [execOp, ho, resolve, invoke, builtin, hs, hx, hrun, Result.andThen]
    exact hK _ _ (h v w (by rw [List.append_nil]; exact hown) (Below.refl _ _))
  | some ad =>
    refine wp_append_own w s x _ ho base 36 i0 _ 3 32 Try.underlying22 hi hz0 hz1 hz2 rfl (by decide) v xs.length _ hs hown ad ys.length cap (allCells ys) hx (allCells_len ys) (fun j u hu => ?_) (toks_one_cell ys) (by unfold maxLen; omega) hlen hbase fun v' w' h1 h2 _ => hK _ _ (h v' w' ?_ ((Below.refl base w).grown h2 hbase (fun q hq => (World.ownsRow.lt hown q hq).1)))
    · have hp : 0 < ys.length := by
        rcases Nat.eq_zero_or_pos ys.length with h0 | h0
        · obtain rfl := List.eq_nil_of_length_eq_zero h0
          simp [allCells] at hu
        · exact h0
      obtain ⟨b, o', c', e, hc⟩ := hk hp
      injection e with e1
      injection e1 with e1
      subst e1
      rw [add_none]
      exact toks_cells hc j u hu
    · unfold OwnT
      rw [List.length_append, allCells_append]
      exact h1

/-! ### nodes -/
mutual
theorem NdAt.lt {w : World} {K : Nat → Prop} : ∀ (n : Nd) (b o : Nat), NdAt w K n b o → NdAt w (fun b => b < w.heap.size) n b o
  | .mk c x args a, b, o, h => by
    unfold NdAt at h ⊢
    obtain ⟨va, h1, h2, h3, h4, g1, g2, g3⟩ := h
    refine ⟨va, h1, h2, h3, h4, g1, g2, fun hp => ?_⟩
    obtain ⟨b', o', cap, e, _, hr⟩ := g3 hp
    have hx := RowA.lt args b' o' hr
    refine ⟨b', o', cap, e, ?_, hx.2⟩
    rcases hx.1 with h | h
    · exact h
    · rw [h] at hp; simp at hp
theorem RowA.lt {w : World} {K : Nat → Prop} : ∀ (l : List (List Nd)) (b o : Nat), RowA w K l b o → (b < w.heap.size ∨ l = []) ∧ RowA w (fun b => b < w.heap.size) l b o
  | [], b, o, _ => ⟨.inr rfl, by unfold RowA; trivial⟩
  | g :: gs, b, o, h => by
    unfold RowA at h ⊢
    obtain ⟨⟨vg, h1, g1, g2, g3⟩, h3⟩ := h
    refine ⟨.inl (block_lt_of_cell h1), ⟨vg, h1, g1, g2, fun hp => ?_⟩, (RowA.lt gs b (o + 1) h3).2⟩
    obtain ⟨b', o', cap, e, _, hr⟩ := g3 hp
    have hx := RowN.lt g b' o' hr
    refine ⟨b', o', cap, e, ?_, hx.2⟩
    rcases hx.1 with h | h
    · exact h
    · rw [h] at hp; simp at hp
theorem RowN.lt {w : World} {K : Nat → Prop} : ∀ (l : List Nd) (b o : Nat), RowN w K l b o → (b < w.heap.size ∨ l = []) ∧ RowN w (fun b => b < w.heap.size) l b o
  | [], b, o, _ => ⟨.inr rfl, by unfold RowN; trivial⟩
  | n :: r, b, o, h => by
    unfold RowN at h ⊢
    refine ⟨.inl ?_, NdAt.lt n b o h.1, (RowN.lt r b (o + 4) h.2).2⟩
    obtain ⟨c, x, args, a⟩ := n
    have h1 := h.1
    unfold NdAt at h1
    obtain ⟨va, h1, _⟩ := h1
    exact block_lt_of_cell h1
end
theorem NodesAt.lt {w : World} {K : Nat → Prop} {v : Value} {l : List Nd} (h : NodesAt w K v l) : NodesAt w (fun b => b < w.heap.size) v l := by
  obtain ⟨g1, g2, g3⟩ := h
  refine ⟨g1, g2, fun hp => ?_⟩
  obtain ⟨b', o', cap, e, _, hr⟩ := g3 hp
  have hx := RowN.lt l b' o' hr
  refine ⟨b', o', cap, e, ?_, hx.2⟩
  rcases hx.1 with h | h
  · exact h
  · rw [h] at hp; simp at hp
theorem ownN_new (w : World) : OwnN w.heap.size (fun b => b < w.heap.size) (.slice (some ⟨w.heap.size, 0, none⟩) 0 0) [] (w.alloc (.cells #[] 43)) :=
  ⟨⟨[], World.ownsRow_made w #[] 0 (Nat.le_refl _) (by unfold maxLen; omega) rfl, rfl⟩, fun b h e => by have := Option.some.inj e; simp only [] at this; omega, fun b h => by rw [World.size_alloc]; omega⟩
theorem wpList_append_nodesAt {w : World} {ops : Array Oper} {rest : List Oper} {o : Oper} {a : Act} {Q : Exit → Act → World → Prop} (hw : Region.wanted o (yielded ops a.tmps) = true) (s x : Operand)
    (ho : o.op = .call { callee := .builtin .append, args := #[s, x], argTypes := #[23, 23] })
    (base : Nat) (K : Nat → Prop) (hK : ∀ b, K b → b < base) (v u : Value) (xs ys : List Nd) (hs : a.eval s = v) (hown : OwnN base K v xs w) (hx : a.eval x = u) (hsrc : NodesAt w K u ys) (hlen : (xs.length + ys.length) * 56 ≤ 140737488355328) (hbase : base ≤ w.heap.size)
    (h : ∀ v' w', OwnN base K v' (xs ++ ys) w' → Below base w w' → wpList Try.prog ops Q rest (a.put o.dst v') w') : wpList Try.prog ops Q (o :: rest) a w := by
  obtain ⟨i0, hi, hz0, hz1, hz2⟩ := info_parts infoNode
  obtain ⟨⟨p, cap, rfl, hcap⟩, hm, hk⟩ := hsrc
  obtain ⟨cs, hrow, hcs⟩ := hown.row
  refine wpList_step fun K' hK' => ?_
  rw [if_pos hw]
  cases p with
  | none =>
    have hn : ys = [] := by
      rcases Nat.eq_zero_or_pos ys.length with h0 | h0
      · exact List.eq_nil_of_length_eq_zero h0
      · obtain ⟨b, o', c', e, _⟩ := hk h0
        injection e with e1
        cases e1
    subst hn
    have hrun := append_none_any base 23 o.type 43 i0 4 Try.underlying23 hi v xs.length _ hrow cap
    simp only [List.length_nil] at hx
    unfold Oper.wp
    simp [execOp, ho, resolve, invoke, builtin, hs, hx, hrun, Result.andThen]
    exact hK' _ _ (h v w (by rw [List.append_nil]; exact hown) (Below.refl _ _))
  | some ad =>
    have hsrc2 : ∃ ds, NdsCells w K ys ds ∧ ∀ j u, ds[j]? = some u → w.cell? (ad.add j) = some u := by
      rcases Nat.eq_zero_or_pos ys.length with h0 | h0
      · obtain rfl := List.eq_nil_of_length_eq_zero h0
        exact ⟨[], rfl, fun j u hj => by simp at hj⟩
      · obtain ⟨b, o', c', e, _, hr⟩ := hk h0
        injection e with e1
        injection e1 with e1
        subst e1
        obtain ⟨ds, h1, h2⟩ := RowN.cells hr
        exact ⟨ds, h1, fun j u hj => by rw [add_none]; exact h2 j u hj⟩
    obtain ⟨ds, hds, hcell⟩ := hsrc2
    refine wp_append_own w s x _ ho base 43 i0 _ 4 56 Try.underlying23 hi hz0 hz1 hz2 rfl (by decide) v xs.length _ hs hrow ad ys.length cap ds hx hds.len hcell hds.one (by unfold maxLen; omega) hlen hbase fun v' w' h1 h2 _ => hK' _ _ (h v' w' ?_ ((Below.refl base w).grown h2 hbase (fun q hq => (World.ownsRow.lt hrow q hq).1)))
    have hst : ∀ b, K b → Stays w w' b := fun b hb => stays_block (h2.block b (hown.lt b hb) (fun e => hown.ne b hb e.symm))
    refine ⟨⟨cs ++ ds, by rw [List.length_append]; exact h1, (hcs.append hds).move hst (fun _ h => h)⟩, fun b hb e => ?_, fun b hb => Nat.lt_of_lt_of_le (hown.lt b hb) h2.size⟩
    have := (World.ownsRow.lt h1 b e).1
    have := hK b hb
    omega

/-! ### texts -/
def OwnS (B : Nat) (v : Value) (ns : List (List UInt8)) (w : World) : Prop := w.ownsRow B 9 1 v ns.length (ns.map fun s => Value.string (str s))
theorem infoStr : (Try.prog.info? 9).map (fun i => (i.zero, i.size, i.bytes)) = some (some (.string ByteArray.empty), 1, 16) := by kernel_rfl
theorem ownS_made (w : World) : OwnS w.heap.size (.slice (some ⟨w.heap.size, 0, none⟩) 0 0) [] (w.alloc (.cells #[] 9)) := World.ownsRow_made w #[] 0 (Nat.le_refl _) (by unfold maxLen; omega) rfl
theorem OwnS.mono {B : Nat} {v : Value} {ns : List (List UInt8)} {w w' : World} (h : OwnS B v ns w) (hb : Below w.heap.size w w') : OwnS B v ns w' :=
  World.ownsRow.kept h (row := none) (below_grown hb) (by cases v.ownBlock <;> simp)
theorem OwnS.at {B : Nat} {v : Value} {ns : List (List UInt8)} {w : World} (h : OwnS B v ns w) : StrsAt w v ns := by
  have h0 := h
  rcases h.2 with ⟨rfl, hn⟩ | ⟨g, cap, cur, rfl, _, hg, hcap, hmax, hsz, htake⟩
  · refine ⟨⟨none, 0, by rw [hn], by omega⟩, by omega, fun hp => by omega⟩
  · refine ⟨⟨_, _, rfl, hcap⟩, by omega, fun hp => ⟨g, 0, cap, rfl, fun i s hs => ?_⟩⟩
    have hc := World.ownsRow.cells h0 (g := g) rfl i (.string (str s)) (by rw [List.getElem?_map, hs]; rfl)
    rw [add_none] at hc
    exact hc
theorem wpList_append_strsAt {w : World} {ops : Array Oper} {rest : List Oper} {o : Oper} {a : Act} {Q : Exit → Act → World → Prop} (hw : Region.wanted o (yielded ops a.tmps) = true) (s x : Operand)
    (ho : o.op = .call { callee := .builtin .append, args := #[s, x], argTypes := #[39, 39] })
    (base : Nat) (v u : Value) (xs ys : List (List UInt8)) (hs : a.eval s = v) (hown : OwnS base v xs w) (hx : a.eval x = u) (hsrc : StrsAt w u ys) (hlen : (xs.length + ys.length) * 16 ≤ 140737488355328) (hbase : base ≤ w.heap.size)
    (h : ∀ v' w', OwnS base v' (xs ++ ys) w' → Below base w w' → wpList Try.prog ops Q rest (a.put o.dst v') w') : wpList Try.prog ops Q (o :: rest) a w := by
  obtain ⟨i0, hi, hz0, hz1, hz2⟩ := info_parts infoStr
  obtain ⟨⟨p, cap, rfl, hcap⟩, hm, hk⟩ := hsrc
  refine wpList_step fun K hK => ?_
  rw [if_pos hw]
  cases p with
  | none =>
    have hn : ys = [] := by
      rcases Nat.eq_zero_or_pos ys.length with h0 | h0
      · exact List.eq_nil_of_length_eq_zero h0
      · obtain ⟨b, o', c', e, _⟩ := hk h0
        injection e with e1
        cases e1
    subst hn
    have hrun := append_none_any base 39 o.type 9 i0 1 Try.underlying39 hi v xs.length _ hown cap
    simp only [List.length_nil] at hx
    unfold Oper.wp
    simp [execOp, ho, resolve, invoke, builtin, hs, hx, hrun, Result.andThen]
    exact hK _ _ (h v w (by rw [List.append_nil]; exact hown) (Below.refl _ _))
  | some ad =>
    refine wp_append_own w s x _ ho base 9 i0 _ 1 16 Try.underlying39 hi hz0 hz1 hz2 rfl (by decide) v xs.length _ hs hown ad ys.length cap (ys.map fun s => Value.string (str s)) hx (by simp) (fun j u hu => ?_) (fun z hz => by obtain ⟨q, _, rfl⟩ := List.mem_map.1 hz; rfl) (by unfold maxLen; omega) hlen hbase fun v' w' h1 h2 _ => hK _ _ (h v' w' ?_ ((Below.refl base w).grown h2 hbase (fun q hq => (World.ownsRow.lt hown q hq).1)))
    · have hp : 0 < ys.length := by
        rcases Nat.eq_zero_or_pos ys.length with h0 | h0
        · obtain rfl := List.eq_nil_of_length_eq_zero h0
          simp at hu
        · exact h0
      obtain ⟨b, o', c', e, hc⟩ := hk hp
      injection e with e1
      injection e1 with e1
      subst e1
      rw [add_none]
      rw [List.getElem?_map] at hu
      cases hy : ys[j]? with
      | none => rw [hy] at hu; cases hu
      | some q => rw [hy] at hu; injection hu with hu; subst hu; exact hc j q hy
    · unfold OwnS
      rw [List.length_append, List.map_append]
      exact h1
end Go.Proofs.Ytimpadooknclkaa
