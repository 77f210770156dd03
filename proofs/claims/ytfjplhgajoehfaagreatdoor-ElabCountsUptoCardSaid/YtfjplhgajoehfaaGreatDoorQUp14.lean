/-
  What a store into the maker's block leaves: a row that has grown, a row that begins anew, a number.
-/
import Derived.Deep.AppendLies
import Derived.Test.YtfjplhgajoehfaaGreatDoorQTk14
set_option linter.unusedVariables false
set_option linter.unusedSimpArgs false
namespace Go.Proofs.YtfjplhgajoehfaaGreatDoor
open Go.RowKit

section
variable {E : Env14} {S : Nat → Prop} {w1 : World} {lev lev' d d' : Nat} {s s' : El.St} {K : Nat → Prop} {y y' : Dyn} {w w' : World}
theorem below_set0 (w : World) (p i : Nat) (v : Value) : Below 0 w (w.setCell ⟨p, i, none⟩ v) := (Below.refl 0 w).setCell (p := ⟨p, i, none⟩) (Nat.zero_le _) v
theorem grown_set (w : World) (p i : Nat) (v : Value) : w.grownBy (w.setCell ⟨p, i, none⟩ v) (some p) := by
  have hb := below_set0 w p i v
  exact ⟨hb.os, hb.tape, hb.output, hb.size, fun j hj hne => Below.heap_setCell w ⟨p, i, none⟩ v j (fun e => hne (by rw [e]))⟩
theorem makerT : 83 ≠ 41 ∧ 83 ≠ 57 ∧ 83 ≠ 51 ∧ 83 ≠ 9 ∧ 83 ≠ 44 ∧ 83 ≠ 54 ∧ 83 ≠ 3 ∧ 83 ≠ 60 := by decide
/-- a store, where nothing else moves -/
theorem MkP.set (h : MkP E S w1 lev d s K y w) (rows' : Rows14 E.w0.heap.size d' s' K (fun b => K b ∨ S b) y' w) (hl : s'.labels = s.labels) (i : Nat) (v : Value) (hc : (E.cells y lev s).setIfInBounds i v = E.cells y' lev' s') : MkP E S w1 lev' d' s' K y' (w.setCell ⟨E.p, i, none⟩ v) where
  obj := by rw [heap_setCell_same w E.p i _ _ v h.obj, hc]
  lab := by rw [hl]; exact h.lab.kept (grown_set _ _ _ _) (fun e => h.ppl (Option.some.inj e).symm)
  below := h.below.setCell (p := ⟨E.p, i, none⟩) h.hp v
  keep := fun b hb => by
    rw [Below.heap_setCell w ⟨E.p, i, none⟩ v b (fun e => h.Sp (by have e2 : b = E.p := e; rw [← e2]; exact hb))]
    exact h.keep b hb
  KS := h.KS
  Kp := h.Kp
  Kl := h.Kl
  Sp := h.Sp
  Sl := h.Sl
  hp := h.hp
  hl := h.hl
  rows := rows'.setp h.obj makerT (fun hk => hk.elim h.Kp h.Sp)
theorem MkP.objFar (h : MkP E S w1 lev d s K y w) {ρ α : Type} {κ : Knd ρ α} {v0 : Value} {l : List α} (ho : OwnE κ E.w0.heap.size K (fun b => K b ∨ S b) v0 l w) (hg : w.grownBy w' v0.ownBlock) (hκ : 83 ≠ κ.T) : w'.heap[E.p]? = some (.cells (E.cells y lev s) 83 (0, 0)) := by
  obtain ⟨rs, hr, _⟩ := ho.row
  exact obj_far h.obj hg (own_off9 hr h.obj hκ)
/-- a row has grown, and is stored -/
theorem MkP.push (h : MkP E S w1 lev d s K y w) {row : Option Nat} (hg : w.grownBy w' row) {ρ α : Type} {κ : Knd ρ α} {v0 : Value} {l : List α} (ho : OwnE κ E.w0.heap.size K (fun b => K b ∨ S b) v0 l w) (hrow : row = v0.ownBlock) (hκ : 83 ≠ κ.T) (rows' : Rows14 E.w0.heap.size d s' K (fun b => K b ∨ S b) y' w') (hl : s'.labels = s.labels) (i : Nat) (v : Value)
    (hc : (E.cells y lev s).setIfInBounds i v = E.cells y' lev' s') : MkP E S w1 lev' d s' K y' (w'.setCell ⟨E.p, i, none⟩ v) := by
  subst hrow
  obtain ⟨rs, hr, _⟩ := ho.row
  have hne : some E.p ≠ v0.ownBlock := own_off9 hr h.obj hκ
  have hnl : some E.bl ≠ v0.ownBlock := fun e => by
    obtain ⟨es, clock, h1, _⟩ := h.lab
    rcases hr.2 with ⟨rfl, _⟩ | ⟨g, cap, cur, rfl, _, hg', _⟩
    · cases e
    · simp [Value.ownBlock] at e
      rw [← e, h1] at hg'
      cases hg'
  have hobj : w'.heap[E.p]? = some (.cells (E.cells y lev s) 83 (0, 0)) := obj_far h.obj hg hne
  have hlab := h.lab.kept hg hnl
  have hb' : Below E.w0.heap.size E.w0 w' := h.below.grown hg h.below.size (fun q hq => (ho.lt hq).1)
  exact {
    obj := by rw [heap_setCell_same w' E.p i _ _ v hobj, hc]
    lab := by rw [hl]; exact hlab.kept (grown_set _ _ _ _) (fun e => h.ppl (Option.some.inj e).symm)
    below := hb'.setCell (p := ⟨E.p, i, none⟩) h.hp v
    keep := fun b hb => by
      rw [Below.heap_setCell w' ⟨E.p, i, none⟩ v b (fun e => h.Sp (by have e2 : b = E.p := e; rw [← e2]; exact hb))]
      rw [hg.block b (h.Slt hb) (fun e => ho.ne b (.inr hb) e.symm)]
      exact h.keep b hb
    KS := h.KS
    Kp := h.Kp
    Kl := h.Kl
    Sp := h.Sp
    Sl := h.Sl
    hp := h.hp
    hl := h.hl
    rows := rows'.setp hobj makerT (fun hk => hk.elim h.Kp h.Sp) }
end

set_option maxRecDepth 100000 in
theorem push_run {ρ α : Type} {κ : Knd ρ α} (hok : κ.Ok) {w : World} {o : Oper} {a : Act} {K' : Act → World → Prop} {Q : Exit → Act → World → Prop} (s x : Operand)
    (ho : o.op = .call { callee := .builtin .append, args := #[s, x], argTypes := #[κ.S, κ.S] }) (B : Nat) (K X : Nat → Prop) (v : Value) (l : List α) (r : ρ) (n : α) (b : Nat) (hs : a.eval s = v) (hx : a.eval x = .slice (some ⟨b, 0, none⟩) 1 1) (hown : OwnE κ B K X v l w) (hsrc : ∀ j u, (κ.f r)[j]? = some u → w.cell? ⟨b, j, none⟩ = some u) (hR : κ.R K w r n)
    (hlen : l.length ≤ 1000000000000) (hbase : B ≤ w.heap.size) (hlt : ∀ b, X b → b < w.heap.size) (hKX : ∀ b, K b → X b)
    (h : ∀ g cap w', OwnE κ B K X (.slice (some ⟨g, 0, none⟩) (l.length + 1) cap) (l ++ [n]) w' → w.grownBy w' v.ownBlock → K' (a.put o.dst (.slice (some ⟨g, 0, none⟩) (l.length + 1) cap)) w') : Oper.wp Tryz.prog o a w K' Q := by
  obtain ⟨rs, h1, h2⟩ := hown.row
  have hl : rs.length = l.length := h2.1
  have hb := hok.hby
  obtain ⟨i0, hi, hz0, hz1, hz2⟩ := info_parts hok.hT
  have hbb : (rs.length + 1) * κ.bytes ≤ (rs.length + 1) * 96 := Nat.mul_le_mul_left _ hb
  refine wp_append_lies w s x κ.S ho B κ.T i0 _ κ.k κ.bytes hok.hS hi hz0 hz1 hz2 hok.hzk hok.hk v rs.length _ hs h1 ⟨b, 0, none⟩ 1 1 (κ.f r) hx (by rw [hok.hf]; omega) (fun j u hj => by rw [add_none, Nat.zero_add]; exact hsrc j u hj) (by have := hok.h1 [r]; simpa using this) (by omega) (by unfold maxLen; omega) (by omega) hbase w.heap.size rfl ?_
  intro g cap w' h3 h4 h5 h6
  rw [hl] at h3 ⊢
  refine h g cap w' ⟨⟨rs ++ [r], ?_, ?_⟩, fun b' hb' => ?_⟩ h4
  · unfold OwnR
    rw [List.length_append, List.flatMap_append, List.length_singleton, hl]
    simpa using h3
  · have hmv : ∀ r x, κ.R K w r x → κ.R K w' r x := fun r x hr => hok.mv _ _ _ _ _ _ (fun b hb => stays_block (h4.block b (hlt b (hKX b hb)) (fun e => hown.ne b (hKX b hb) e.symm))) (fun _ h => h) hr
    exact (h2.imp hmv).snoc (hmv _ _ hR)
  · show some g ≠ some b'
    rcases h5 with h5 | h5
    · rw [← h5]; exact hown.ne b' hb'
    · intro e
      have := hlt b' hb'
      injection e with e
      omega
theorem step_push14 {ρ α : Type} {κ : Knd ρ α} (hok : κ.Ok) {w : World} {ops : Array Oper} {o : Oper} {a : Act} {K' : Act → World → Prop} {Q : Exit → Act → World → Prop} {E : Prop} (hgd : o.guard = none) (s x : Operand)
    (ho : o.op = .call { callee := .builtin .append, args := #[s, x], argTypes := #[κ.S, κ.S] }) (B : Nat) (K X : Nat → Prop) (v : Value) (l : List α) (r : ρ) (n : α) (b : Nat) (hs : a.eval s = v) (hx : a.eval x = .slice (some ⟨b, 0, none⟩) 1 1) (hown : OwnE κ B K X v l w) (hsrc : ∀ j u, (κ.f r)[j]? = some u → w.cell? ⟨b, j, none⟩ = some u) (hR : κ.R K w r n)
    (hlen : l.length ≤ 1000000000000) (hbase : B ≤ w.heap.size) (hlt : ∀ b, X b → b < w.heap.size) (hKX : ∀ b, K b → X b)
    (h : ∀ g cap w', OwnE κ B K X (.slice (some ⟨g, 0, none⟩) (l.length + 1) cap) (l ++ [n]) w' → w.grownBy w' v.ownBlock → K' (a.put o.dst (.slice (some ⟨g, 0, none⟩) (l.length + 1) cap)) w') : if Region.wanted o (yielded ops a.tmps) = true then Oper.wp Tryz.prog o a w K' Q else E := by
  rw [if_pos (by simp [Region.wanted, hgd])]
  exact push_run hok s x ho B K X v l r n b hs hx hown hsrc hR hlen hbase hlt hKX h
theorem wpList_push14c {ρ α : Type} {κ : Knd ρ α} (hok : κ.Ok) {w : World} {ops : Array Oper} {rest : List Oper} {o : Oper} {a : Act} {Q : Exit → Act → World → Prop} (hgd : o.guard = none) (s x : Operand)
    (ho : o.op = .call { callee := .builtin .append, args := #[s, x], argTypes := #[κ.S, κ.S] }) (B : Nat) (K X : Nat → Prop) (v : Value) (l : List α) (r : ρ) (n : α) (b : Nat) (hs : a.eval s = v) (hx : a.eval x = .slice (some ⟨b, 0, none⟩) 1 1) (hown : OwnE κ B K X v l w) (hsrc : ∀ j u, (κ.f r)[j]? = some u → w.cell? ⟨b, j, none⟩ = some u) (hR : κ.R K w r n)
    (hlen : l.length ≤ 1000000000000) (hbase : B ≤ w.heap.size) (hlt : ∀ b, X b → b < w.heap.size) (hKX : ∀ b, K b → X b)
    (h : ∀ g cap w', OwnE κ B K X (.slice (some ⟨g, 0, none⟩) (l.length + 1) cap) (l ++ [n]) w' → w.grownBy w' v.ownBlock → wpList Tryz.prog ops Q rest (a.put o.dst (.slice (some ⟨g, 0, none⟩) (l.length + 1) cap)) w') : wpList Tryz.prog ops Q (o :: rest) a w := by
  refine wpList_step fun K' hK => ?_
  rw [if_pos (by simp [Region.wanted, hgd])]
  exact push_run hok s x ho B K X v l r n b hs hx hown hsrc hR hlen hbase hlt hKX (fun g cap w' h1 h2 => hK _ _ (h g cap w' h1 h2))
/-- the cells of a record that is laid in a new block -/
theorem src_new {ρ : Type} {f : ρ → List Value} {w : World} {cs : Array Value} {T : TypeId} {r : ρ} (hcs : cs.toList = f r) : ∀ j u, (f r)[j]? = some u → (w.alloc (.cells cs T)).cell? ⟨w.heap.size, j, none⟩ = some u := fun j u hj => cell_lay w cs T j u (by rw [← Array.getElem?_toList, hcs]; exact hj)
end Go.Proofs.YtfjplhgajoehfaaGreatDoor
