/-
  The stack of groups in memory: each group's nodes are rows of the call's own, apart from one another; how a push, a pop, one node more and one argument more change it.
-/
import Derived.Test.YtimpadooknclkaaMch6
import Derived.Test.YtimpadooknclkaaOwnArgs
set_option linter.unusedVariables false
set_option linter.unusedSimpArgs false
namespace Go.Proofs.Ytimpadooknclkaa
open Go.RowKit

/-- a block of cells none of which is frozen -/
def Clear (w : World) (b : Nat) : Prop := ∃ cs T, w.heap[b]? = some (.cells cs T (0, 0))
theorem Clear.lt {w : World} {b : Nat} (h : Clear w b) : b < w.heap.size := by
  obtain ⟨cs, T, h⟩ := h
  exact (Array.getElem?_eq_some_iff.1 h).1
theorem Clear.same {w w' : World} {b : Nat} (h : Clear w b) (e : w'.heap[b]? = w.heap[b]?) : Clear w' b := by
  obtain ⟨cs, T, h⟩ := h
  exact ⟨cs, T, e.trans h⟩
theorem Clear.mono {w w' : World} {b : Nat} (h : Clear w b) (hb : Below w.heap.size w w') : Clear w' b := h.same (hb.block b h.lt)
theorem Clear.set {w : World} {b : Nat} (h : Clear w b) (p : Nat) (i : Nat) (u : Value) : Clear (w.setCell ⟨p, i, none⟩ u) b := by
  by_cases e : b = p
  · subst e
    obtain ⟨cs, T, h⟩ := h
    exact ⟨_, T, heap_setCell_same w b i cs T u h⟩
  · exact h.same (Below.heap_setCell w ⟨p, i, none⟩ u b e)
theorem row_clear {w : World} {B : Nat} {e : TypeId} {s : Nat} {v : Value} {n : Nat} {xs : List Value} (h : w.ownsRow B e s v n xs) {b : Nat} (hb : v.ownBlock = some b) : B ≤ b ∧ Clear w b := by
  rcases h.2 with ⟨rfl, _⟩ | ⟨g, cap, cur, rfl, hg, hh, _⟩
  · cases hb
  · obtain rfl : g = b := Option.some.inj hb
    exact ⟨hg, cur, e, hh⟩
theorem row_same {w w' : World} {B : Nat} {e : TypeId} {s : Nat} {v : Value} {n : Nat} {xs : List Value} (h : w.ownsRow B e s v n xs) (hs : ∀ b, v.ownBlock = some b → w'.heap[b]? = w.heap[b]?) : w'.ownsRow B e s v n xs := by
  refine ⟨h.1, ?_⟩
  rcases h.2 with h0 | ⟨g, cap, cur, rfl, hg, hh, r⟩
  · exact .inl h0
  · exact .inr ⟨g, cap, cur, rfl, hg, (hs g rfl).trans hh, r⟩
theorem row_pop {w : World} {B : Nat} {e : TypeId} {s : Nat} {g cap n : Nat} {xs ys : List Value} (hl : ys.length = s) (h : w.ownsRow B e s (.slice (some ⟨g, 0, none⟩) (n + 1) cap) (n + 1) (xs ++ ys)) : w.ownsRow B e s (.slice (some ⟨g, 0, none⟩) n cap) n xs := by
  obtain ⟨h1, h2⟩ := h
  have hx : xs.length = n * s := by
    rw [List.length_append, Nat.add_mul] at h1
    omega
  refine ⟨hx, .inr ?_⟩
  rcases h2 with ⟨h3, _⟩ | ⟨g', cap', cur, e1, hg, hh, hc, hm, hs, ht⟩
  · cases h3
  · injection e1 with e1 e2 e3
    injection e1 with e1
    injection e1 with e1 _ _
    subst e1 e3
    refine ⟨g, cap, cur, rfl, hg, hh, by omega, hm, hs, ?_⟩
    have := congrArg (List.take (n * s)) ht
    rw [List.take_take, List.take_left' hx, Nat.min_eq_left (Nat.mul_le_mul_right s (by omega))] at this
    exact this
theorem row_set {w : World} {B : Nat} {e : TypeId} {s : Nat} {g cap n : Nat} {xs : List Value} (i : Nat) (u : Value) (h : w.ownsRow B e s (.slice (some ⟨g, 0, none⟩) n cap) n xs) : (w.setCell ⟨g, i, none⟩ u).ownsRow B e s (.slice (some ⟨g, 0, none⟩) n cap) n (xs.set i u) := by
  obtain ⟨h1, h2⟩ := h
  refine ⟨by rw [List.length_set]; exact h1, .inr ?_⟩
  rcases h2 with ⟨h3, _⟩ | ⟨g', cap', cur, e1, hg, hh, hc, hm, hs, ht⟩
  · cases h3
  · injection e1 with e1 e2 e3
    injection e1 with e1
    injection e1 with e1 _ _
    subst e1 e3
    refine ⟨g, cap, cur.setIfInBounds i u, rfl, hg, heap_setCell_same w g i cur e u hh, hc, hm, by simpa using hs, ?_⟩
    rw [Array.toList_setIfInBounds, List.take_set, ht]
/-- all blocks of D stay -/
def SameOn (D : Nat → Prop) (w w' : World) : Prop := ∀ b, D b → w'.heap[b]? = w.heap[b]?
theorem sameOn_below {D : Nat → Prop} {w w' : World} (h : Below w.heap.size w w') (hD : ∀ b, D b → b < w.heap.size) : SameOn D w w' := fun b hb => h.block b (hD b hb)
theorem sameOn_grown {D : Nat → Prop} {w w' : World} {row : Option Nat} (h : w.grownBy w' row) (hD : ∀ b, D b → b < w.heap.size ∧ row ≠ some b) : SameOn D w w' := fun b hb => h.block b (hD b hb).1 (fun e => (hD b hb).2 e.symm)
theorem SameOn.trans {D : Nat → Prop} {a b c : World} (h : SameOn D a b) (k : SameOn D b c) : SameOn D a c := fun i hi => (k i hi).trans (h i hi)
theorem sameOn_set {D : Nat → Prop} (w : World) (p i : Nat) (u : Value) (h : ¬ D p) : SameOn D w (w.setCell ⟨p, i, none⟩ u) := fun b hb => Below.heap_setCell w ⟨p, i, none⟩ u b (fun e => by have e : b = p := e; subst e; exact h hb)
theorem ownA_same {B : Nat} {K : Nat → Prop} {v : Value} {l : List (List Nd)} {w w' : World} (h : OwnA B K v l w) (hs : SameOn (Own K v) w w') (hz : w.heap.size ≤ w'.heap.size) : OwnA B K v l w' := by
  obtain ⟨cs, h1, h2⟩ := h.row
  exact ⟨⟨cs, row_same h1 (fun b hb => hs b (.inr hb)), h2.move (fun b hb => stays_block (hs b (.inl hb))) (fun _ h => h)⟩, h.ne, fun b hb => Nat.lt_of_lt_of_le (h.lt b hb) hz⟩

/-- the nodes of a group that is open: rows of the call's own, all of it in blocks of D; the last node's arguments can grow, too -/
def FrLast (B : Nat) (w : World) (D : Nat → Prop) (v : Value) (l : List Nd) (init : List Nd) (c : Bool) (x : List UInt8) (args : List (List Nd)) (a : Int) (va : Value) (cs : List Value) (K Ka : Nat → Prop) : Prop :=
  l = init ++ [.mk c x args a] ∧ w.ownsRow B 43 4 v l.length (cs ++ ndCells c x va a) ∧ NdsCells w K init cs ∧ OwnA B Ka va args w ∧
  (∀ b, K b → D b ∧ v.ownBlock ≠ some b ∧ va.ownBlock ≠ some b) ∧ (∀ b, Own Ka va b → D b ∧ v.ownBlock ≠ some b) ∧ (∀ b, v.ownBlock = some b → D b)
theorem FrLast.same {B : Nat} {w w' : World} {D : Nat → Prop} {v : Value} {l init : List Nd} {c : Bool} {x : List UInt8} {args : List (List Nd)} {a : Int} {va : Value} {cs : List Value} {K Ka : Nat → Prop} (h : FrLast B w D v l init c x args a va cs K Ka) (hs : SameOn D w w') (hz : w.heap.size ≤ w'.heap.size) :
    FrLast B w' D v l init c x args a va cs K Ka := by
  obtain ⟨e, h1, h2, h3, h4, h5, h6⟩ := h
  exact ⟨e, row_same h1 (fun b hb => hs b (h6 b hb)), h2.move (fun b hb => stays_block (hs b (h4 b hb).1)) (fun _ h => h), ownA_same h3 (fun b hb => hs b (h5 b hb).1) hz, h4, h5, h6⟩
structure Fr (B : Nat) (w : World) (D : Nat → Prop) (v : Value) (l : List Nd) : Prop where
  blk : ∀ b, D b → B ≤ b ∧ Clear w b
  main : (v = .slice none 0 0 ∧ l = []) ∨ ∃ init c x args a va cs K Ka, FrLast B w D v l init c x args a va cs K Ka
theorem Fr.lt {B : Nat} {w : World} {D : Nat → Prop} {v : Value} {l : List Nd} (h : Fr B w D v l) : ∀ b, D b → b < w.heap.size := fun b hb => (h.blk b hb).2.lt
theorem Fr.same {B : Nat} {w w' : World} {D : Nat → Prop} {v : Value} {l : List Nd} (h : Fr B w D v l) (hs : SameOn D w w') (hz : w.heap.size ≤ w'.heap.size) : Fr B w' D v l := by
  refine ⟨fun b hb => ⟨(h.blk b hb).1, (h.blk b hb).2.same (hs b hb)⟩, ?_⟩
  rcases h.main with h0 | ⟨init, c, x, args, a, va, cs, K, Ka, e, h1, h2, h3, h4, h5, h6⟩
  · exact .inl h0
  · exact .inr ⟨init, c, x, args, a, va, cs, K, Ka, e, row_same h1 (fun b hb => hs b (h6 b hb)), h2.move (fun b hb => stays_block (hs b (h4 b hb).1)) (fun _ h => h),
      ownA_same h3 (fun b hb => hs b (h5 b hb).1) hz, h4, h5, h6⟩
theorem fr_nil (B : Nat) (w : World) : Fr B w (fun _ => False) (.slice none 0 0) [] := ⟨fun b h => h.elim, .inl ⟨rfl, rfl⟩⟩
/-- the row of its nodes -/
theorem Fr.row {B : Nat} {w : World} {D : Nat → Prop} {v : Value} {l : List Nd} (h : Fr B w D v l) : ∃ cs K, w.ownsRow B 43 4 v l.length cs ∧ NdsCells w K l cs ∧ (∀ b, K b → D b ∧ v.ownBlock ≠ some b) ∧ (∀ b, v.ownBlock = some b → D b) := by
  rcases h.main with ⟨rfl, rfl⟩ | ⟨init, c, x, args, a, va, cs, K, Ka, rfl, h1, h2, h3, h4, h5, h6⟩
  · exact ⟨[], fun _ => False, World.ownsRow_nil _ _ _ _, rfl, fun b h => h.elim, fun b h => by cases h⟩
  · refine ⟨_, fun b => K b ∨ Own Ka va b, h1, ?_, fun b hb => hb.elim (fun h => ⟨(h4 b h).1, (h4 b h).2.1⟩) (h5 b), h6⟩
    exact NdsCells.snoc (h3.at.move (fun _ _ _ _ h => h) (fun _ h => .inr h)) (h2.move (fun _ _ _ _ h => h) (fun _ h => .inl h))
theorem Fr.own {B : Nat} {w : World} {D : Nat → Prop} {v : Value} {l : List Nd} (h : Fr B w D v l) : ∃ K, OwnN B K v l w ∧ (∀ b, Own K v b → D b) := by
  obtain ⟨cs, K, h1, h2, h3, h4⟩ := h.row
  exact ⟨K, ⟨⟨cs, h1, h2⟩, fun b hb => (h3 b hb).2, fun b hb => h.lt b (h3 b hb).1⟩, fun b hb => hb.elim (fun k => (h3 b k).1) (h4 b)⟩
/-- what a group that is closed hands on -/
theorem Fr.at {B : Nat} {w : World} {D : Nat → Prop} {v : Value} {l : List Nd} (h : Fr B w D v l) : NodesAt w D v l := by
  obtain ⟨K, h1, h2⟩ := h.own
  exact h1.at.move (fun _ _ _ _ h => h) h2
/-- one node more, behind an append -/
theorem Fr.push {B : Nat} {w w' : World} {D : Nat → Prop} {v : Value} {l : List Nd} (h : Fr B w D v l) {cs : List Value} {K : Nat → Prop} (h2 : NdsCells w K l cs) (h3 : ∀ b, K b → D b ∧ v.ownBlock ≠ some b)
    {c : Bool} {x : List UInt8} {a : Int} {g cap : Nat} (hr : w'.ownsRow B 43 4 (.slice (some ⟨g, 0, none⟩) (l.length + 1) cap) (l.length + 1) (cs ++ ndCells c x (.slice none 0 0) a)) (hg : w.grownBy w' v.ownBlock) (hat : v.ownBlock = some g ∨ w.heap.size ≤ g) :
    Fr B w' (fun b => (D b ∧ v.ownBlock ≠ some b) ∨ b = g) (.slice (some ⟨g, 0, none⟩) (l.length + 1) cap) (l ++ [.mk c x [] a]) := by
  have hsm : ∀ b, D b → v.ownBlock ≠ some b → w'.heap[b]? = w.heap[b]? := fun b hb hn => hg.block b (h.lt b hb) (fun e => hn e.symm)
  have hgl := row_clear hr (b := g) rfl
  refine ⟨fun b hb => ?_, .inr ⟨l, c, x, [], a, .slice none 0 0, cs, K, fun _ => False, rfl, ?_, ?_, ownA_nil _ _, fun b hb => ⟨.inl (h3 b hb), ?_, by simp [Value.ownBlock]⟩, fun b hb => ?_, fun b hb => .inr (Option.some.inj hb).symm⟩⟩
  · rcases hb with hb | hb
    · exact ⟨(h.blk b hb.1).1, (h.blk b hb.1).2.same (hsm b hb.1 hb.2)⟩
    · subst hb; exact hgl
  · rw [List.length_append]; exact hr
  · exact h2.move (fun b hb => stays_block (hsm b (h3 b hb).1 (h3 b hb).2)) (fun _ h => h)
  · intro e
    have e1 : g = b := Option.some.inj e
    rcases hat with h5 | h5
    · exact (h3 b hb).2 (by rw [h5, e1])
    · have := h.lt b (h3 b hb).1; omega
  · rcases hb with hb | hb
    · exact hb.elim
    · cases hb
/-- one argument more for the last node, behind an append and a store -/
theorem Fr.put {B : Nat} {w w1 : World} {D Dt : Nat → Prop} {p len cap0 : Nat} {l lt : List Nd} {vt : Value} {init : List Nd} {c : Bool} {x : List UInt8} {args : List (List Nd)} {a : Int} {va : Value} {cs vs : List Value} {K Ka : Nat → Prop}
    (hblk : ∀ b, D b → B ≤ b ∧ Clear w b) (hm : FrLast B w D (.slice (some ⟨p, 0, none⟩) len cap0) l init c x args a va cs K Ka) (ht : Fr B w Dt vt lt) (hd : ∀ b, D b → ¬ Dt b)
    (hvs : ArgCells w Ka args vs) {g cap : Nat} (hr : w1.ownsRow B 23 1 (.slice (some ⟨g, 0, none⟩) (args.length + 1) cap) (args.length + 1) (vs ++ [vt])) (hg : w.grownBy w1 va.ownBlock) (hat : va.ownBlock = some g ∨ w.heap.size ≤ g) :
    Fr B (w1.setCell ⟨p, init.length * 4 + 2, none⟩ (.slice (some ⟨g, 0, none⟩) (args.length + 1) cap)) (fun b => (D b ∧ va.ownBlock ≠ some b) ∨ Dt b ∨ b = g) (.slice (some ⟨p, 0, none⟩) len cap0) (init ++ [.mk c x (args ++ [lt]) a]) := by
  obtain ⟨hl, h1, h2, h3, h4, h5, h6⟩ := hm
  have hDp : D p := h6 p rfl
  have hpv : va.ownBlock ≠ some p := fun e => (h5 p (.inr e)).2 rfl
  have hpl : p < w.heap.size := (hblk p hDp).2.lt
  have hvaD : ∀ b, va.ownBlock = some b → D b := fun b hb => (h5 b (.inr hb)).1
  have hgp : g ≠ p := by
    rcases hat with e | e
    · intro e2; exact hpv (by rw [e, e2])
    · omega
  have hsm : ∀ b, D b → va.ownBlock ≠ some b → w1.heap[b]? = w.heap[b]? := fun b hb hn => hg.block b (hblk b hb).2.lt (fun e => hn e.symm)
  have hst : ∀ b, Dt b → w1.heap[b]? = w.heap[b]? := fun b hb => hg.block b (ht.lt b hb) (fun e => hd b (hvaD b e.symm) hb)
  have hgl := row_clear hr (b := g) rfl
  have hlen : cs.length = init.length * 4 := h2.len
  have hlen2 : len = l.length := by
    rcases h1.2 with ⟨e, _⟩ | ⟨_, _, _, e, _⟩
    · cases e
    · injection e
  have hP := ownA_push (B := B) (K := fun b => Ka b ∨ Dt b) (ov := va) (hvs.move (fun _ _ _ _ h => h) (fun _ h => .inl h)) (ht.at.move (fun _ _ _ _ h => h) (fun _ h => .inr h))
    (fun b hb e => hb.elim (fun k => h3.ne b k e) (fun k => hd b (hvaD b e) k)) (fun b hb => hb.elim (fun k => (hblk b (h5 b (.inl k)).1).2.lt) (ht.lt b)) hr hg hat
  refine ⟨fun b hb => ?_, .inr ⟨init, c, x, args ++ [lt], a, .slice (some ⟨g, 0, none⟩) (args.length + 1) cap, cs, K, fun b => Ka b ∨ Dt b, rfl, ?_, ?_, ?_, fun b hb => ⟨.inl ⟨(h4 b hb).1, (h4 b hb).2.2⟩, (h4 b hb).2.1, ?_⟩, fun b hb => ?_, fun b hb => ?_⟩⟩
  · rcases hb with hb | hb | hb
    · exact ⟨(hblk b hb.1).1, ((hblk b hb.1).2.same (hsm b hb.1 hb.2)).set _ _ _⟩
    · exact ⟨(ht.blk b hb).1, ((ht.blk b hb).2.same (hst b hb)).set _ _ _⟩
    · subst hb; exact ⟨hgl.1, hgl.2.set _ _ _⟩
  · have e1 : (init ++ [Tr.Nd.mk c x (args ++ [lt]) a]).length = l.length := by rw [hl]; simp
    rw [e1, ← hlen2]
    rw [← hlen2] at h1
    have k1 := row_same (w' := w1) h1 (fun b hb => by
      have : p = b := Option.some.inj hb
      subst this
      exact hsm p hDp hpv)
    have k2 := row_set (init.length * 4 + 2) (.slice (some ⟨g, 0, none⟩) (args.length + 1) cap) k1
    have e3 : (cs ++ ndCells c x va a).set (init.length * 4 + 2) (.slice (some ⟨g, 0, none⟩) (args.length + 1) cap) = cs ++ ndCells c x (.slice (some ⟨g, 0, none⟩) (args.length + 1) cap) a := by
      rw [← hlen, List.set_append_right _ _ (by omega), show cs.length + 2 - cs.length = 2 by omega]
      rfl
    rw [e3] at k2
    exact k2
  · exact h2.move (fun b hb => stays_block ((Below.heap_setCell w1 _ _ b (fun e => (h4 b hb).2.1 (by rw [e]; rfl))).trans (hsm b (h4 b hb).1 (h4 b hb).2.2))) (fun _ h => h)
  · refine ownA_same hP (sameOn_set _ _ _ _ ?_) (by simp)
    rintro (hb | hb)
    · rcases hb with hb | hb
      · exact (h5 p (.inl hb)).2 rfl
      · exact hd p hDp hb
    · exact hgp (Option.some.inj hb)
  · intro e
    have e1 : g = b := Option.some.inj e
    rcases hat with e2 | e2
    · exact (h4 b hb).2.2 (by rw [e2, e1])
    · have := (hblk b (h4 b hb).1).2.lt; omega
  · rcases hb with hb | hb
    · rcases hb with hb | hb
      · exact ⟨.inl ⟨(h5 b (.inl hb)).1, h3.ne b hb⟩, (h5 b (.inl hb)).2⟩
      · exact ⟨.inr (.inl hb), fun e => by
          have : p = b := Option.some.inj e
          subst this
          exact hd p hDp hb⟩
    · have : g = b := Option.some.inj hb
      subst this
      exact ⟨.inr (.inr rfl), fun e => hgp (Option.some.inj e).symm⟩
  · have : p = b := Option.some.inj hb
    subst this
    exact .inl ⟨hDp, hpv⟩

/-! ### the stack -/
abbrev MF := Value × (Nat → Prop)
/-- the groups' cells: the innermost group stands last -/
def gcells : List MF → Tr.Frames → List Value
  | m :: M, f :: S => gcells M S ++ [m.1, .int .i64 f.2]
  | _, _ => []
theorem gcells_len : ∀ (M : List MF) (S : Tr.Frames), M.length = S.length → (gcells M S).length = S.length * 2
  | [], [], _ => rfl
  | m :: M, f :: S, h => by
    have := gcells_len M S (by simpa using h)
    simp only [gcells, List.length_append, this, List.length_cons, List.length_nil]
    omega
  | [], _ :: _, h => by simp at h
  | _ :: _, [], h => by simp at h
def Frs (B : Nat) (w : World) : List MF → Tr.Frames → Prop
  | [], [] => True
  | m :: M, f :: S => Fr B w m.2 m.1 f.1 ∧ Frs B w M S
  | _, _ => False
theorem Frs.len {B : Nat} {w : World} : ∀ {M : List MF} {S : Tr.Frames}, Frs B w M S → M.length = S.length
  | [], [], _ => rfl
  | m :: M, f :: S, h => by simp [Frs.len h.2]
  | [], _ :: _, h => h.elim
  | _ :: _, [], h => h.elim
theorem Frs.lt {B : Nat} {w : World} : ∀ {M : List MF} {S : Tr.Frames}, Frs B w M S → ∀ m ∈ M, ∀ b, m.2 b → b < w.heap.size
  | [], [], _, m, hm, _, _ => by cases hm
  | m' :: M, f :: S, h, m, hm, b, hb => by
    rcases List.mem_cons.1 hm with rfl | hm
    · exact h.1.lt b hb
    · exact Frs.lt h.2 m hm b hb
  | [], _ :: _, h, _, _, _, _ => h.elim
  | _ :: _, [], h, _, _, _, _ => h.elim
theorem Frs.same {B : Nat} {w w' : World} (hz : w.heap.size ≤ w'.heap.size) : ∀ {M : List MF} {S : Tr.Frames}, Frs B w M S → (∀ m ∈ M, SameOn m.2 w w') → Frs B w' M S
  | [], [], _, _ => trivial
  | m' :: M, f :: S, h, hs => ⟨h.1.same (hs m' (List.mem_cons_self ..)) hz, Frs.same hz h.2 fun m hm => hs m (List.mem_cons_of_mem _ hm)⟩
  | [], _ :: _, h, _ => h.elim
  | _ :: _, [], h, _ => h.elim
structure Stk (B Bo : Nat) (w : World) (gb gc : Nat) (M : List MF) (S : Tr.Frames) : Prop where
  var : w.heap[Bo]? = some (.cells #[.slice (some ⟨gb, 0, none⟩) S.length gc] 49 (0, 0))
  row : w.ownsRow B 47 2 (.slice (some ⟨gb, 0, none⟩) S.length gc) S.length (gcells M S)
  bo : B ≤ Bo ∧ Bo ≠ gb
  frs : Frs B w M S
  off : ∀ m ∈ M, ¬ m.2 Bo ∧ ¬ m.2 gb
  apart : M.Pairwise (fun m m' => ∀ b, m.2 b → ¬ m'.2 b)
theorem Stk.var_lt {B Bo : Nat} {w : World} {gb gc : Nat} {M : List MF} {S : Tr.Frames} (h : Stk B Bo w gb gc M S) : Bo < w.heap.size := (Array.getElem?_eq_some_iff.1 h.var).1
theorem Stk.row_lt {B Bo : Nat} {w : World} {gb gc : Nat} {M : List MF} {S : Tr.Frames} (h : Stk B Bo w gb gc M S) : B ≤ gb ∧ gb < w.heap.size := h.row.lt gb rfl
theorem Stk.mono {B Bo : Nat} {w w' : World} {gb gc : Nat} {M : List MF} {S : Tr.Frames} (h : Stk B Bo w gb gc M S) (hb : Below w.heap.size w w') : Stk B Bo w' gb gc M S :=
  ⟨(hb.block Bo h.var_lt).trans h.var, row_same h.row (fun b hbb => hb.block b (h.row.lt b hbb).2), h.bo, h.frs.same hb.size (fun m hm => sameOn_below hb (h.frs.lt m hm)), h.off, h.apart⟩
/-- the innermost group has one node more -/
theorem Stk.node {B Bo : Nat} {w w1 : World} {gb gc : Nat} {M : List MF} {R : Tr.Frames} {nv : Value} {D : Nat → Prop} {pre : List Nd} {a : Int} (h : Stk B Bo w gb gc ((nv, D) :: M) ((pre, a) :: R))
    {cs : List Value} {K : Nat → Prop} (h2 : NdsCells w K pre cs) (h3 : ∀ b, K b → D b ∧ nv.ownBlock ≠ some b) (h4 : ∀ b, nv.ownBlock = some b → D b) {c : Bool} {x : List UInt8} {l : Int} {g cap : Nat}
    (hr : w1.ownsRow B 43 4 (.slice (some ⟨g, 0, none⟩) (pre.length + 1) cap) (pre.length + 1) (cs ++ ndCells c x (.slice none 0 0) l)) (hg : w.grownBy w1 nv.ownBlock) (hat : nv.ownBlock = some g ∨ w.heap.size ≤ g) :
    Stk B Bo (w1.setCell ⟨gb, R.length * 2, none⟩ (.slice (some ⟨g, 0, none⟩) (pre.length + 1) cap)) gb gc ((.slice (some ⟨g, 0, none⟩) (pre.length + 1) cap, fun b => (D b ∧ nv.ownBlock ≠ some b) ∨ b = g) :: M) ((pre ++ [.mk c x [] l], a) :: R) := by
  have hF := h.frs.1.push h2 h3 hr hg hat
  have hoff := h.off (nv, D) (List.mem_cons_self ..)
  have hgD : D g ∨ w.heap.size ≤ g := hat.imp (h4 g) id
  have hgb : gb ≠ g := by
    rcases hgD with e | e
    · intro e2; exact hoff.2 (e2 ▸ e)
    · have := h.row_lt.2; omega
  have hgo : Bo ≠ g := by
    rcases hgD with e | e
    · intro e2; exact hoff.1 (e2 ▸ e)
    · have := h.var_lt; omega
  have hk : ∀ b, b < w.heap.size → ¬ D b → w1.heap[b]? = w.heap[b]? := fun b hb hn => hg.block b hb (fun e => hn (h4 b e.symm))
  have hap := List.pairwise_cons.1 h.apart
  have hM : ∀ m ∈ M, SameOn m.2 w (w1.setCell ⟨gb, R.length * 2, none⟩ (.slice (some ⟨g, 0, none⟩) (pre.length + 1) cap)) := fun m hm => by
    refine SameOn.trans (fun b hb => hk b (h.frs.lt m (List.mem_cons_of_mem _ hm) b hb) (fun hd => hap.1 m hm b hd hb)) (sameOn_set _ _ _ _ (h.off m (List.mem_cons_of_mem _ hm)).2)
  have hsz : w.heap.size ≤ (w1.setCell ⟨gb, R.length * 2, none⟩ (.slice (some ⟨g, 0, none⟩) (pre.length + 1) cap)).heap.size := by simpa using hg.size
  refine ⟨?_, ?_, h.bo, ⟨?_, ?_⟩, ?_, ?_⟩
  · rw [Below.heap_setCell _ _ _ _ (show Bo ≠ gb from h.bo.2), hk Bo h.var_lt hoff.1]; exact h.var
  · have k1 := row_same (w' := w1) h.row (fun b hb => by
      have : gb = b := Option.some.inj hb
      subst this
      exact hk gb h.row_lt.2 hoff.2)
    have k2 := row_set (R.length * 2) (.slice (some ⟨g, 0, none⟩) (pre.length + 1) cap) k1
    have e3 : (gcells ((nv, D) :: M) ((pre, a) :: R)).set (R.length * 2) (.slice (some ⟨g, 0, none⟩) (pre.length + 1) cap) = gcells ((.slice (some ⟨g, 0, none⟩) (pre.length + 1) cap, fun b => (D b ∧ nv.ownBlock ≠ some b) ∨ b = g) :: M) ((pre ++ [.mk c x [] l], a) :: R) := by
      have hl := gcells_len M R h.frs.2.len
      simp only [gcells]
      rw [List.set_append_right _ _ (by omega), hl, Nat.sub_self]
      rfl
    rw [e3] at k2
    exact k2
  · exact hF.same (sameOn_set _ _ _ _ (by rintro (hb | hb); exact hoff.2 hb.1; exact hgb hb)) (by simp)
  · exact h.frs.2.same hsz hM
  · intro m hm
    rcases List.mem_cons.1 hm with rfl | hm
    · exact ⟨by rintro (hb | hb); exact hoff.1 hb.1; exact hgo hb, by rintro (hb | hb); exact hoff.2 hb.1; exact hgb hb⟩
    · exact h.off m (List.mem_cons_of_mem _ hm)
  · refine List.pairwise_cons.2 ⟨fun m hm b hb hb2 => ?_, hap.2⟩
    rcases hb with hb | hb
    · exact hap.1 m hm b hb.1 hb2
    · subst hb
      rcases hgD with e | e
      · exact hap.1 m hm b e hb2
      · have := h.frs.lt m (List.mem_cons_of_mem _ hm) b hb2; omega
/-- one group more -/
theorem Stk.opened {B Bo : Nat} {w w1 : World} {gb gc : Nat} {M : List MF} {S : Tr.Frames} (h : Stk B Bo w gb gc M S) {l : Int} {g cap : Nat}
    (hr : w1.ownsRow B 47 2 (.slice (some ⟨g, 0, none⟩) (S.length + 1) cap) (S.length + 1) (gcells M S ++ [.slice none 0 0, .int .i64 l])) (hg : w.grownBy w1 (some gb)) (hat : some gb = some g ∨ w.heap.size ≤ g) :
    Stk B Bo (w1.setCell ⟨Bo, 0, none⟩ (.slice (some ⟨g, 0, none⟩) (S.length + 1) cap)) g cap ((.slice none 0 0, fun _ => False) :: M) (([], l) :: S) := by
  have hgo : Bo ≠ g := by
    rcases hat with e | e
    · have := Option.some.inj e; have := h.bo.2; omega
    · have := h.var_lt; omega
  have hM : ∀ m ∈ M, SameOn m.2 w (w1.setCell ⟨Bo, 0, none⟩ (.slice (some ⟨g, 0, none⟩) (S.length + 1) cap)) := fun m hm => by
    refine SameOn.trans (fun b hb => hg.block b (h.frs.lt m hm b hb) (fun e => ?_)) (sameOn_set _ _ _ _ (h.off m hm).1)
    have : b = gb := Option.some.inj e
    subst this
    exact (h.off m hm).2 hb
  refine ⟨?_, ?_, ⟨h.bo.1, hgo⟩, ⟨fr_nil _ _, h.frs.same (by simpa using hg.size) hM⟩, ?_, ?_⟩
  · exact heap_setCell_same w1 Bo 0 _ _ _ ((hg.block Bo h.var_lt (fun e => h.bo.2 (Option.some.inj e))).trans h.var)
  · exact row_same hr (fun b hb => by
      have : g = b := Option.some.inj hb
      subst this
      exact Below.heap_setCell _ _ _ _ (fun e => hgo e.symm))
  · intro m hm
    rcases List.mem_cons.1 hm with rfl | hm
    · exact ⟨fun h => h, fun h => h⟩
    · refine ⟨(h.off m hm).1, fun hb => ?_⟩
      rcases hat with e | e
      · have := Option.some.inj e; subst this; exact (h.off m hm).2 hb
      · have := h.frs.lt m hm g hb; omega
  · exact List.pairwise_cons.2 ⟨fun m hm b hb => hb.elim, h.apart⟩
/-- the innermost group is taken off -/
theorem Stk.popped {B Bo : Nat} {w : World} {gb gc : Nat} {M : List MF} {S : Tr.Frames} {nv : Value} {D : Nat → Prop} {pre : List Nd} {a : Int} (h : Stk B Bo w gb gc ((nv, D) :: M) ((pre, a) :: S)) :
    Stk B Bo (w.setCell ⟨Bo, 0, none⟩ (.slice (some ⟨gb, 0, none⟩) S.length gc)) gb gc M S ∧ Fr B (w.setCell ⟨Bo, 0, none⟩ (.slice (some ⟨gb, 0, none⟩) S.length gc)) D nv pre := by
  have hM : ∀ m ∈ (nv, D) :: M, SameOn m.2 w (w.setCell ⟨Bo, 0, none⟩ (.slice (some ⟨gb, 0, none⟩) S.length gc)) := fun m hm => sameOn_set _ _ _ _ (h.off m hm).1
  refine ⟨⟨?_, ?_, h.bo, h.frs.2.same (by simp) (fun m hm => hM m (List.mem_cons_of_mem _ hm)), fun m hm => h.off m (List.mem_cons_of_mem _ hm), (List.pairwise_cons.1 h.apart).2⟩, h.frs.1.same (hM _ (List.mem_cons_self ..)) (by simp)⟩
  · exact heap_setCell_same w Bo 0 _ _ _ h.var
  · have k := row_pop (ys := [nv, .int .i64 a]) rfl h.row
    exact row_same k (fun b hb => by
      have : gb = b := Option.some.inj hb
      subst this
      exact Below.heap_setCell _ _ _ _ (fun e => h.bo.2 e.symm))
/-- the innermost group's last node has one argument more -/
theorem Stk.put {B Bo : Nat} {w w1 : World} {gb gc : Nat} {M : List MF} {R : Tr.Frames} {p len cap0 : Nat} {D Dt : Nat → Prop} {q lt : List Nd} {b0 : Int} {vt : Value} (h : Stk B Bo w gb gc ((.slice (some ⟨p, 0, none⟩) len cap0, D) :: M) ((q, b0) :: R))
    (ht : Fr B w Dt vt lt) (hdt : ∀ b, Dt b → ¬ D b ∧ (∀ m ∈ M, ¬ m.2 b) ∧ b ≠ Bo ∧ b ≠ gb) {init : List Nd} {c : Bool} {x : List UInt8} {args : List (List Nd)} {a : Int} {va : Value} {cs vs : List Value} {K Ka : Nat → Prop}
    (hm : FrLast B w D (.slice (some ⟨p, 0, none⟩) len cap0) q init c x args a va cs K Ka)
    (hvs : ArgCells w Ka args vs) {g cap : Nat} (hr : w1.ownsRow B 23 1 (.slice (some ⟨g, 0, none⟩) (args.length + 1) cap) (args.length + 1) (vs ++ [vt])) (hg : w.grownBy w1 va.ownBlock) (hat : va.ownBlock = some g ∨ w.heap.size ≤ g) :
    Stk B Bo (w1.setCell ⟨p, init.length * 4 + 2, none⟩ (.slice (some ⟨g, 0, none⟩) (args.length + 1) cap)) gb gc ((.slice (some ⟨p, 0, none⟩) len cap0, fun b => (D b ∧ va.ownBlock ≠ some b) ∨ Dt b ∨ b = g) :: M) ((init ++ [.mk c x (args ++ [lt]) a], b0) :: R) := by
  have hF := Fr.put h.frs.1.blk hm ht (fun b hb hd => (hdt b hd).1 hb) hvs hr hg hat
  obtain ⟨hl, h1, h2, h3, h4, h5, h6⟩ := hm
  have hoff := h.off (.slice (some ⟨p, 0, none⟩) len cap0, D) (List.mem_cons_self ..)
  have hDp : D p := h6 p rfl
  have hvaD : ∀ b, va.ownBlock = some b → D b := fun b hb => (h5 b (.inr hb)).1
  have hgD : D g ∨ w.heap.size ≤ g := hat.imp (hvaD g) id
  have hk : ∀ b, b < w.heap.size → ¬ D b → w1.heap[b]? = w.heap[b]? := fun b hb hn => hg.block b hb (fun e => hn (hvaD b e.symm))
  have hset : ∀ b, ¬ D b → (w1.setCell ⟨p, init.length * 4 + 2, none⟩ (.slice (some ⟨g, 0, none⟩) (args.length + 1) cap)).heap[b]? = w1.heap[b]? := fun b hn => Below.heap_setCell _ _ _ _ (fun e => by
    have e : b = p := e
    subst e
    exact hn hDp)
  have hap := List.pairwise_cons.1 h.apart
  refine ⟨?_, ?_, h.bo, ⟨hF, h.frs.2.same (by simpa using hg.size) fun m hm b hb => ?_⟩, ?_, ?_⟩
  · rw [hset Bo hoff.1, hk Bo h.var_lt hoff.1]; exact h.var
  · exact row_same h.row (fun b hb => by
      have : gb = b := Option.some.inj hb
      subst this
      rw [hset gb hoff.2, hk gb h.row_lt.2 hoff.2])
  · have hn : ¬ D b := fun hd => hap.1 m hm b hd hb
    rw [hset b hn, hk b (h.frs.lt m (List.mem_cons_of_mem _ hm) b hb) hn]
  · intro m hm
    rcases List.mem_cons.1 hm with rfl | hm
    · refine ⟨?_, ?_⟩
      · rintro (hb | hb | hb)
        · exact hoff.1 hb.1
        · exact (hdt Bo hb).2.2.1 rfl
        · rcases hgD with e | e
          · exact hoff.1 (hb ▸ e)
          · have := h.var_lt; omega
      · rintro (hb | hb | hb)
        · exact hoff.2 hb.1
        · exact (hdt gb hb).2.2.2 rfl
        · rcases hgD with e | e
          · exact hoff.2 (hb ▸ e)
          · have := h.row_lt.2; omega
    · exact h.off m (List.mem_cons_of_mem _ hm)
  · refine List.pairwise_cons.2 ⟨fun m hm b hb hb2 => ?_, hap.2⟩
    rcases hb with hb | hb | hb
    · exact hap.1 m hm b hb.1 hb2
    · exact (hdt b hb).2.1 m hm hb2
    · subst hb
      rcases hgD with e | e
      · exact hap.1 m hm b e hb2
      · have := h.frs.lt m (List.mem_cons_of_mem _ hm) b hb2; omega
end Go.Proofs.Ytimpadooknclkaa
