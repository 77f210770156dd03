/-
  Rows of arguments of a call's own; and how rows of nodes, and of arguments, grow.
-/
import Derived.Test.YtimpadooknclkaaNodes
import Derived.Deep.AppendLies
set_option linter.unusedVariables false
set_option linter.unusedSimpArgs false
namespace Go.Proofs.Ytimpadooknclkaa
open Go.RowKit

def ArgCells (w : World) (K : Nat → Prop) : List (List Nd) → List Value → Prop
  | [], vs => vs = []
  | g :: gs, vs => ∃ vg rest, vs = vg :: rest ∧ NodesAt w K vg g ∧ ArgCells w K gs rest
theorem ArgCells.len {w : World} {K : Nat → Prop} : ∀ {l : List (List Nd)} {vs : List Value}, ArgCells w K l vs → vs.length = l.length
  | [], _, h => by rw [h]; rfl
  | g :: gs, vs, ⟨vg, rest, e, _, h⟩ => by rw [e, List.length_cons, ArgCells.len h, List.length_cons]
theorem ArgCells.move {w w' : World} {K K' : Nat → Prop} (hs : ∀ b, K b → Stays w w' b) (hK : ∀ b, K b → K' b) : ∀ {l : List (List Nd)} {vs : List Value}, ArgCells w K l vs → ArgCells w' K' l vs
  | [], _, h => h
  | g :: gs, vs, ⟨vg, rest, e, h1, h2⟩ => ⟨vg, rest, e, h1.move hs hK, ArgCells.move hs hK h2⟩
theorem ArgCells.snoc {w : World} {K : Nat → Prop} {vg : Value} {g : List Nd} (hg : NodesAt w K vg g) : ∀ {l : List (List Nd)} {vs : List Value}, ArgCells w K l vs → ArgCells w K (l ++ [g]) (vs ++ [vg])
  | [], _, h => ⟨vg, [], by rw [h]; rfl, hg, rfl⟩
  | g' :: gs, vs, ⟨vg', rest, e, h1, h2⟩ => ⟨vg', rest ++ [vg], by rw [e]; rfl, h1, ArgCells.snoc hg h2⟩
theorem ArgCells.at {w : World} {K : Nat → Prop} : ∀ {l : List (List Nd)} {vs : List Value} (_ : ArgCells w K l vs) {i : Nat} {g : List Nd} (_ : l[i]? = some g), ∃ vg, vs[i]? = some vg ∧ NodesAt w K vg g
  | g' :: gs, vs, ⟨vg, rest, e, h1, h2⟩, 0, g, hi => by
    simp at hi
    subst hi e
    exact ⟨vg, rfl, h1⟩
  | g' :: gs, vs, ⟨vg, rest, e, h1, h2⟩, i + 1, g, hi => by
    obtain ⟨vb, e1, e2⟩ := ArgCells.at h2 (i := i) (by simpa using hi)
    subst e
    exact ⟨vb, e1, e2⟩
theorem ArgCells.one {w : World} {K : Nat → Prop} : ∀ {l : List (List Nd)} {vs : List Value}, ArgCells w K l vs → ∀ u ∈ vs, u.oneCell' = true
  | [], _, h, u, hu => by rw [h] at hu; cases hu
  | g :: gs, vs, ⟨vg, rest, e, h1, h2⟩, u, hu => by
    rw [e] at hu
    rcases List.mem_cons.1 hu with rfl | hu
    · exact Hdr.oneCell h1
    · exact ArgCells.one h2 u hu
/-- v is a row of the call's own, of the arguments l -/
structure OwnA (B : Nat) (K : Nat → Prop) (v : Value) (l : List (List Nd)) (w : World) : Prop where
  row : ∃ vs, w.ownsRow B 23 1 v l.length vs ∧ ArgCells w K l vs
  ne : ∀ b, K b → v.ownBlock ≠ some b
  lt : ∀ b, K b → b < w.heap.size
theorem ownA_nil (w : World) (B : Nat) : OwnA B (fun _ => False) (.slice none 0 0) [] w := ⟨⟨[], World.ownsRow_nil _ _ _ _, rfl⟩, fun b h => h.elim, fun b h => h.elim⟩
theorem OwnA.kept {B : Nat} {K : Nat → Prop} {v : Value} {l : List (List Nd)} {w w' : World} {row : Option Nat} (h : OwnA B K v l w) (hg : w.grownBy w' row) (hv : v.ownBlock = none ∨ v.ownBlock ≠ row) (hK : ∀ b, K b → some b ≠ row) : OwnA B K v l w' := by
  obtain ⟨cs, h1, h2⟩ := h.row
  refine ⟨⟨cs, World.ownsRow.kept h1 hg hv, h2.move (fun b hb => stays_block (hg.block b (h.lt b hb) (hK b hb))) (fun _ h => h)⟩, h.ne, fun b hb => Nat.lt_of_lt_of_le (h.lt b hb) hg.size⟩
theorem OwnA.mono {B : Nat} {K : Nat → Prop} {v : Value} {l : List (List Nd)} {w w' : World} (h : OwnA B K v l w) (hb : Below w.heap.size w w') : OwnA B K v l w' :=
  h.kept (below_grown hb) (by cases v.ownBlock <;> simp) (fun _ _ => by simp)
theorem OwnA.at {B : Nat} {K : Nat → Prop} {v : Value} {l : List (List Nd)} {w : World} (h : OwnA B K v l w) : ArgsAt w (Own K v) v l := by
  obtain ⟨cs, h1, h2⟩ := h.row
  have h0 := h1
  rcases h1.2 with ⟨rfl, hn⟩ | ⟨g, cap, cur, rfl, _, hg, hcap, hmax, hsz, htake⟩
  · refine ⟨⟨none, 0, by rw [hn], by omega⟩, by omega, fun hp => by omega⟩
  · refine ⟨⟨_, _, rfl, hcap⟩, by omega, fun hp => ⟨g, 0, cap, rfl, .inr rfl, RowA.of fun i n hi => ?_⟩⟩
    obtain ⟨va, g0, g4⟩ := h2.at hi
    have c0 := World.ownsRow.cells h0 (g := g) rfl _ _ g0
    rw [add_none] at c0
    exact ⟨va, by simpa using c0, g4.move (fun _ _ _ _ h => h) (fun b hb => .inl hb)⟩
theorem OwnA.own_lt {B : Nat} {K : Nat → Prop} {v : Value} {l : List (List Nd)} {w : World} (h : OwnA B K v l w) : ∀ b, Own K v b → b < w.heap.size := fun b hb => by
  obtain ⟨cs, h1, _⟩ := h.row
  rcases hb with hb | hb
  · exact h.lt b hb
  · exact (World.ownsRow.lt h1 b hb).2
theorem OwnA.own_ge {B : Nat} {K : Nat → Prop} {v : Value} {l : List (List Nd)} {w : World} (h : OwnA B K v l w) (hK : ∀ b, K b → B ≤ b) : ∀ b, Own K v b → B ≤ b := fun b hb => by
  obtain ⟨cs, h1, _⟩ := h.row
  rcases hb with hb | hb
  · exact hK b hb
  · exact (World.ownsRow.lt h1 b hb).1
theorem OwnN.own_ge {B : Nat} {K : Nat → Prop} {v : Value} {l : List Nd} {w : World} (h : OwnN B K v l w) (hK : ∀ b, K b → B ≤ b) : ∀ b, Own K v b → B ≤ b := fun b hb => by
  obtain ⟨cs, h1, _⟩ := h.row
  rcases hb with hb | hb
  · exact hK b hb
  · exact (World.ownsRow.lt h1 b hb).1

/-- a row of nodes behind an append of one more -/
theorem ownN_push {B : Nat} {K : Nat → Prop} {ov : Value} {done : List Nd} {w2 w9 : World} {g cap : Nat} {va : Value} {c : Bool} {x : List UInt8} {args : List (List Nd)} {a : Int} {cs : List Value}
    (h2 : NdsCells w2 K done cs) (ha : ArgsAt w2 K va args) (hne : ∀ b, K b → ov.ownBlock ≠ some b) (hlt : ∀ b, K b → b < w2.heap.size)
    (hown9 : w9.ownsRow B 43 4 (.slice (some ⟨g, 0, none⟩) (done.length + 1) cap) (done.length + 1) (cs ++ ndCells c x va a)) (hg : w2.grownBy w9 ov.ownBlock) (hat : ov.ownBlock = some g ∨ w2.heap.size ≤ g) :
    OwnN B K (.slice (some ⟨g, 0, none⟩) (done.length + 1) cap) (done ++ [.mk c x args a]) w9 := by
  have hs : ∀ b, K b → Stays w2 w9 b := fun b hb => stays_block (hg.block b (hlt b hb) (fun e => hne b hb e.symm))
  refine ⟨⟨cs ++ ndCells c x va a, by rw [List.length_append]; exact hown9, NdsCells.snoc (ha.move hs (fun _ h => h)) (h2.move hs (fun _ h => h))⟩, fun b hb e => ?_, fun b hb => Nat.lt_of_lt_of_le (hlt b hb) hg.size⟩
  have e1 : g = b := Option.some.inj e
  rcases hat with h | h
  · exact hne b hb (by rw [h, e1])
  · have := hlt b hb; omega
/-- a row of arguments behind an append of one more -/
theorem ownA_push {B : Nat} {K : Nat → Prop} {ov : Value} {done : List (List Nd)} {w2 w9 : World} {g cap : Nat} {vg : Value} {l : List Nd} {vs : List Value}
    (h2 : ArgCells w2 K done vs) (ha : NodesAt w2 K vg l) (hne : ∀ b, K b → ov.ownBlock ≠ some b) (hlt : ∀ b, K b → b < w2.heap.size)
    (hown9 : w9.ownsRow B 23 1 (.slice (some ⟨g, 0, none⟩) (done.length + 1) cap) (done.length + 1) (vs ++ [vg])) (hg : w2.grownBy w9 ov.ownBlock) (hat : ov.ownBlock = some g ∨ w2.heap.size ≤ g) :
    OwnA B K (.slice (some ⟨g, 0, none⟩) (done.length + 1) cap) (done ++ [l]) w9 := by
  have hs : ∀ b, K b → Stays w2 w9 b := fun b hb => stays_block (hg.block b (hlt b hb) (fun e => hne b hb e.symm))
  refine ⟨⟨vs ++ [vg], by rw [List.length_append]; exact hown9, ArgCells.snoc (ha.move hs (fun _ h => h)) (h2.move hs (fun _ h => h))⟩, fun b hb e => ?_, fun b hb => Nat.lt_of_lt_of_le (hlt b hb) hg.size⟩
  have e1 : g = b := Option.some.inj e
  rcases hat with h | h
  · exact hne b hb (by rw [h, e1])
  · have := hlt b hb; omega
theorem cell_nd_new (w : World) (c : Bool) (x : ByteArray) (va : Value) (a : Int) (T : TypeId) : ∀ j u, [.bool c, .string x, va, .int .i64 a][j]? = some u → (w.alloc (.cells #[.bool c, .string x, va, .int .i64 a] T)).cell? ((⟨w.heap.size, 0, none⟩ : Addr).add j) = some u := by
  intro j u hj
  rw [add_none]
  match j, hj with
  | 0, hj => simp at hj; subst hj; simp
  | 1, hj => simp at hj; subst hj; simp
  | 2, hj => simp at hj; subst hj; simp
  | 3, hj => simp at hj; subst hj; simp
  | j + 4, hj => simp at hj
theorem cell_val_new (w : World) (x : Value) (T : TypeId) : ∀ j u, [x][j]? = some u → (w.alloc (.cells #[x] T)).cell? ((⟨w.heap.size, 0, none⟩ : Addr).add j) = some u := by
  intro j u hj
  rw [add_none]
  match j, hj with
  | 0, hj => simp at hj; subst hj; simp
  | j + 1, hj => simp at hj
end Go.Proofs.Ytimpadooknclkaa
