/-
  Nodes in memory: how a slice of nodes lies there, with all that it reaches; what stays as it was where the blocks that are read do; rows of nodes of a call's own.
-/
import Derived.Test.YtimpadooknclkaaToks
import Derived.Test.YtimpadooknclkaaTr3
import Derived.Lib.SmallJoins
set_option linter.unusedVariables false
set_option linter.unusedSimpArgs false
namespace Go.Proofs.Ytimpadooknclkaa
open Go.RowKit

abbrev Nd := Tr.Nd
/-- a slice of n elements that lie in a block of K, as R says -/
def Hdr (K : Nat → Prop) (v : Value) (n : Nat) (R : Nat → Nat → Prop) : Prop :=
  (∃ a cap, v = .slice a n cap ∧ n ≤ cap) ∧ n ≤ maxLen ∧ (0 < n → ∃ b o cap, v = .slice (some ⟨b, o, none⟩) n cap ∧ K b ∧ R b o)
mutual
def NdAt (w : World) (K : Nat → Prop) : Nd → Nat → Nat → Prop
  | .mk c x args a, b, o => ∃ va, w.cell? ⟨b, o, none⟩ = some (.bool c) ∧ w.cell? ⟨b, o + 1, none⟩ = some (.string (str x)) ∧ w.cell? ⟨b, o + 2, none⟩ = some va ∧ w.cell? ⟨b, o + 3, none⟩ = some (.int .i64 a) ∧ Hdr K va args.length (RowA w K args)
def RowA (w : World) (K : Nat → Prop) : List (List Nd) → Nat → Nat → Prop
  | [], _, _ => True
  | g :: gs, b, o => (∃ vg, w.cell? ⟨b, o, none⟩ = some vg ∧ Hdr K vg g.length (RowN w K g)) ∧ RowA w K gs b (o + 1)
def RowN (w : World) (K : Nat → Prop) : List Nd → Nat → Nat → Prop
  | [], _, _ => True
  | n :: r, b, o => NdAt w K n b o ∧ RowN w K r b (o + 4)
end
/-- v is a slice of the nodes l, all of which lie in blocks of K -/
def NodesAt (w : World) (K : Nat → Prop) (v : Value) (l : List Nd) : Prop := Hdr K v l.length (RowN w K l)
/-- v is a slice of the arguments l -/
def ArgsAt (w : World) (K : Nat → Prop) (v : Value) (l : List (List Nd)) : Prop := Hdr K v l.length (RowA w K l)

theorem Hdr.mono {K K' : Nat → Prop} {v : Value} {n : Nat} {R R' : Nat → Nat → Prop} (h : Hdr K v n R) (hK : ∀ b, K b → K' b) (hR : ∀ b o, K b → R b o → R' b o) : Hdr K' v n R' := by
  obtain ⟨h1, h2, h3⟩ := h
  refine ⟨h1, h2, fun hp => ?_⟩
  obtain ⟨b, o, cap, e, hk, hr⟩ := h3 hp
  exact ⟨b, o, cap, e, hK b hk, hR b o hk hr⟩
/-- what lay in block b lies there -/
def Stays (w w' : World) (b : Nat) : Prop := ∀ o v, w.cell? ⟨b, o, none⟩ = some v → w'.cell? ⟨b, o, none⟩ = some v
theorem stays_below {w w' : World} (hb : Below w.heap.size w w') (b : Nat) : Stays w w' b := fun o v h => cell_below hb h
theorem stays_block {w w' : World} {b : Nat} (h : w'.heap[b]? = w.heap[b]?) : Stays w w' b := fun o v hc => by
  rw [World.cell?_of_block (a := ⟨b, o, none⟩) h]; exact hc
mutual
theorem NdAt.move {w w' : World} {K K' : Nat → Prop} (hs : ∀ b, K b → Stays w w' b) (hK : ∀ b, K b → K' b) : ∀ (n : Nd) (b o : Nat), Stays w w' b → NdAt w K n b o → NdAt w' K' n b o
  | .mk c x args a, b, o, hb, h => by
    unfold NdAt at h ⊢
    obtain ⟨va, h1, h2, h3, h4, h5⟩ := h
    exact ⟨va, hb _ _ h1, hb _ _ h2, hb _ _ h3, hb _ _ h4, h5.mono hK fun b' o' hk hr => RowA.move hs hK args b' o' (hs b' hk) hr⟩
theorem RowA.move {w w' : World} {K K' : Nat → Prop} (hs : ∀ b, K b → Stays w w' b) (hK : ∀ b, K b → K' b) : ∀ (l : List (List Nd)) (b o : Nat), Stays w w' b → RowA w K l b o → RowA w' K' l b o
  | [], _, _, _, _ => by unfold RowA; trivial
  | g :: gs, b, o, hb, h => by
    unfold RowA at h ⊢
    obtain ⟨⟨vg, h1, h2⟩, h3⟩ := h
    exact ⟨⟨vg, hb _ _ h1, h2.mono hK fun b' o' hk hr => RowN.move hs hK g b' o' (hs b' hk) hr⟩, RowA.move hs hK gs b (o + 1) hb h3⟩
theorem RowN.move {w w' : World} {K K' : Nat → Prop} (hs : ∀ b, K b → Stays w w' b) (hK : ∀ b, K b → K' b) : ∀ (l : List Nd) (b o : Nat), Stays w w' b → RowN w K l b o → RowN w' K' l b o
  | [], _, _, _, _ => by unfold RowN; trivial
  | n :: r, b, o, hb, h => by
    unfold RowN at h ⊢
    exact ⟨NdAt.move hs hK n b o hb h.1, RowN.move hs hK r b (o + 4) hb h.2⟩
end
theorem NodesAt.move {w w' : World} {K K' : Nat → Prop} {v : Value} {l : List Nd} (hs : ∀ b, K b → Stays w w' b) (hK : ∀ b, K b → K' b) (h : NodesAt w K v l) : NodesAt w' K' v l :=
  Hdr.mono h hK fun b o hk hr => RowN.move hs hK l b o (hs b hk) hr
theorem ArgsAt.move {w w' : World} {K K' : Nat → Prop} {v : Value} {l : List (List Nd)} (hs : ∀ b, K b → Stays w w' b) (hK : ∀ b, K b → K' b) (h : ArgsAt w K v l) : ArgsAt w' K' v l :=
  Hdr.mono h hK fun b o hk hr => RowA.move hs hK l b o (hs b hk) hr
theorem NodesAt.mono {w w' : World} {K : Nat → Prop} {v : Value} {l : List Nd} (h : NodesAt w K v l) (hb : Below w.heap.size w w') : NodesAt w' K v l := h.move (fun b _ => stays_below hb b) (fun _ h => h)
theorem NodesAt.any {w : World} {K : Nat → Prop} {v : Value} {l : List Nd} (h : NodesAt w K v l) : NodesAt w (fun _ => True) v l := h.move (fun _ _ _ _ h => h) (fun _ _ => trivial)

/-! ### one node, one argument -/
theorem RowN.at {w : World} {K : Nat → Prop} : ∀ {l : List Nd} {b o : Nat} (_ : RowN w K l b o) {i : Nat} {n : Nd} (_ : l[i]? = some n), NdAt w K n b (o + i * 4)
  | m :: r, b, o, h, 0, n, hi => by
    unfold RowN at h
    simp at hi
    subst hi
    simpa using h.1
  | m :: r, b, o, h, i + 1, n, hi => by
    unfold RowN at h
    have h2 := RowN.at h.2 (i := i) (n := n) (by simpa using hi)
    rw [show o + (i + 1) * 4 = o + 4 + i * 4 by omega]
    exact h2
theorem RowA.at {w : World} {K : Nat → Prop} : ∀ {l : List (List Nd)} {b o : Nat} (_ : RowA w K l b o) {i : Nat} {g : List Nd} (_ : l[i]? = some g), ∃ vg, w.cell? ⟨b, o + i, none⟩ = some vg ∧ NodesAt w K vg g
  | m :: r, b, o, h, 0, n, hi => by
    unfold RowA at h
    simp at hi
    subst hi
    obtain ⟨vg, e1, e2⟩ := h.1
    exact ⟨vg, by simpa using e1, e2⟩
  | m :: r, b, o, h, i + 1, n, hi => by
    unfold RowA at h
    have h2 := RowA.at h.2 (i := i) (g := n) (by simpa using hi)
    rw [show o + (i + 1) = o + 1 + i by omega]
    exact h2
theorem RowN.of {w : World} {K : Nat → Prop} : ∀ {l : List Nd} {b o : Nat}, (∀ i n, l[i]? = some n → NdAt w K n b (o + i * 4)) → RowN w K l b o
  | [], _, _, _ => by unfold RowN; trivial
  | n :: r, b, o, h => by
    unfold RowN
    refine ⟨by simpa using h 0 n rfl, RowN.of fun i m hi => ?_⟩
    have := h (i + 1) m (by simpa using hi)
    rw [show o + 4 + i * 4 = o + (i + 1) * 4 by omega]
    exact this
theorem RowA.of {w : World} {K : Nat → Prop} : ∀ {l : List (List Nd)} {b o : Nat}, (∀ i g, l[i]? = some g → ∃ vg, w.cell? ⟨b, o + i, none⟩ = some vg ∧ NodesAt w K vg g) → RowA w K l b o
  | [], _, _, _ => by unfold RowA; trivial
  | n :: r, b, o, h => by
    unfold RowA
    obtain ⟨vg, e1, e2⟩ := h 0 n rfl
    refine ⟨⟨vg, by simpa using e1, e2⟩, RowA.of fun i m hi => ?_⟩
    have := h (i + 1) m (by simpa using hi)
    rw [show o + 1 + i = o + (i + 1) by omega]
    exact this
theorem nodes_none (w : World) (K : Nat → Prop) : NodesAt w K (.slice none 0 0) [] := ⟨⟨none, 0, rfl, Nat.le_refl _⟩, by unfold maxLen; simp, fun h => by simp at h⟩
theorem args_none (w : World) (K : Nat → Prop) : ArgsAt w K (.slice none 0 0) [] := ⟨⟨none, 0, rfl, Nat.le_refl _⟩, by unfold maxLen; simp, fun h => by simp at h⟩

/-! ### rows of a call's own -/
/-- the four cells of a node whose arguments are va -/
def ndCells (c : Bool) (x : List UInt8) (va : Value) (a : Int) : List Value := [.bool c, .string (str x), va, .int .i64 a]
def NdsCells (w : World) (K : Nat → Prop) : List Nd → List Value → Prop
  | [], cs => cs = []
  | .mk c x args a :: r, cs => ∃ va rest, cs = ndCells c x va a ++ rest ∧ ArgsAt w K va args ∧ NdsCells w K r rest
theorem NdsCells.len {w : World} {K : Nat → Prop} : ∀ {l : List Nd} {cs : List Value}, NdsCells w K l cs → cs.length = l.length * 4
  | [], _, h => by rw [h]; rfl
  | .mk c x args a :: r, cs, ⟨va, rest, e, _, h⟩ => by
    have := NdsCells.len h
    rw [e, List.length_append, this, List.length_cons]
    simp [ndCells]
    omega
theorem NdsCells.move {w w' : World} {K K' : Nat → Prop} (hs : ∀ b, K b → Stays w w' b) (hK : ∀ b, K b → K' b) : ∀ {l : List Nd} {cs : List Value}, NdsCells w K l cs → NdsCells w' K' l cs
  | [], _, h => h
  | .mk c x args a :: r, cs, ⟨va, rest, e, h1, h2⟩ => ⟨va, rest, e, h1.move hs hK, NdsCells.move hs hK h2⟩
theorem NdsCells.snoc {w : World} {K : Nat → Prop} {c : Bool} {x : List UInt8} {args : List (List Nd)} {a : Int} {va : Value} (ha : ArgsAt w K va args) : ∀ {l : List Nd} {cs : List Value}, NdsCells w K l cs → NdsCells w K (l ++ [.mk c x args a]) (cs ++ ndCells c x va a)
  | [], _, h => ⟨va, [], by rw [h]; simp, ha, rfl⟩
  | .mk c' x' args' a' :: r, cs, ⟨va', rest, e, h1, h2⟩ => ⟨va', rest ++ ndCells c x va a, by rw [e, List.append_assoc], h1, NdsCells.snoc ha h2⟩
theorem NdsCells.append {w : World} {K : Nat → Prop} : ∀ {l m : List Nd} {cs ds : List Value}, NdsCells w K l cs → NdsCells w K m ds → NdsCells w K (l ++ m) (cs ++ ds)
  | [], m, cs, ds, h, h' => by rw [h]; exact h'
  | .mk c x args a :: r, m, cs, ds, ⟨va, rest, e, h1, h2⟩, h' => ⟨va, rest ++ ds, by rw [e, List.append_assoc], h1, NdsCells.append h2 h'⟩
theorem NdsCells.at {w : World} {K : Nat → Prop} : ∀ {l : List Nd} {cs : List Value} (_ : NdsCells w K l cs) {i : Nat} {c : Bool} {x : List UInt8} {args : List (List Nd)} {a : Int} (_ : l[i]? = some (.mk c x args a)),
    ∃ va, cs[i * 4]? = some (.bool c) ∧ cs[i * 4 + 1]? = some (.string (str x)) ∧ cs[i * 4 + 2]? = some va ∧ cs[i * 4 + 3]? = some (.int .i64 a) ∧ ArgsAt w K va args
  | .mk c' x' args' a' :: r, cs, ⟨va, rest, e, h1, h2⟩, 0, c, x, args, a, hi => by
    simp at hi
    obtain ⟨rfl, rfl, rfl, rfl⟩ := hi
    subst e
    exact ⟨va, rfl, rfl, rfl, rfl, h1⟩
  | .mk c' x' args' a' :: r, cs, ⟨va, rest, e, h1, h2⟩, i + 1, c, x, args, a, hi => by
    obtain ⟨vb, g0, g1, g2, g3, g4⟩ := NdsCells.at h2 (i := i) (by simpa using hi)
    subst e
    have hl : (ndCells c' x' va a').length = 4 := rfl
    refine ⟨vb, ?_, ?_, ?_, ?_, g4⟩
    · rw [List.getElem?_append_right (by rw [hl]; omega), hl, show (i + 1) * 4 - 4 = i * 4 by omega]; exact g0
    · rw [List.getElem?_append_right (by rw [hl]; omega), hl, show (i + 1) * 4 + 1 - 4 = i * 4 + 1 by omega]; exact g1
    · rw [List.getElem?_append_right (by rw [hl]; omega), hl, show (i + 1) * 4 + 2 - 4 = i * 4 + 2 by omega]; exact g2
    · rw [List.getElem?_append_right (by rw [hl]; omega), hl, show (i + 1) * 4 + 3 - 4 = i * 4 + 3 by omega]; exact g3
/-- the cells of nodes that lie in memory -/
theorem RowN.cells {w : World} {K : Nat → Prop} : ∀ {l : List Nd} {b o : Nat} (_ : RowN w K l b o), ∃ cs, NdsCells w K l cs ∧ ∀ j u, cs[j]? = some u → w.cell? ⟨b, o + j, none⟩ = some u
  | [], b, o, h => ⟨[], rfl, fun j u hj => by simp at hj⟩
  | .mk c x args a :: r, b, o, h => by
    unfold RowN at h
    obtain ⟨h1, h2⟩ := h
    unfold NdAt at h1
    obtain ⟨va, g0, g1, g2, g3, g4⟩ := h1
    obtain ⟨cs, h3, h4⟩ := RowN.cells h2
    refine ⟨ndCells c x va a ++ cs, ⟨va, cs, rfl, g4, h3⟩, fun j u hj => ?_⟩
    match j, hj with
    | 0, hj => simp [ndCells] at hj; subst hj; exact g0
    | 1, hj => simp [ndCells] at hj; subst hj; exact g1
    | 2, hj => simp [ndCells] at hj; subst hj; exact g2
    | 3, hj => simp [ndCells] at hj; subst hj; exact g3
    | j + 4, hj =>
      have : cs[j]? = some u := by
        rw [List.getElem?_append_right (by show 4 ≤ j + 4; omega)] at hj
        simpa [ndCells] using hj
      have h5 := h4 j u this
      rw [show o + (j + 4) = o + 4 + j by omega]
      exact h5
theorem Hdr.oneCell {K : Nat → Prop} {v : Value} {n : Nat} {R : Nat → Nat → Prop} (h : Hdr K v n R) : v.oneCell' = true := by
  obtain ⟨⟨a, cap, rfl, _⟩, _⟩ := h
  rfl
theorem NdsCells.one {w : World} {K : Nat → Prop} : ∀ {l : List Nd} {cs : List Value}, NdsCells w K l cs → ∀ u ∈ cs, u.oneCell' = true
  | [], _, h, u, hu => by rw [h] at hu; cases hu
  | .mk c x args a :: r, cs, ⟨va, rest, e, h1, h2⟩, u, hu => by
    rw [e] at hu
    rcases List.mem_append.1 hu with hu | hu
    · simp [ndCells] at hu
      rcases hu with rfl | rfl | rfl | rfl
      · rfl
      · rfl
      · exact Hdr.oneCell h1
      · rfl
    · exact NdsCells.one h2 u hu

/-- v is a row of the call's own, of the nodes l, whose arguments lie in blocks of K: none of them v's own -/
structure OwnN (B : Nat) (K : Nat → Prop) (v : Value) (l : List Nd) (w : World) : Prop where
  row : ∃ cs, w.ownsRow B 43 4 v l.length cs ∧ NdsCells w K l cs
  ne : ∀ b, K b → v.ownBlock ≠ some b
  lt : ∀ b, K b → b < w.heap.size
theorem ownN_nil (w : World) (B : Nat) : OwnN B (fun _ => False) (.slice none 0 0) [] w := ⟨⟨[], World.ownsRow_nil _ _ _ _, rfl⟩, fun b h => h.elim, fun b h => h.elim⟩
theorem ownN_made (w : World) : OwnN w.heap.size (fun _ => False) (.slice (some ⟨w.heap.size, 0, none⟩) 0 0) [] (w.alloc (.cells #[] 43)) :=
  ⟨⟨[], World.ownsRow_made w #[] 0 (Nat.le_refl _) (by unfold maxLen; omega) rfl, rfl⟩, fun b h => h.elim, fun b h => h.elim⟩
/-- where the blocks that are read, and its own, stay, it stays -/
theorem OwnN.kept {B : Nat} {K : Nat → Prop} {v : Value} {l : List Nd} {w w' : World} {row : Option Nat} (h : OwnN B K v l w) (hg : w.grownBy w' row) (hv : v.ownBlock = none ∨ v.ownBlock ≠ row) (hK : ∀ b, K b → some b ≠ row) : OwnN B K v l w' := by
  obtain ⟨cs, h1, h2⟩ := h.row
  refine ⟨⟨cs, World.ownsRow.kept h1 hg hv, h2.move (fun b hb => stays_block (hg.block b (h.lt b hb) (hK b hb))) (fun _ h => h)⟩, h.ne, fun b hb => Nat.lt_of_lt_of_le (h.lt b hb) hg.size⟩
theorem below_grown {w w' : World} (hb : Below w.heap.size w w') : w.grownBy w' none := ⟨hb.os, hb.tape, hb.output, hb.size, fun i hi _ => hb.block i hi⟩
theorem OwnN.mono {B : Nat} {K : Nat → Prop} {v : Value} {l : List Nd} {w w' : World} (h : OwnN B K v l w) (hb : Below w.heap.size w w') : OwnN B K v l w' :=
  h.kept (below_grown hb) (by cases v.ownBlock <;> simp) (fun _ _ => by simp)
theorem OwnN.base {B B' : Nat} {K : Nat → Prop} {v : Value} {l : List Nd} {w : World} (h : OwnN B K v l w) (hB : B' ≤ B) : OwnN B' K v l w := by
  obtain ⟨cs, h1, h2⟩ := h.row
  exact ⟨⟨cs, Go.Joins.ownsRow_le h1 hB, h2⟩, h.ne, h.lt⟩
/-- all its blocks -/
def Own (K : Nat → Prop) (v : Value) (b : Nat) : Prop := K b ∨ v.ownBlock = some b
theorem OwnN.at {B : Nat} {K : Nat → Prop} {v : Value} {l : List Nd} {w : World} (h : OwnN B K v l w) : NodesAt w (Own K v) v l := by
  obtain ⟨cs, h1, h2⟩ := h.row
  have h0 := h1
  rcases h1.2 with ⟨rfl, hn⟩ | ⟨g, cap, cur, rfl, _, hg, hcap, hmax, hsz, htake⟩
  · refine ⟨⟨none, 0, by rw [hn], by omega⟩, by omega, fun hp => by omega⟩
  · refine ⟨⟨_, _, rfl, hcap⟩, by omega, fun hp => ⟨g, 0, cap, rfl, .inr rfl, RowN.of fun i n hi => ?_⟩⟩
    obtain ⟨c, x, args, a⟩ := n
    obtain ⟨va, g0, g1, g2, g3, g4⟩ := h2.at hi
    have c0 := World.ownsRow.cells h0 (g := g) rfl _ _ g0
    have c1 := World.ownsRow.cells h0 (g := g) rfl _ _ g1
    have c2 := World.ownsRow.cells h0 (g := g) rfl _ _ g2
    have c3 := World.ownsRow.cells h0 (g := g) rfl _ _ g3
    rw [add_none] at c0 c1 c2 c3
    unfold NdAt
    exact ⟨va, by simpa using c0, by simpa using c1, by simpa using c2, by simpa using c3, g4.move (fun _ _ _ _ h => h) (fun b hb => .inl hb)⟩
theorem OwnN.own_lt {B : Nat} {K : Nat → Prop} {v : Value} {l : List Nd} {w : World} (h : OwnN B K v l w) : ∀ b, Own K v b → b < w.heap.size := fun b hb => by
  obtain ⟨cs, h1, _⟩ := h.row
  rcases hb with hb | hb
  · exact h.lt b hb
  · exact (World.ownsRow.lt h1 b hb).2
end Go.Proofs.Ytimpadooknclkaa
