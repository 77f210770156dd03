/-
  Rows of records in memory; records' cells of this seat: glue, items, parts.
  Blocks of memory whole: laid, kept, set; laws on a region's operations.
  Plain mathematics: a text at each place of a byte, and back; no program is mentioned here.
  The plain mathematics of package sigla: keys, names, tables, their texts, and what texts are of; no program is mentioned here.
  The plain mathematics of package sigla: two texts of tables, one behind the other; lists of keys, compacted and expanded; no program is mentioned here.
  The plain mathematics of package sigla: keys are expanded from what they are compacted to; no program is mentioned here.
-/
import Derived.LaidEql
import Derived.Deep.AppendLies
import Derived.Deep.RegionHeld
import Derived.Deep.RegionLaw
import Derived.Deep.RegionHeld3
import Derived.Deep.DeepCutAuto
import Derived.Test.YtfjplhgajoehfaaGreatDoorProg
import Derived.Test.YtfjplhgajoehfaaGreatDoorQUtf
set_option linter.unusedVariables false
set_option linter.unusedSimpArgs false
namespace Go.Proofs.YtfjplhgajoehfaaGreatDoor
open Go.RowKit

def str (l : List UInt8) : ByteArray := ⟨l.toArray⟩
theorem str_data (l : List UInt8) : (str l).data.toList = l := by simp [str]
theorem str_of (s : ByteArray) : str s.data.toList = s := by
  apply ByteArray.ext
  simp [str]
/-- the cells cs lie at b, o -/
def RecAt (w : World) (b o : Nat) (cs : List Value) : Prop := ∀ j u, cs[j]? = some u → w.cell? ⟨b, o + j, none⟩ = some u
theorem RecAt.mono {w w' : World} {b o : Nat} {cs : List Value} (h : RecAt w b o cs) (hb : Below w.heap.size w w') : RecAt w' b o cs := fun j u hj => cell_below hb (h j u hj)
/-- v is a slice of the records l, each of k cells, as f says -/
def SlcAt {α : Type} (f : α → List Value) (k : Nat) (w : World) (v : Value) (l : List α) : Prop :=
  (∃ a cap, v = .slice a l.length cap ∧ l.length ≤ cap) ∧ l.length ≤ maxLen ∧ (0 < l.length → ∃ b o cap, v = .slice (some ⟨b, o, none⟩) l.length cap ∧ ∀ i x, l[i]? = some x → RecAt w b (o + i * k) (f x))
theorem SlcAt.mono {α : Type} {f : α → List Value} {k : Nat} {w w' : World} {v : Value} {l : List α} (h : SlcAt f k w v l) (hb : Below w.heap.size w w') : SlcAt f k w' v l := by
  obtain ⟨h1, h2, h3⟩ := h
  refine ⟨h1, h2, fun hp => ?_⟩
  obtain ⟨b, o, cap, e, hc⟩ := h3 hp
  exact ⟨b, o, cap, e, fun i x hx => (hc i x hx).mono hb⟩
theorem slc_none {α : Type} (f : α → List Value) (k : Nat) (w : World) : SlcAt f k w (.slice none 0 0) [] := ⟨⟨none, 0, rfl, Nat.le_refl _⟩, by unfold maxLen; simp, fun h => by simp at h⟩
/-- v is a row of the call's own, of the records l -/
def OwnR {α : Type} (T : TypeId) (f : α → List Value) (k B : Nat) (v : Value) (l : List α) (w : World) : Prop := w.ownsRow B T k v l.length (l.flatMap f)
theorem flat_at {α : Type} {f : α → List Value} {k : Nat} (hf : ∀ x, (f x).length = k) : ∀ (l : List α) (i : Nat) (x : α), l[i]? = some x → ∀ j u, (f x)[j]? = some u → (l.flatMap f)[i * k + j]? = some u
  | [], i, x, h, _, _, _ => by simp at h
  | y :: r, 0, x, h, j, u, hj => by
    simp at h
    subst h
    rw [List.flatMap_cons, Nat.zero_mul, Nat.zero_add, List.getElem?_append_left (List.getElem?_eq_some_iff.1 hj).1]
    exact hj
  | y :: r, i + 1, x, h, j, u, hj => by
    simp at h
    have ih := flat_at hf r i x h j u hj
    rw [List.flatMap_cons, List.getElem?_append_right (by rw [hf, Nat.add_mul]; omega), hf, show (i + 1) * k + j - k = i * k + j by rw [Nat.add_mul]; omega]
    exact ih
theorem OwnR.at {α : Type} {T : TypeId} {f : α → List Value} {k B : Nat} {v : Value} {l : List α} {w : World} (h : OwnR T f k B v l w) (hf : ∀ x, (f x).length = k) : SlcAt f k w v l := by
  have h0 := h
  rcases h.2 with ⟨rfl, hn⟩ | ⟨g, cap, cur, rfl, _, hg, hcap, hmax, hsz, htake⟩
  · refine ⟨⟨none, 0, by rw [hn], by omega⟩, by omega, fun hp => by omega⟩
  · refine ⟨⟨_, _, rfl, hcap⟩, by omega, fun hp => ⟨g, 0, cap, rfl, fun i x hx j u hj => ?_⟩⟩
    have c1 := World.ownsRow.cells h0 (g := g) rfl _ _ (flat_at hf l i x hx j u hj)
    rw [add_none] at c1
    simpa using c1
theorem OwnR.mono {α : Type} {T : TypeId} {f : α → List Value} {k B : Nat} {v : Value} {l : List α} {w w' : World} (h : OwnR T f k B v l w) (hb : Below w.heap.size w w') : OwnR T f k B v l w' :=
  World.ownsRow.kept h (row := none) ⟨hb.os, hb.tape, hb.output, hb.size, fun i hi _ => hb.block i hi⟩ (by cases v.ownBlock <;> simp)
theorem ownR_nil {α : Type} (T : TypeId) (f : α → List Value) (k B : Nat) (w : World) : OwnR T f k B (.slice none 0 0) [] w := World.ownsRow_nil _ _ _ _


/-! ### records of this seat -/
def glC (g : It.Gl) : List Value := [.int .i64 g.w, .int .i64 g.st, .int .i64 g.sk, .int .i64 g.o]
def itC (x : It.Itm) : List Value := [.int .i64 x.k, .int .i64 x.g.w, .int .i64 x.g.st, .int .i64 x.g.sk, .int .i64 x.g.o, .int .i64 x.p, .bool x.f, .int .i64 x.n, .int .i64 x.q]
def ptC (p : It.Pt) : List Value := [.string p.s, .int .i64 p.w, .int .i64 p.h, .int .i64 p.d]
def glV (g : It.Gl) : Value := .agg #[.int .i64 g.w, .int .i64 g.st, .int .i64 g.sk, .int .i64 g.o]
def itV (x : It.Itm) : Value := .agg #[.int .i64 x.k, .int .i64 x.g.w, .int .i64 x.g.st, .int .i64 x.g.sk, .int .i64 x.g.o, .int .i64 x.p, .bool x.f, .int .i64 x.n, .int .i64 x.q]
abbrev GlsAt (w : World) (v : Value) (l : List It.Gl) : Prop := SlcAt glC 4 w v l
abbrev ItsAt (w : World) (v : Value) (l : List It.Itm) : Prop := SlcAt itC 9 w v l
abbrev PtsAt (w : World) (v : Value) (l : List It.Pt) : Prop := SlcAt ptC 4 w v l
theorem glC_len (x : It.Gl) : (glC x).length = 4 := rfl
theorem itC_len (x : It.Itm) : (itC x).length = 9 := rfl
theorem ptC_len (x : It.Pt) : (ptC x).length = 4 := rfl
theorem gl_cells {w : World} {b o : Nat} {g : It.Gl} (h : RecAt w b o (glC g)) : w.cell? ⟨b, o, none⟩ = some (.int .i64 g.w) ∧ w.cell? ⟨b, o + 1, none⟩ = some (.int .i64 g.st) ∧ w.cell? ⟨b, o + 2, none⟩ = some (.int .i64 g.sk) ∧ w.cell? ⟨b, o + 3, none⟩ = some (.int .i64 g.o) :=
  ⟨h 0 _ rfl, h 1 _ rfl, h 2 _ rfl, h 3 _ rfl⟩
theorem pt_cells {w : World} {b o : Nat} {p : It.Pt} (h : RecAt w b o (ptC p)) : w.cell? ⟨b, o, none⟩ = some (.string p.s) ∧ w.cell? ⟨b, o + 1, none⟩ = some (.int .i64 p.w) ∧ w.cell? ⟨b, o + 2, none⟩ = some (.int .i64 p.h) ∧ w.cell? ⟨b, o + 3, none⟩ = some (.int .i64 p.d) :=
  ⟨h 0 _ rfl, h 1 _ rfl, h 2 _ rfl, h 3 _ rfl⟩
theorem it_cells {w : World} {b o : Nat} {x : It.Itm} (h : RecAt w b o (itC x)) : w.cell? ⟨b, o, none⟩ = some (.int .i64 x.k) ∧ w.cell? ⟨b, o + 1, none⟩ = some (.int .i64 x.g.w) ∧ w.cell? ⟨b, o + 2, none⟩ = some (.int .i64 x.g.st) ∧ w.cell? ⟨b, o + 3, none⟩ = some (.int .i64 x.g.sk) ∧ w.cell? ⟨b, o + 4, none⟩ = some (.int .i64 x.g.o) ∧
    w.cell? ⟨b, o + 5, none⟩ = some (.int .i64 x.p) ∧ w.cell? ⟨b, o + 6, none⟩ = some (.bool x.f) ∧ w.cell? ⟨b, o + 7, none⟩ = some (.int .i64 x.n) ∧ w.cell? ⟨b, o + 8, none⟩ = some (.int .i64 x.q) :=
  ⟨h 0 _ rfl, h 1 _ rfl, h 2 _ rfl, h 3 _ rfl, h 4 _ rfl, h 5 _ rfl, h 6 _ rfl, h 7 _ rfl, h 8 _ rfl⟩

/-! ### slices of slices -/
/-- v is a slice of the values that R says are l's -/
def RowAt {α : Type} (R : World → Value → α → Prop) (w : World) (v : Value) (l : List α) : Prop :=
  (∃ a cap, v = .slice a l.length cap ∧ l.length ≤ cap) ∧ l.length ≤ maxLen ∧ (0 < l.length → ∃ b o cap, v = .slice (some ⟨b, o, none⟩) l.length cap ∧ ∀ i x, l[i]? = some x → ∃ u, w.cell? ⟨b, o + i, none⟩ = some u ∧ R w u x)
theorem RowAt.mono {α : Type} {R : World → Value → α → Prop} (hR : ∀ w w' u x, R w u x → Below w.heap.size w w' → R w' u x) {w w' : World} {v : Value} {l : List α} (h : RowAt R w v l) (hb : Below w.heap.size w w') : RowAt R w' v l := by
  obtain ⟨h1, h2, h3⟩ := h
  refine ⟨h1, h2, fun hp => ?_⟩
  obtain ⟨b, o, cap, e, hc⟩ := h3 hp
  refine ⟨b, o, cap, e, fun i x hx => ?_⟩
  obtain ⟨u, hu, hr⟩ := hc i x hx
  exact ⟨u, cell_below hb hu, hR _ _ _ _ hr hb⟩
theorem row_none {α : Type} (R : World → Value → α → Prop) (w : World) : RowAt R w (.slice none 0 0) [] := ⟨⟨none, 0, rfl, Nat.le_refl _⟩, by unfold maxLen; simp, fun h => by simp at h⟩
abbrev WordsAt (w : World) (v : Value) (l : List (List It.Pt)) : Prop := RowAt PtsAt w v l
abbrev LinesAt (w : World) (v : Value) (l : List (List (List It.Pt))) : Prop := RowAt WordsAt w v l
theorem pts_mono (w w' : World) (u : Value) (x : List It.Pt) (h : PtsAt w u x) (hb : Below w.heap.size w w') : PtsAt w' u x := SlcAt.mono h hb
theorem words_mono (w w' : World) (u : Value) (x : List (List It.Pt)) (h : WordsAt w u x) (hb : Below w.heap.size w w') : WordsAt w' u x := RowAt.mono pts_mono h hb
theorem lines_mono (w w' : World) (u : Value) (x : List (List (List It.Pt))) (h : LinesAt w u x) (hb : Below w.heap.size w w') : LinesAt w' u x := RowAt.mono words_mono h hb
/-- the length of a slice that is opened -/
theorem SlcAt.zero {α : Type} {f : α → List Value} {k : Nat} {w : World} {v : Value} {l : List α} (h : SlcAt f k w v l) (hn : l.length = 0) : ∃ a cap, v = .slice a 0 cap := by
  obtain ⟨⟨a, cap, e, _⟩, _⟩ := h
  exact ⟨a, cap, by rw [e, hn]⟩
theorem glC_cell (l : List It.Gl) : ∀ u ∈ l.flatMap glC, u.oneCell' = true := by
  intro u hu
  obtain ⟨t, _, h⟩ := List.mem_flatMap.1 hu
  simp [glC] at h
  rcases h with rfl | rfl | rfl | rfl <;> rfl
theorem itC_cell (l : List It.Itm) : ∀ u ∈ l.flatMap itC, u.oneCell' = true := by
  intro u hu
  obtain ⟨t, _, h⟩ := List.mem_flatMap.1 hu
  simp [itC] at h
  rcases h with rfl | rfl | rfl | rfl | rfl | rfl | rfl | rfl | rfl <;> rfl
/-- the length of flat cells -/
theorem flat_len {α : Type} {f : α → List Value} {k : Nat} (hf : ∀ x, (f x).length = k) : ∀ l : List α, (l.flatMap f).length = l.length * k
  | [] => by simp
  | x :: r => by rw [List.flatMap_cons, List.length_append, hf, flat_len hf r, List.length_cons, Nat.succ_mul]; omega
/-- the cells of a slice of records, one behind the other -/
theorem flat_cells {α : Type} {f : α → List Value} {k : Nat} (hf : ∀ x, (f x).length = k) {w : World} {b : Nat} : ∀ {l : List α} {o : Nat}, (∀ i x, l[i]? = some x → RecAt w b (o + i * k) (f x)) → ∀ j u, (l.flatMap f)[j]? = some u → w.cell? ⟨b, o + j, none⟩ = some u
  | [], o, h, j, u, hj => by simp at hj
  | x :: r, o, h, j, u, hj => by
    rw [List.flatMap_cons] at hj
    rcases Nat.lt_or_ge j k with hlt | hge
    · rw [List.getElem?_append_left (by rw [hf]; exact hlt)] at hj
      have := h 0 x rfl j u hj
      simpa using this
    · rw [List.getElem?_append_right (by rw [hf]; exact hge), hf] at hj
      have := flat_cells hf (l := r) (o := o + k) (fun i y hy => by
        have := h (i + 1) y (by simpa using hy)
        rw [show o + k + i * k = o + (i + 1) * k by rw [Nat.add_mul]; omega]
        exact this) (j - k) u hj
      rw [show o + j = o + k + (j - k) by omega]
      exact this
end Go.Proofs.YtfjplhgajoehfaaGreatDoor

set_option linter.unusedVariables false
set_option linter.unusedSimpArgs false
namespace Go.Proofs.YtfjplhgajoehfaaGreatDoor
open Go.RowKit

theorem lt_of_obj {w : World} {b : Nat} {o : Obj} (h : w.heap[b]? = some o) : b < w.heap.size := by
  rcases Nat.lt_or_ge b w.heap.size with h' | h'
  · exact h'
  · rw [Array.getElem?_eq_none h'] at h; cases h
theorem obj_kept {w w' : World} {b : Nat} {o : Obj} (hb : Below w.heap.size w w') (h : w.heap[b]? = some o) : w'.heap[b]? = some o := by rw [hb.block _ (lt_of_obj h)]; exact h
theorem obj_new (w : World) (p : Nat) (hp : w.heap.size = p) (cs : Array Value) (T : TypeId) : (w.alloc (.cells cs T)).heap[p]? = some (.cells cs T (0, 0)) := by subst hp; exact heap_alloc_new w _
theorem obj_far {w w' : World} {row : Option Nat} {b : Nat} {o : Obj} (h : w.heap[b]? = some o) (hg : w.grownBy w' row) (hne : some b ≠ row) : w'.heap[b]? = some o := by rw [hg.block b (lt_of_obj h) hne]; exact h
theorem obj_set {w : World} {b p i : Nat} {v : Value} {o : Obj} (h : w.heap[b]? = some o) (hne : b ≠ p) : (w.setCell ⟨p, i, none⟩ v).heap[b]? = some o := by rw [Below.heap_setCell w ⟨p, i, none⟩ v b hne]; exact h
theorem cell_lay (w : World) (cs : Array Value) (T : TypeId) (j : Nat) (u : Value) (hj : cs[j]? = some u) : (w.alloc (.cells cs T)).cell? ⟨w.heap.size, j, none⟩ = some u := by
  have h1 : (w.alloc (.cells cs T)).heap[w.heap.size]? = some (.cells cs T (0, 0)) := heap_alloc_new _ _
  rw [Lib.cell_of_heap h1]
  exact hj
theorem below_drew9 (w : World) : Below w.heap.size w w.drew := ⟨rfl, rfl, rfl, Nat.le_refl _, fun _ _ => rfl⟩
theorem OwnR.set9 {α : Type} {T : TypeId} {f : α → List Value} {k B p i : Nat} {v y : Value} {l : List α} {w : World} (h : OwnR T f k B v l w) (hp : p < B) : OwnR T f k B v l (w.setCell ⟨p, i, none⟩ y) := by
  refine World.ownsRow.kept h (row := some p) ?_ ?_
  · have hb : Below 0 w (w.setCell ⟨p, i, none⟩ y) := (Below.refl 0 w).setCell (p := ⟨p, i, none⟩) (Nat.zero_le _) y
    refine ⟨hb.os, hb.tape, hb.output, hb.size, fun j hj hne => ?_⟩
    exact Below.heap_setCell w ⟨p, i, none⟩ y j (fun e => hne (by rw [e]))
  · exact .inr fun e => by
      have := (World.ownsRow.lt h p e).1
      omega

theorem own_off9 {w : World} {B F s n b : Nat} {u : Value} {ys : List Value} {cs : Array Value} {T : TypeId} {fr : Nat × Nat} (h : w.ownsRow B F s u n ys) (hb : w.heap[b]? = some (.cells cs T fr)) (hT : T ≠ F) : some b ≠ u.ownBlock := fun hq => by
  rcases h.2 with ⟨hv0, _⟩ | ⟨gg, cp, cu, hv0, _, hgb, _⟩
  · rw [hv0] at hq; cases hq
  · rw [hv0] at hq
    simp [Value.ownBlock] at hq
    subst hq
    rw [hb] at hgb
    injection hgb with hgb
    injection hgb with _ hgb _
    exact hT hgb
/-- an operation that yields where S holds may be taken first: what it is, said apart -/
theorem take_op {P : Program} {md : Region.Mode} {ops : Array Oper} {Q : Exit → Act → World → Prop} {S : World → Prop} {i : Nat} {d : Tmp} {op : Op} {ty : TypeId} {v : Value} {fuel : Nat} {listed : Array Bool} {a : Act} {w : World}
    (hi : (ops[i]?).map (fun o => (o.dst, o.op, o.type)) = some (some d, op, ty)) (hg : (ops[i]?).map (fun o => o.guard) = some none)
    (hs : Region.noSelect ops = true) (hf : Region.free md ops listed i = true) (hr : (Region.ready md ops listed).contains i = true)
    (hQ : ∀ c a w, Q (.panic c) (a.put (some d) v) w → Q (.panic c) a w)
    (hy : ∀ w, S w → (execOp a.eval { dst := some d, op := op, type := ty, pos := "", after := #[], guard := none }).run P w = .ok (.value v) w) (hS : S w)
    (h : wpAnyH P md ops Q S fuel (listed.setIfInBounds i true) (a.put (some d) v) w) : wpAnyH P md ops Q S (fuel + 1) listed a w := by
  cases ho : ops[i]? with
  | none => rw [ho] at hi; cases hi
  | some o =>
    rw [ho] at hi hg
    obtain ⟨dst, op', ty', pos, aft, gd⟩ := o
    simp only [Option.map_some, Option.some.injEq, Prod.mk.injEq] at hi hg
    obtain ⟨rfl, rfl, rfl⟩ := hi
    subst hg
    exact wpAnyH_take ho hs hf hr hQ (.inl ⟨by simp [Region.wanted], hy⟩) hS h

end Go.Proofs.YtfjplhgajoehfaaGreatDoor

set_option linter.unusedVariables false
set_option linter.unusedSimpArgs false
namespace Go.Proofs.YtfjplhgajoehfaaGreatDoor.Mt

def split (c : UInt8) : List UInt8 → List (List UInt8)
  | [] => [[]]
  | x :: r => if x = c then [] :: split c r else match split c r with
    | [] => [[x]]
    | h :: t => (x :: h) :: t
def join (c : UInt8) : List (List UInt8) → List UInt8
  | [] => []
  | [l] => l
  | l :: m :: r => l ++ c :: join c (m :: r)
theorem split_ne (c : UInt8) : ∀ l, split c l ≠ []
  | [] => by simp [split]
  | x :: r => by
    unfold split
    split
    · simp
    · have := split_ne c r
      split <;> simp
theorem join_cons (c : UInt8) (l : List UInt8) {r : List (List UInt8)} (h : r ≠ []) : join c (l :: r) = l ++ c :: join c r := by
  cases r with
  | nil => exact absurd rfl h
  | cons m r => rfl
theorem join_split (c : UInt8) : ∀ l, join c (split c l) = l
  | [] => rfl
  | x :: r => by
    have ih := join_split c r
    have hn := split_ne c r
    unfold split
    split
    · rename_i hx
      rw [join_cons c [] hn, ih, hx]
      rfl
    · cases hs : split c r with
      | nil => exact absurd hs hn
      | cons h t =>
        rw [hs] at ih
        cases t with
        | nil => simp only [join] at ih ⊢; rw [ih]
        | cons m t => rw [join_cons c h (by simp)] at ih; simp only []; rw [join_cons c (x :: h) (by simp), ← ih]; rfl
theorem split_plain {c : UInt8} : ∀ {l : List UInt8}, c ∉ l → split c l = [l]
  | [], _ => rfl
  | x :: r, h => by
    have h1 : x ≠ c := fun e => h (by rw [e]; exact List.mem_cons_self ..)
    have h2 := split_plain (l := r) (c := c) (fun e => h (List.mem_cons_of_mem _ e))
    unfold split
    rw [if_neg h1, h2]
theorem split_at (c : UInt8) (r : List UInt8) : split c (c :: r) = [] :: split c r := by
  show (if c = c then _ else _) = _
  rw [if_pos rfl]
theorem split_on {c x : UInt8} (h : x ≠ c) {r p : List UInt8} {t : List (List UInt8)} (e : split c r = p :: t) : split c (x :: r) = (x :: p) :: t := by
  rw [split, if_neg h, e]
theorem split_more {c : UInt8} (r : List UInt8) : ∀ {l : List UInt8}, c ∉ l → split c (l ++ c :: r) = l :: split c r
  | [], _ => by rw [List.nil_append, split_at]
  | x :: l, h => by
    have h1 : x ≠ c := fun e => h (by rw [e]; exact List.mem_cons_self ..)
    have h2 := split_more r (l := l) (c := c) (fun e => h (List.mem_cons_of_mem _ e))
    rw [List.cons_append, split_on h1 h2]
theorem split_join {c : UInt8} : ∀ {ls : List (List UInt8)}, ls ≠ [] → (∀ l ∈ ls, c ∉ l) → split c (join c ls) = ls
  | [], h, _ => absurd rfl h
  | [l], _, h => split_plain (h l (List.mem_cons_self ..))
  | l :: m :: r, _, h => by
    rw [join_cons c l (by simp), split_more _ (h l (List.mem_cons_self ..)), split_join (by simp) (fun x hx => h x (List.mem_cons_of_mem _ hx))]
theorem split_free (c : UInt8) : ∀ (l : List UInt8), ∀ p ∈ split c l, c ∉ p
  | [], p, hp => by simp [split] at hp; simp [hp]
  | x :: r, p, hp => by
    have ih := split_free c r
    have hn := split_ne c r
    unfold split at hp
    split at hp
    · rcases List.mem_cons.1 hp with rfl | hp
      · simp
      · exact ih p hp
    · rename_i hx
      cases hs : split c r with
      | nil => exact absurd hs hn
      | cons h t =>
        rw [hs] at hp ih
        simp only [] at hp
        rcases List.mem_cons.1 hp with rfl | hp
        · intro hm
          rcases List.mem_cons.1 hm with e | hm
          · exact hx e.symm
          · exact ih h (List.mem_cons_self ..) hm
        · exact ih p (List.mem_cons_of_mem _ hp)
/-- lines, each with its end, and what lies behind them -/
theorem split_lines {c : UInt8} (r : List UInt8) : ∀ {ls : List (List UInt8)}, (∀ l ∈ ls, c ∉ l) → split c ((ls.flatMap fun l => l ++ [c]) ++ r) = ls ++ split c r
  | [], _ => rfl
  | l :: ls, h => by
    have e : ((l :: ls).flatMap fun l => l ++ [c]) ++ r = l ++ c :: ((ls.flatMap fun l => l ++ [c]) ++ r) := by simp
    rw [e, split_more _ (h l (List.mem_cons_self ..)), split_lines r (fun x hx => h x (List.mem_cons_of_mem _ hx))]
    rfl
theorem join_lines (c : UInt8) (r : List UInt8) : ∀ (ls : List (List UInt8)), join c (ls ++ [r]) = (ls.flatMap fun l => l ++ [c]) ++ r
  | [] => rfl
  | l :: ls => by
    rw [List.cons_append, join_cons c l (by simp), join_lines c r ls, List.flatMap_cons, List.append_assoc, List.append_assoc]
    rfl
end Go.Proofs.YtfjplhgajoehfaaGreatDoor.Mt

set_option linter.unusedVariables false
set_option linter.unusedSimpArgs false
namespace Go.Proofs.YtfjplhgajoehfaaGreatDoor.Sg
open Go.Proofs.YtfjplhgajoehfaaGreatDoor

abbrev Bs := List UInt8
structure Sig where
  k : Bs
  n : Bs
  deriving DecidableEq
def keyC (c : UInt8) : Bool := decide (48 ≤ c.toNat ∧ c.toNat ≤ 57) || decide (97 ≤ c.toNat ∧ c.toNat ≤ 122) || decide (65 ≤ c.toNat ∧ c.toNat ≤ 90)
def keyOk (s : Bs) : Bool := s.all keyC && (decide (1 ≤ s.length) && decide (s.length ≤ 8))
def nameOk (s : Bs) : Bool := s.all (fun c => decide (c ≠ 10)) && (decide (1 ≤ s.length) && decide (s.length ≤ 200))
/-- the place of the first siglum with a key -/
def find (t : List Sig) (key : Bs) : Int := if t.findIdx (fun x => decide (x.k = key)) < t.length then (t.findIdx (fun x => decide (x.k = key)) : Int) else -1
def keys (t : List Sig) : List Bs := t.map (·.k)
def may (t : List Sig) : Bool := decide (t.length ≤ 100) && t.all (fun x => keyOk x.k && nameOk x.n) && decide (keys t).Nodup
def line (x : Sig) : Bs := x.k ++ 32 :: x.n
def text (t : List Sig) : Bs := t.flatMap fun x => line x ++ [10]
def print (t : List Sig) : Bs := if may t = true then text t else []
/-- a text at its first blank -/
def cut : Bs → Option (Bs × Bs)
  | [] => none
  | c :: r => if c = 32 then some ([], r) else (cut r).map fun x => (c :: x.1, x.2)
/-- a line that may be -/
def lineOk (l : Bs) : Option Sig := match cut l with
  | none => none
  | some (k, n) => if keyOk k = true ∧ nameOk n = true then some ⟨k, n⟩ else none
/-- lines, one behind the other: i of them are read, t is what they are -/
def parseL : List Sig → Nat → List Bs → List Sig × Int × Int
  | t, i, [] => (t, 0, 0)
  | t, i, [l] => if l = [] then (t, 0, 0) else ([], 130, i)
  | t, i, l :: m :: r => match lineOk l with
    | none => ([], 130, i)
    | some x => if x.k ∈ keys t then ([], 131, i) else if t.length = 100 then ([], 132, i) else parseL (t ++ [x]) (i + 1) (m :: r)
def parse (s : Bs) : List Sig × Int × Int := parseL [] 0 (Mt.split 10 s)

theorem keyOk_yes {s : Bs} (h : keyOk s = true) : (∀ c ∈ s, keyC c = true) ∧ 1 ≤ s.length ∧ s.length ≤ 8 := by
  unfold keyOk at h
  simp only [Bool.and_eq_true, decide_eq_true_eq] at h
  exact ⟨List.all_eq_true.1 h.1, h.2.1, h.2.2⟩
theorem nameOk_yes {s : Bs} (h : nameOk s = true) : (10 : UInt8) ∉ s ∧ 1 ≤ s.length ∧ s.length ≤ 200 := by
  unfold nameOk at h
  simp only [Bool.and_eq_true, decide_eq_true_eq] at h
  refine ⟨fun hm => ?_, h.2.1, h.2.2⟩
  have := List.all_eq_true.1 h.1 10 hm
  simp at this
theorem keyC_no {c : UInt8} (h : keyC c = true) : c ≠ 10 ∧ c ≠ 32 ∧ c ≠ 46 := by
  unfold keyC at h
  simp only [Bool.or_eq_true, decide_eq_true_eq] at h
  refine ⟨?_, ?_, ?_⟩
  all_goals
    rintro rfl
    revert h
    decide
theorem key_free {s : Bs} (h : keyOk s = true) {c : UInt8} (hc : c = 10 ∨ c = 32 ∨ c = 46) : c ∉ s := fun hm => by
  have := keyC_no ((keyOk_yes h).1 c hm)
  rcases hc with rfl | rfl | rfl
  · exact this.1 rfl
  · exact this.2.1 rfl
  · exact this.2.2 rfl
theorem cut_at : ∀ {k : Bs} (n : Bs), (32 : UInt8) ∉ k → cut (k ++ 32 :: n) = some (k, n)
  | [], n, _ => by simp [cut]
  | c :: r, n, h => by
    have hc : c ≠ 32 := fun e => h (by rw [e]; exact List.mem_cons_self)
    have hr : (32 : UInt8) ∉ r := fun hm => h (List.mem_cons_of_mem _ hm)
    simp only [List.cons_append, cut]
    rw [if_neg hc, cut_at n hr]
    rfl
theorem cut_some : ∀ {l k n : Bs}, cut l = some (k, n) → l = k ++ 32 :: n ∧ (32 : UInt8) ∉ k
  | [], k, n, h => by simp [cut] at h
  | c :: r, k, n, h => by
    simp only [cut] at h
    split at h
    · rename_i hc
      simp only [Option.some.injEq, Prod.mk.injEq] at h
      obtain ⟨rfl, rfl⟩ := h
      exact ⟨by rw [hc]; rfl, by simp⟩
    · rename_i hc
      cases e : cut r with
      | none => rw [e] at h; cases h
      | some x =>
        obtain ⟨a, b⟩ := x
        rw [e] at h
        simp only [Option.map_some, Option.some.injEq, Prod.mk.injEq] at h
        obtain ⟨rfl, rfl⟩ := h
        obtain ⟨h1, h2⟩ := cut_some e
        refine ⟨by rw [h1]; rfl, fun hm => ?_⟩
        rcases List.mem_cons.1 hm with e' | hm
        · exact hc e'.symm
        · exact h2 hm
theorem lineOk_line {x : Sig} (hk : keyOk x.k = true) (hn : nameOk x.n = true) : lineOk (line x) = some x := by
  unfold lineOk line
  rw [cut_at x.n (key_free hk (.inr (.inl rfl)))]
  simp only []
  rw [if_pos ⟨hk, hn⟩]
theorem lineOk_some {l : Bs} {x : Sig} (h : lineOk l = some x) : l = line x ∧ keyOk x.k = true ∧ nameOk x.n = true := by
  unfold lineOk at h
  cases e : cut l with
  | none => rw [e] at h; cases h
  | some y =>
    obtain ⟨k, n⟩ := y
    rw [e] at h
    simp only [] at h
    split at h
    · rename_i hc
      obtain rfl := Option.some.inj h
      exact ⟨(cut_some e).1, hc.1, hc.2⟩
    · cases h
theorem line_free {x : Sig} (hk : keyOk x.k = true) (hn : nameOk x.n = true) : (10 : UInt8) ∉ line x := by
  unfold line
  intro h
  rcases List.mem_append.1 h with h | h
  · exact key_free hk (.inl rfl) h
  · rcases List.mem_cons.1 h with h | h
    · exact absurd h (by decide)
    · exact (nameOk_yes hn).1 h
theorem may_yes {t : List Sig} (h : may t = true) : t.length ≤ 100 ∧ (∀ x ∈ t, keyOk x.k = true ∧ nameOk x.n = true) ∧ (keys t).Nodup := by
  unfold may at h
  simp only [Bool.and_eq_true, decide_eq_true_eq] at h
  refine ⟨h.1.1, fun x hx => ?_, h.2⟩
  have := List.all_eq_true.1 h.1.2 x hx
  simpa only [Bool.and_eq_true] using this
theorem may_of {t : List Sig} (h1 : t.length ≤ 100) (h2 : ∀ x ∈ t, keyOk x.k = true ∧ nameOk x.n = true) (h3 : (keys t).Nodup) : may t = true := by
  unfold may
  rw [decide_eq_true h1, decide_eq_true h3]
  simp only [Bool.true_and, Bool.and_true]
  rw [List.all_eq_true]
  intro x hx
  rw [(h2 x hx).1, (h2 x hx).2]
  rfl
theorem keys_app (a b : List Sig) : keys (a ++ b) = keys a ++ keys b := List.map_append
/-- the lines of a table's text -/
theorem split_text {t : List Sig} (h : ∀ x ∈ t, keyOk x.k = true ∧ nameOk x.n = true) : Mt.split 10 (text t) = t.map line ++ [[]] := by
  have := Mt.split_lines (c := 10) [] (ls := t.map line) (fun l hl => by
    obtain ⟨x, hx, rfl⟩ := List.mem_map.1 hl
    exact line_free (h x hx).1 (h x hx).2)
  rw [List.append_nil, List.flatMap_map] at this
  unfold text
  rw [this]
  rfl
/-- lines that may be, read behind others -/
theorem parseL_lines : ∀ (s t : List Sig) (i : Nat), (∀ x ∈ s, keyOk x.k = true ∧ nameOk x.n = true) → (keys (t ++ s)).Nodup → (t ++ s).length ≤ 100 → ∀ r, r ≠ [] → parseL t i (s.map line ++ r) = parseL (t ++ s) (i + s.length) r
  | [], t, i, _, _, _, r, _ => by simp
  | x :: s, t, i, h, hn, hl, r, hr => by
    obtain ⟨m, q, e⟩ : ∃ m q, s.map line ++ r = m :: q := by
      cases e : s.map line ++ r with
      | nil => simp at e; exact absurd e.2 hr
      | cons m q => exact ⟨m, q, rfl⟩
    have hx := h x List.mem_cons_self
    have hk : ¬ x.k ∈ keys t := by
      rw [keys_app] at hn
      have := (List.nodup_append.1 hn).2.2
      intro hm
      exact this x.k hm x.k (by simp [keys]) rfl
    have hlen : ¬ t.length = 100 := by simp at hl; omega
    rw [List.map_cons, List.cons_append, e]
    simp only [parseL]
    rw [lineOk_line hx.1 hx.2]
    simp only []
    rw [if_neg hk, if_neg hlen, ← e, parseL_lines s (t ++ [x]) (i + 1) (fun y hy => h y (List.mem_cons_of_mem _ hy)) (by rw [List.append_assoc]; exact hn) (by rw [List.append_assoc]; exact hl) r hr]
    rw [List.append_assoc, List.length_cons]
    congr 1
    omega
/-- a table that may be is parsed from its print as it was -/
theorem parse_print {t : List Sig} (h : may t = true) : parse (print t) = (t, 0, 0) := by
  obtain ⟨h1, h2, h3⟩ := may_yes h
  unfold parse print
  rw [if_pos h, split_text h2, parseL_lines t [] 0 h2 (by simpa using h3) (by simpa using h1) [[]] (by simp)]
  simp [parseL]
/-- what is parsed is what its lines are -/
theorem parseL_ok : ∀ (ls : List Bs) (t : List Sig) (i : Nat) (m : List Sig) (z : Int), t.length ≤ 100 → (∀ x ∈ t, keyOk x.k = true ∧ nameOk x.n = true) → (keys t).Nodup → ls ≠ [] → parseL t i ls = (m, 0, z) → ∃ s, m = t ++ s ∧ ls = s.map line ++ [[]] ∧ may m = true ∧ z = 0
  | [], t, i, m, z, _, _, _, h, _ => absurd rfl h
  | [l], t, i, m, z, h1, h2, h3, _, h => by
    simp only [parseL] at h
    split at h
    · rename_i hl
      simp only [Prod.mk.injEq] at h
      obtain ⟨rfl, _, rfl⟩ := h
      exact ⟨[], by simp, by rw [hl]; rfl, may_of h1 h2 h3, rfl⟩
    · simp at h
  | l :: a :: r, t, i, m, z, h1, h2, h3, _, h => by
    simp only [parseL] at h
    cases e : lineOk l with
    | none => rw [e] at h; simp at h
    | some x =>
      rw [e] at h
      simp only [] at h
      split at h
      · simp at h
      · rename_i hk
        split at h
        · simp at h
        · rename_i hlen
          obtain ⟨e1, e2, e3⟩ := lineOk_some e
          obtain ⟨s, g1, g2, g3, g4⟩ := parseL_ok (a :: r) (t ++ [x]) (i + 1) m z (by simp; omega) (fun y hy => by
            rcases List.mem_append.1 hy with hy | hy
            · exact h2 y hy
            · simp at hy; subst hy; exact ⟨e2, e3⟩) (by
            rw [keys_app]
            refine List.nodup_append.2 ⟨h3, by simp [keys], fun y hy w hw => ?_⟩
            simp [keys] at hw
            subst hw
            intro e'
            exact hk (by rw [← e']; exact hy)) (by simp) h
          exact ⟨x :: s, by rw [g1, List.append_assoc]; rfl, by rw [g2, e1]; rfl, g3, g4⟩
/-- what is parsed may be, and is printed as it stood -/
theorem parse_ok {s : Bs} {t : List Sig} {z : Int} (h : parse s = (t, 0, z)) : may t = true ∧ print t = s ∧ z = 0 := by
  unfold parse at h
  obtain ⟨m, h1, h2, h3, h4⟩ := parseL_ok _ [] 0 t z (by simp) (by simp) (by simp [keys]) (Mt.split_ne 10 s) h
  rw [List.nil_append] at h1
  subst h1
  refine ⟨h3, ?_, h4⟩
  unfold print
  rw [if_pos h3]
  have := Mt.join_split 10 s
  rw [h2, Mt.join_lines, List.append_nil, List.flatMap_map] at this
  exact this
end Go.Proofs.YtfjplhgajoehfaaGreatDoor.Sg

set_option linter.unusedVariables false
set_option linter.unusedSimpArgs false
namespace Go.Proofs.YtfjplhgajoehfaaGreatDoor.Sg
open Go.Proofs.YtfjplhgajoehfaaGreatDoor

theorem parseL_twice : ∀ (s t : List Sig) (i : Nat), (∀ x ∈ s, keyOk x.k = true ∧ nameOk x.n = true) → (keys s).Nodup → (t ++ s).length ≤ 100 → (∃ x ∈ s, x.k ∈ keys t) → ∀ r, r ≠ [] → ∃ j : Nat, j < s.length ∧ parseL t i (s.map line ++ r) = ([], 131, ((i + j : Nat) : Int))
  | [], t, i, _, _, _, ⟨x, hx, _⟩, r, _ => by simp at hx
  | x :: s, t, i, h, hn, hl, hx, r, hr => by
    obtain ⟨m, q, e⟩ : ∃ m q, s.map line ++ r = m :: q := by
      cases e : s.map line ++ r with
      | nil => simp at e; exact absurd e.2 hr
      | cons m q => exact ⟨m, q, rfl⟩
    have hxo := h x List.mem_cons_self
    have hlen : ¬ t.length = 100 := by simp at hl; omega
    by_cases hk : x.k ∈ keys t
    · refine ⟨0, by simp, ?_⟩
      rw [List.map_cons, List.cons_append, e]
      simp only [parseL]
      rw [lineOk_line hxo.1 hxo.2]
      simp only []
      rw [if_pos hk]
      simp
    · have hn2 : (keys s).Nodup := by
        unfold keys at hn ⊢
        rw [List.map_cons] at hn
        exact (List.nodup_cons.1 hn).2
      obtain ⟨y, hy, hyk⟩ := hx
      have hys : y ∈ s := by
        rcases List.mem_cons.1 hy with rfl | hy
        · exact absurd hyk hk
        · exact hy
      obtain ⟨j, hj, hp⟩ := parseL_twice s (t ++ [x]) (i + 1) (fun z hz => h z (List.mem_cons_of_mem _ hz)) hn2 (by rw [List.append_assoc]; exact hl) ⟨y, hys, by rw [keys_app]; exact List.mem_append_left _ hyk⟩ r hr
      refine ⟨j + 1, by simp; omega, ?_⟩
      rw [List.map_cons, List.cons_append, e]
      simp only [parseL]
      rw [lineOk_line hxo.1 hxo.2]
      simp only []
      rw [if_neg hk, if_neg hlen, ← e, hp]
      congr 3
      omega
theorem text_app (a b : List Sig) : text (a ++ b) = text a ++ text b := List.flatMap_append
/-- of two texts of tables, one behind the other: the one's and then the other one's; or a key stands twice -/
theorem parse_parts {s u : Bs} {a b : List Sig} {y z : Int} (hs : parse s = (a, 0, y)) (hu : parse u = (b, 0, z)) (hl : a.length + b.length ≤ 100) :
    ((∀ x ∈ b, x.k ∉ keys a) → parse (s ++ u) = (a ++ b, 0, 0)) ∧ ((∃ x ∈ b, x.k ∈ keys a) → ∃ j : Nat, a.length ≤ j ∧ j < a.length + b.length ∧ parse (s ++ u) = ([], 131, (j : Int))) := by
  obtain ⟨ha, hsa, _⟩ := parse_ok hs
  obtain ⟨hb, hub, _⟩ := parse_ok hu
  obtain ⟨a1, a2, a3⟩ := may_yes ha
  obtain ⟨b1, b2, b3⟩ := may_yes hb
  unfold print at hsa hub
  rw [if_pos ha] at hsa
  rw [if_pos hb] at hub
  have hall : ∀ x ∈ a ++ b, keyOk x.k = true ∧ nameOk x.n = true := fun x hx => by
    rcases List.mem_append.1 hx with hx | hx
    · exact a2 x hx
    · exact b2 x hx
  have hsp : Mt.split 10 (s ++ u) = a.map line ++ (b.map line ++ [[]]) := by
    rw [← hsa, ← hub, ← text_app, split_text hall, List.map_append, List.append_assoc]
  constructor
  · intro hd
    have hm : may (a ++ b) = true := by
      refine may_of (by rw [List.length_append]; exact hl) hall ?_
      rw [keys_app]
      refine List.nodup_append.2 ⟨a3, b3, fun k hk m hm e => ?_⟩
      unfold keys at hm
      obtain ⟨x, hx, rfl⟩ := List.mem_map.1 hm
      exact hd x hx (by rw [← e]; exact hk)
    have := parse_print hm
    unfold print at this
    rw [if_pos hm, text_app, hsa, hub] at this
    exact this
  · intro hd
    obtain ⟨j, hj, hp⟩ := parseL_twice b a (0 + a.length) b2 b3 (by rw [List.length_append]; exact hl) hd [[]] (by simp)
    refine ⟨a.length + j, by omega, by omega, ?_⟩
    unfold parse
    rw [hsp, parseL_lines a [] 0 a2 (by simpa using a3) (by simpa using a1) _ (by simp), List.nil_append, hp]
    congr 3
    omega

/-! ### lists of keys -/
def dd : Bs := [46, 46]
/-- a run of keys, as it is written -/
def emit (run : List Bs) : List Bs := if 3 ≤ run.length then [run.headD [] ++ (dd ++ run.getLastD [])] else run
/-- runs of the keys that P has -/
def comp (P : Bs → Bool) : List Bs → List Bs → List Bs
  | run, [] => emit run
  | run, k :: r => if P k = true then comp P (run ++ [k]) r else emit run ++ comp P [] r
def compact (t : List Sig) (sel : List Bs) : Bs × Int × Int :=
  if may t = false then ([], 130, -1) else match sel.findIdx? (fun k => decide (find t k < 0)) with
    | some i => ([], 133, i)
    | none => (Mt.join 32 (comp (fun k => decide (k ∈ sel)) [] (keys t)), 0, 0)
/-- the place of the first two dots -/
def dots : Bs → Option Nat
  | [] => none
  | [_] => none
  | a :: b :: r => if a = 46 ∧ b = 46 then some 0 else (dots (b :: r)).map (· + 1)
/-- the keys from a to b -/
def range (t : List Sig) (a b : Int) : List Bs := ((keys t).take (b.toNat + 1)).drop a.toNat
def wordOf (t : List Sig) (w : Bs) : Option (List Bs) := match dots w with
  | none => if find t w < 0 then none else some (range t (find t w) (find t w))
  | some d => if find t (w.take d) < 0 ∨ find t (w.drop (d + 2)) < 0 ∨ find t (w.drop (d + 2)) ≤ find t (w.take d) then none else some (range t (find t (w.take d)) (find t (w.drop (d + 2))))
def expandL (t : List Sig) : Nat → List Bs → List Bs → List Bs × Int × Int
  | _, out, [] => (out, 0, 0)
  | i, out, w :: r => match wordOf t w with
    | none => ([], 133, i)
    | some l => expandL t (i + 1) (out ++ l) r
def expand (t : List Sig) (s : Bs) : List Bs × Int × Int := if may t = false then ([], 130, -1) else if s = [] then ([], 0, 0) else expandL t 0 [] (Mt.split 32 s)

theorem dots_none : ∀ {s : Bs}, (46 : UInt8) ∉ s → dots s = none
  | [], _ => rfl
  | [_], _ => rfl
  | a :: b :: r, h => by
    simp only [dots]
    rw [if_neg (fun e => h (by rw [e.1]; exact List.mem_cons_self)), dots_none (fun hm => h (List.mem_cons_of_mem _ hm))]
    rfl
theorem dots_at : ∀ {a : Bs} (b : Bs), (46 : UInt8) ∉ a → dots (a ++ (dd ++ b)) = some a.length
  | [], b, _ => by simp [dd, dots]
  | [x], b, h => by
    have hx : x ≠ 46 := fun e => h (by rw [e]; exact List.mem_cons_self)
    simp [dd, dots, hx]
  | x :: y :: r, b, h => by
    have hx : x ≠ 46 := fun e => h (by rw [e]; exact List.mem_cons_self)
    have ih := dots_at (a := y :: r) b (fun hm => h (List.mem_cons_of_mem _ hm))
    simp only [List.cons_append, dots] at ih ⊢
    rw [if_neg (fun e => hx e.1), ih]
    simp
/-- where a key of the table stands -/
theorem find_at {t : List Sig} (hn : (keys t).Nodup) {i : Nat} {k : Bs} (h : (keys t)[i]? = some k) : find t k = (i : Int) := by
  unfold keys at h hn
  rw [List.getElem?_map] at h
  cases e : t[i]? with
  | none => rw [e] at h; cases h
  | some x =>
    rw [e] at h
    obtain rfl := Option.some.inj h
    obtain ⟨hi, hx⟩ := List.getElem?_eq_some_iff.1 e
    have hf : t.findIdx (fun y => decide (y.k = x.k)) = i := by
      rw [List.findIdx_eq hi]
      refine ⟨by simp [hx], fun j hj => ?_⟩
      simp only [decide_eq_false_iff_not]
      intro hk
      have h1 := List.pairwise_iff_getElem.1 hn j i (by simp; omega) (by simp; omega) hj
      simp only [List.getElem_map] at h1
      exact h1 (by rw [hk, hx])
    unfold find
    rw [if_pos (by rw [hf]; exact hi), hf]
theorem find_no {t : List Sig} {k : Bs} (h : k ∉ keys t) : find t k = -1 := by
  unfold find
  rw [if_neg]
  intro hlt
  have := List.findIdx_getElem (w := hlt)
  simp only [decide_eq_true_eq] at this
  apply h
  unfold keys
  rw [← this]
  exact List.mem_map_of_mem (List.getElem_mem hlt)
theorem find_neg {t : List Sig} {k : Bs} : find t k < 0 ↔ k ∉ keys t := by
  constructor
  · intro h hm
    unfold find at h
    rw [if_pos] at h
    · omega
    · unfold keys at hm
      obtain ⟨x, hx, rfl⟩ := List.mem_map.1 hm
      exact List.findIdx_lt_length_of_exists ⟨x, hx, by simp⟩
  · intro h
    rw [find_no h]
    omega
theorem mem_key {t : List Sig} (h : may t = true) {k : Bs} (hk : k ∈ keys t) : keyOk k = true := by
  unfold keys at hk
  obtain ⟨x, hx, rfl⟩ := List.mem_map.1 hk
  exact ((may_yes h).2.1 x hx).1
theorem getLastD_at {l : List Bs} {i n : Nat} (h : l.length = n + 1) : l[n]? = some (l.getLastD []) := by
  rw [List.getLastD_eq_getLast?, List.getLast?_eq_getElem?, h, Nat.add_sub_cancel]
  rw [List.getElem?_eq_getElem (by omega)]
  rfl
end Go.Proofs.YtfjplhgajoehfaaGreatDoor.Sg

set_option linter.unusedVariables false
set_option linter.unusedSimpArgs false
namespace Go.Proofs.YtfjplhgajoehfaaGreatDoor.Sg
open Go.Proofs.YtfjplhgajoehfaaGreatDoor

theorem range_mid {t : List Sig} {pre run post : List Bs} (h : keys t = pre ++ (run ++ post)) {a b : Int} (ha : a = (pre.length : Int)) (hb : b + 1 = ((pre.length + run.length : Nat) : Int)) (h0 : 0 ≤ b) : range t a b = run := by
  unfold range
  have e : b.toNat + 1 = pre.length + run.length := by omega
  rw [e, ha, Int.toNat_natCast, h, ← List.append_assoc, List.take_left' (by rw [List.length_append]), List.drop_left]
theorem key_at {t : List Sig} {pre run post : List Bs} (h : keys t = pre ++ (run ++ post)) {j : Nat} {k : Bs} (hk : run[j]? = some k) : (keys t)[pre.length + j]? = some k := by
  rw [h, List.getElem?_append_right (by omega), Nat.add_sub_cancel_left, List.getElem?_append_left (List.getElem?_eq_some_iff.1 hk).1, hk]
theorem word_one {t : List Sig} (hm : may t = true) {pre post : List Bs} {k : Bs} (h : keys t = pre ++ ([k] ++ post)) : wordOf t k = some [k] := by
  have hf := find_at (may_yes hm).2.2 (key_at h (j := 0) (k := k) rfl)
  have hmem : k ∈ keys t := by rw [h]; simp
  unfold wordOf
  rw [dots_none (key_free (mem_key hm hmem) (.inr (.inr rfl)))]
  simp only []
  rw [hf, if_neg (by omega), range_mid h (by omega) (by simp) (by omega)]
theorem word_run {t : List Sig} (hm : may t = true) {pre run post : List Bs} (h : keys t = pre ++ (run ++ post)) (hl : 3 ≤ run.length) : wordOf t (run.headD [] ++ (dd ++ run.getLastD [])) = some run := by
  obtain ⟨n, hn⟩ : ∃ n, run.length = n + 1 := ⟨run.length - 1, by omega⟩
  have h0 : run[0]? = some (run.headD []) := by
    cases run with
    | nil => simp at hl
    | cons x r => rfl
  have h1 : run[n]? = some (run.getLastD []) := getLastD_at (i := 0) hn
  have f0 := find_at (may_yes hm).2.2 (key_at h h0)
  have f1 := find_at (may_yes hm).2.2 (key_at h h1)
  have m0 : run.headD [] ∈ keys t := List.mem_of_getElem? (key_at h h0)
  unfold wordOf
  rw [dots_at _ (key_free (mem_key hm m0) (.inr (.inr rfl)))]
  simp only []
  have e1 : (run.headD [] ++ (dd ++ run.getLastD [])).take (run.headD []).length = run.headD [] := List.take_left
  have e2 : (run.headD [] ++ (dd ++ run.getLastD [])).drop ((run.headD []).length + 2) = run.getLastD [] := by
    rw [← List.append_assoc, show (run.headD []).length + 2 = (run.headD [] ++ dd).length by simp [dd], List.drop_left]
  rw [e1, e2, f0, f1, if_neg (by omega), range_mid h (by omega) (by rw [hn]; omega) (by omega)]
theorem expand_emit {t : List Sig} (hm : may t = true) {pre run post : List Bs} (h : keys t = pre ++ (run ++ post)) (i : Nat) (out r : List Bs) : expandL t i out (emit run ++ r) = expandL t (i + (emit run).length) (out ++ run) r := by
  unfold emit
  by_cases hl : 3 ≤ run.length
  · rw [if_pos hl]
    simp only [List.cons_append, List.nil_append, expandL]
    rw [word_run hm h hl]
    rfl
  · rw [if_neg hl]
    match run, hl with
    | [], _ => simp
    | [k], _ =>
      simp only [List.cons_append, List.nil_append, expandL]
      rw [word_one hm h]
      rfl
    | [k, m], _ =>
      simp only [List.cons_append, List.nil_append, expandL]
      rw [word_one hm (pre := pre) (post := m :: post) (by rw [h]; rfl)]
      simp only []
      rw [word_one hm (pre := pre ++ [k]) (post := post) (by rw [h]; simp)]
      simp
    | _ :: _ :: _ :: _, hl => simp at hl
theorem comp_expand {t : List Sig} (hm : may t = true) (P : Bs → Bool) : ∀ (rest pre run : List Bs) (i : Nat) (out : List Bs), keys t = pre ++ (run ++ rest) → expandL t i out (comp P run rest) = (out ++ (run ++ rest.filter P), 0, 0)
  | [], pre, run, i, out, h => by
    have := expand_emit hm h i out []
    rw [List.append_nil] at this
    simp only [comp]
    rw [this]
    simp [expandL]
  | k :: r, pre, run, i, out, h => by
    simp only [comp]
    by_cases hp : P k = true
    · rw [if_pos hp, comp_expand hm P r pre (run ++ [k]) i out (by rw [h]; simp), List.filter_cons, if_pos hp]
      simp
    · rw [if_neg hp, expand_emit hm h, comp_expand hm P r (pre ++ (run ++ [k])) [] _ _ (by rw [h]; simp), List.filter_cons, if_neg hp]
      simp
/-- what is written has no blank in it, and is not empty -/
theorem emit_free {run : List Bs} (h : ∀ k ∈ run, keyOk k = true) : ∀ w ∈ emit run, (32 : UInt8) ∉ w ∧ w ≠ [] := by
  intro w hw
  unfold emit at hw
  split at hw
  · rename_i hl
    obtain ⟨n, hn⟩ : ∃ n, run.length = n + 1 := ⟨run.length - 1, by omega⟩
    rw [List.mem_singleton] at hw
    subst hw
    have m0 : run.headD [] ∈ run := by
      cases run with
      | nil => simp at hl
      | cons x r => simp
    have m1 : run.getLastD [] ∈ run := List.mem_of_getElem? (getLastD_at (i := 0) hn)
    refine ⟨fun hm => ?_, by simp [dd]⟩
    rcases List.mem_append.1 hm with hm | hm
    · exact key_free (h _ m0) (.inr (.inl rfl)) hm
    · rcases List.mem_append.1 hm with hm | hm
      · revert hm; decide
      · exact key_free (h _ m1) (.inr (.inl rfl)) hm
  · refine ⟨key_free (h w hw) (.inr (.inl rfl)), fun e => ?_⟩
    have := (keyOk_yes (h w hw)).2.1
    rw [e] at this
    simp at this
theorem comp_free {P : Bs → Bool} : ∀ (rest run : List Bs), (∀ k ∈ run, keyOk k = true) → (∀ k ∈ rest, keyOk k = true) → ∀ w ∈ comp P run rest, (32 : UInt8) ∉ w ∧ w ≠ []
  | [], run, h, _, w, hw => emit_free h w (by simpa [comp] using hw)
  | k :: r, run, h, hr, w, hw => by
    have h2 : ∀ m ∈ r, keyOk m = true := fun m hm => hr m (List.mem_cons_of_mem _ hm)
    simp only [comp] at hw
    split at hw
    · exact comp_free r (run ++ [k]) (fun m hm => by
        rcases List.mem_append.1 hm with hm | hm
        · exact h m hm
        · simp at hm; subst hm; exact hr m List.mem_cons_self) h2 w hw
    · rcases List.mem_append.1 hw with hw | hw
      · exact emit_free h w hw
      · exact comp_free r [] (by simp) h2 w hw
theorem join_ne {ls : List Bs} (h0 : ls ≠ []) (h : ∀ w ∈ ls, w ≠ []) : Mt.join 32 ls ≠ [] := by
  cases ls with
  | nil => exact absurd rfl h0
  | cons w r =>
    have hw := h w List.mem_cons_self
    cases r with
    | nil => simpa [Mt.join] using hw
    | cons a b =>
      rw [Mt.join_cons 32 w (by simp)]
      simp
/-- keys are expanded from what they are compacted to: each once, in the table's order -/
theorem expand_compact {t : List Sig} (hm : may t = true) (P : Bs → Bool) : expand t (Mt.join 32 (comp P [] (keys t))) = ((keys t).filter P, 0, 0) := by
  have hall : ∀ k ∈ keys t, keyOk k = true := fun k hk => mem_key hm hk
  have hfr := comp_free (P := P) (keys t) [] (by simp) hall
  have hx := comp_expand hm P (keys t) [] [] 0 [] (by simp)
  rw [List.nil_append, List.nil_append] at hx
  unfold expand
  rw [if_neg (by rw [hm]; decide)]
  by_cases h0 : comp P [] (keys t) = []
  · rw [h0] at hx ⊢
    simp only [expandL, Prod.mk.injEq] at hx
    rw [if_pos (by rfl), ← hx.1]
  · rw [if_neg (join_ne h0 fun w hw => (hfr w hw).2), Mt.split_join h0 (fun w hw => (hfr w hw).1), hx]
theorem comp_congr {P Q : Bs → Bool} : ∀ (rest run : List Bs), (∀ k ∈ rest, P k = Q k) → comp P run rest = comp Q run rest
  | [], run, _ => rfl
  | k :: r, run, h => by
    simp only [comp]
    rw [h k List.mem_cons_self, comp_congr r (run ++ [k]) (fun m hm => h m (List.mem_cons_of_mem _ hm)), comp_congr r [] (fun m hm => h m (List.mem_cons_of_mem _ hm))]
theorem compact_ok {t : List Sig} {sel : List Bs} (hm : may t = true) (h : ∀ k ∈ sel, k ∈ keys t) : compact t sel = (Mt.join 32 (comp (fun k => decide (k ∈ sel)) [] (keys t)), 0, 0) := by
  unfold compact
  rw [if_neg (by rw [hm]; decide)]
  have e : sel.findIdx? (fun k => decide (find t k < 0)) = none := by
    rw [List.findIdx?_eq_none_iff]
    intro k hk
    rw [decide_eq_false_iff_not, find_neg]
    exact fun hn => hn (h k hk)
  rw [e]
theorem compact_some {t : List Sig} {sel : List Bs} {c : Bs} {z : Int} (h : compact t sel = (c, 0, z)) : may t = true ∧ (∀ k ∈ sel, k ∈ keys t) ∧ c = Mt.join 32 (comp (fun k => decide (k ∈ sel)) [] (keys t)) ∧ z = 0 := by
  cases hm : may t with
  | false =>
    unfold compact at h
    rw [if_pos hm] at h
    simp at h
  | true =>
    have hs : ∀ k ∈ sel, k ∈ keys t := by
      unfold compact at h
      rw [if_neg (by rw [hm]; decide)] at h
      cases e : sel.findIdx? (fun k => decide (find t k < 0)) with
      | some i => rw [e] at h; simp at h
      | none =>
        intro k hk
        rw [List.findIdx?_eq_none_iff] at e
        have := e k hk
        rw [decide_eq_false_iff_not, find_neg] at this
        exact Decidable.not_not.1 this
    rw [compact_ok hm hs] at h
    simp only [Prod.mk.injEq] at h
    exact ⟨rfl, hs, h.1.symm, h.2.2.symm⟩
/-- the whole of it: what comes back, and what it is compacted to again -/
theorem back {t : List Sig} {sel : List Bs} {c : Bs} {z : Int} (h : compact t sel = (c, 0, z)) : expand t c = ((keys t).filter (fun k => decide (k ∈ sel)), 0, 0) ∧ compact t ((keys t).filter (fun k => decide (k ∈ sel))) = (c, 0, 0) := by
  obtain ⟨hm, hs, rfl, _⟩ := compact_some h
  refine ⟨expand_compact hm _, ?_⟩
  rw [compact_ok hm (fun k hk => (List.mem_filter.1 hk).1)]
  congr 2
  refine comp_congr _ _ fun k hk => ?_
  simp only [List.mem_filter, decide_eq_true_eq, decide_eq_decide]
  exact ⟨fun h => h.2, fun h => ⟨hk, h⟩⟩
/-- all keys of a table of three and more; one key -/
theorem compact_all {t : List Sig} (hm : may t = true) (h3 : 3 ≤ t.length) : compact t (keys t) = ((keys t).headD [] ++ (dd ++ (keys t).getLastD []), 0, 0) := by
  rw [compact_ok hm (fun k hk => hk)]
  have hc : ∀ (rest run : List Bs), (∀ k ∈ rest, k ∈ keys t) → comp (fun k => decide (k ∈ keys t)) run rest = emit (run ++ rest) := by
    intro rest
    induction rest with
    | nil => intro run _; simp [comp]
    | cons k r ih =>
      intro run h
      simp only [comp]
      rw [if_pos (by simpa using h k List.mem_cons_self), ih _ (fun m hm => h m (List.mem_cons_of_mem _ hm)), List.append_assoc]
      rfl
  rw [hc _ [] (fun k hk => hk), List.nil_append]
  unfold emit
  rw [if_pos (by unfold keys; rw [List.length_map]; exact h3)]
  rfl
theorem comp_skip {P : Bs → Bool} : ∀ (rest : List Bs), (∀ k ∈ rest, P k = false) → comp P [] rest = []
  | [], _ => rfl
  | k :: r, h => by
    simp only [comp]
    rw [if_neg (by rw [h k List.mem_cons_self]; decide), comp_skip r (fun m hm => h m (List.mem_cons_of_mem _ hm))]
    rfl
theorem comp_single {P : Bs → Bool} {k : Bs} (hk : P k = true) : ∀ (pre post : List Bs), (∀ m ∈ pre, P m = false) → (∀ m ∈ post, P m = false) → comp P [] (pre ++ k :: post) = [k]
  | m :: pre, post, h1, h2 => by
    simp only [List.cons_append, comp]
    rw [if_neg (by rw [h1 m List.mem_cons_self]; decide), comp_single hk pre post (fun x hx => h1 x (List.mem_cons_of_mem _ hx)) h2]
    rfl
  | [], [], _, _ => by
    simp only [List.nil_append, comp]
    rw [if_pos hk]
    rfl
  | [], m :: post, _, h2 => by
    simp only [List.nil_append, comp]
    rw [if_pos hk, if_neg (by rw [h2 m List.mem_cons_self]; decide), comp_skip post (fun x hx => h2 x (List.mem_cons_of_mem _ hx))]
    rfl
theorem compact_one {t : List Sig} (hm : may t = true) {k : Bs} (hk : k ∈ keys t) : compact t [k] = (k, 0, 0) := by
  rw [compact_ok hm (fun m hmm => by rw [List.mem_singleton] at hmm; subst hmm; exact hk)]
  obtain ⟨pre, post, e⟩ := List.append_of_mem hk
  have hn := (may_yes hm).2.2
  rw [e] at hn ⊢
  have h1 := List.nodup_append.1 hn
  rw [comp_single (P := fun m => decide (m ∈ [k])) (by simp) pre post (fun m hmm => by
    simp only [List.mem_singleton, decide_eq_false_iff_not]
    exact fun e' => h1.2.2 m hmm k List.mem_cons_self e') (fun m hmm => by
    simp only [List.mem_singleton, decide_eq_false_iff_not]
    intro e'
    subst e'
    exact (List.nodup_cons.1 h1.2.1).1 hmm)]
  rfl
end Go.Proofs.YtfjplhgajoehfaaGreatDoor.Sg
