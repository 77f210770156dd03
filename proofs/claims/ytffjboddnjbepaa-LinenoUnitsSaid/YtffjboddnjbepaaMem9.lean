/-
  Rows of records in memory; records' cells of this seat: glue, items, parts.
-/
import Derived.Test.YtffjboddnjbepaaIt9
import Derived.Test.YtffjboddnjbepaaDefs
import Derived.LaidEql
set_option linter.unusedVariables false
set_option linter.unusedSimpArgs false
namespace Go.Proofs.Ytffjboddnjbepaa
open Go.RowKit

def str (l : List UInt8) : ByteArray := ⟨l.toArray⟩
theorem str_data (l : List UInt8) : (str l).data.toList = l := by simp [str]
theorem str_of (s : ByteArray) : str s.data.toList = s := by
  apply ByteArray.ext
  simp [str]
/-- the cells cs lie at b, o -/
def RecAt (w : World) (b o : Nat) (cs : List Value) : Prop := ∀ j u, cs[j]? = some u → w.cell? ⟨b, o + j, none⟩ = some u
theorem RecAt.mono {w w' : World} {b o : Nat} {cs : List Value} (h : RecAt w b o cs) (hb : Below w.heap.size w w') : RecAt w' b o cs := fun j u hj => cell_below hb (h j u hj)
/-- v is a slice of the records l, each of k cells, as f says -/
def SlcAt {α : Type} (f : α → List Value) (k : Nat) (w : World) (v : Value) (l : List α) : Prop :=
  (∃ a cap, v = .slice a l.length cap ∧ l.length ≤ cap) ∧ l.length ≤ maxLen ∧ (0 < l.length → ∃ b o cap, v = .slice (some ⟨b, o, none⟩) l.length cap ∧ ∀ i x, l[i]? = some x → RecAt w b (o + i * k) (f x))
theorem SlcAt.mono {α : Type} {f : α → List Value} {k : Nat} {w w' : World} {v : Value} {l : List α} (h : SlcAt f k w v l) (hb : Below w.heap.size w w') : SlcAt f k w' v l := by
  obtain ⟨h1, h2, h3⟩ := h
  refine ⟨h1, h2, fun hp => ?_⟩
  obtain ⟨b, o, cap, e, hc⟩ := h3 hp
  exact ⟨b, o, cap, e, fun i x hx => (hc i x hx).mono hb⟩
theorem slc_none {α : Type} (f : α → List Value) (k : Nat) (w : World) : SlcAt f k w (.slice none 0 0) [] := ⟨⟨none, 0, rfl, Nat.le_refl _⟩, by unfold maxLen; simp, fun h => by simp at h⟩
/-- v is a row of the call's own, of the records l -/
def OwnR {α : Type} (T : TypeId) (f : α → List Value) (k B : Nat) (v : Value) (l : List α) (w : World) : Prop := w.ownsRow B T k v l.length (l.flatMap f)
theorem flat_at {α : Type} {f : α → List Value} {k : Nat} (hf : ∀ x, (f x).length = k) : ∀ (l : List α) (i : Nat) (x : α), l[i]? = some x → ∀ j u, (f x)[j]? = some u → (l.flatMap f)[i * k + j]? = some u
  | [], i, x, h, _, _, _ => by simp at h
  | y :: r, 0, x, h, j, u, hj => by
    simp at h
    subst h
    rw [List.flatMap_cons, Nat.zero_mul, Nat.zero_add, List.getElem?_append_left (List.getElem?_eq_some_iff.1 hj).1]
    exact hj
  | y :: r, i + 1, x, h, j, u, hj => by
    simp at h
    have ih := flat_at hf r i x h j u hj
    rw [List.flatMap_cons, List.getElem?_append_right (by rw [hf, Nat.add_mul]; omega), hf, show (i + 1) * k + j - k = i * k + j by rw [Nat.add_mul]; omega]
    exact ih
theorem OwnR.at {α : Type} {T : TypeId} {f : α → List Value} {k B : Nat} {v : Value} {l : List α} {w : World} (h : OwnR T f k B v l w) (hf : ∀ x, (f x).length = k) : SlcAt f k w v l := by
  have h0 := h
  rcases h.2 with ⟨rfl, hn⟩ | ⟨g, cap, cur, rfl, _, hg, hcap, hmax, hsz, htake⟩
  · refine ⟨⟨none, 0, by rw [hn], by omega⟩, by omega, fun hp => by omega⟩
  · refine ⟨⟨_, _, rfl, hcap⟩, by omega, fun hp => ⟨g, 0, cap, rfl, fun i x hx j u hj => ?_⟩⟩
    have c1 := World.ownsRow.cells h0 (g := g) rfl _ _ (flat_at hf l i x hx j u hj)
    rw [add_none] at c1
    simpa using c1
theorem OwnR.mono {α : Type} {T : TypeId} {f : α → List Value} {k B : Nat} {v : Value} {l : List α} {w w' : World} (h : OwnR T f k B v l w) (hb : Below w.heap.size w w') : OwnR T f k B v l w' :=
  World.ownsRow.kept h (row := none) ⟨hb.os, hb.tape, hb.output, hb.size, fun i hi _ => hb.block i hi⟩ (by cases v.ownBlock <;> simp)
theorem ownR_nil {α : Type} (T : TypeId) (f : α → List Value) (k B : Nat) (w : World) : OwnR T f k B (.slice none 0 0) [] w := World.ownsRow_nil _ _ _ _


/-! ### records of this seat -/
def glC (g : It.Gl) : List Value := [.int .i64 g.w, .int .i64 g.st, .int .i64 g.sk, .int .i64 g.o]
def itC (x : It.Itm) : List Value := [.int .i64 x.k, .int .i64 x.g.w, .int .i64 x.g.st, .int .i64 x.g.sk, .int .i64 x.g.o, .int .i64 x.p, .bool x.f, .int .i64 x.n, .int .i64 x.q]
def ptC (p : It.Pt) : List Value := [.string p.s, .int .i64 p.w, .int .i64 p.h, .int .i64 p.d]
def glV (g : It.Gl) : Value := .agg #[.int .i64 g.w, .int .i64 g.st, .int .i64 g.sk, .int .i64 g.o]
def itV (x : It.Itm) : Value := .agg #[.int .i64 x.k, .int .i64 x.g.w, .int .i64 x.g.st, .int .i64 x.g.sk, .int .i64 x.g.o, .int .i64 x.p, .bool x.f, .int .i64 x.n, .int .i64 x.q]
abbrev GlsAt (w : World) (v : Value) (l : List It.Gl) : Prop := SlcAt glC 4 w v l
abbrev ItsAt (w : World) (v : Value) (l : List It.Itm) : Prop := SlcAt itC 9 w v l
abbrev PtsAt (w : World) (v : Value) (l : List It.Pt) : Prop := SlcAt ptC 4 w v l
theorem glC_len (x : It.Gl) : (glC x).length = 4 := rfl
theorem itC_len (x : It.Itm) : (itC x).length = 9 := rfl
theorem ptC_len (x : It.Pt) : (ptC x).length = 4 := rfl
theorem gl_cells {w : World} {b o : Nat} {g : It.Gl} (h : RecAt w b o (glC g)) : w.cell? ⟨b, o, none⟩ = some (.int .i64 g.w) ∧ w.cell? ⟨b, o + 1, none⟩ = some (.int .i64 g.st) ∧ w.cell? ⟨b, o + 2, none⟩ = some (.int .i64 g.sk) ∧ w.cell? ⟨b, o + 3, none⟩ = some (.int .i64 g.o) :=
  ⟨h 0 _ rfl, h 1 _ rfl, h 2 _ rfl, h 3 _ rfl⟩
theorem pt_cells {w : World} {b o : Nat} {p : It.Pt} (h : RecAt w b o (ptC p)) : w.cell? ⟨b, o, none⟩ = some (.string p.s) ∧ w.cell? ⟨b, o + 1, none⟩ = some (.int .i64 p.w) ∧ w.cell? ⟨b, o + 2, none⟩ = some (.int .i64 p.h) ∧ w.cell? ⟨b, o + 3, none⟩ = some (.int .i64 p.d) :=
  ⟨h 0 _ rfl, h 1 _ rfl, h 2 _ rfl, h 3 _ rfl⟩
theorem it_cells {w : World} {b o : Nat} {x : It.Itm} (h : RecAt w b o (itC x)) : w.cell? ⟨b, o, none⟩ = some (.int .i64 x.k) ∧ w.cell? ⟨b, o + 1, none⟩ = some (.int .i64 x.g.w) ∧ w.cell? ⟨b, o + 2, none⟩ = some (.int .i64 x.g.st) ∧ w.cell? ⟨b, o + 3, none⟩ = some (.int .i64 x.g.sk) ∧ w.cell? ⟨b, o + 4, none⟩ = some (.int .i64 x.g.o) ∧
    w.cell? ⟨b, o + 5, none⟩ = some (.int .i64 x.p) ∧ w.cell? ⟨b, o + 6, none⟩ = some (.bool x.f) ∧ w.cell? ⟨b, o + 7, none⟩ = some (.int .i64 x.n) ∧ w.cell? ⟨b, o + 8, none⟩ = some (.int .i64 x.q) :=
  ⟨h 0 _ rfl, h 1 _ rfl, h 2 _ rfl, h 3 _ rfl, h 4 _ rfl, h 5 _ rfl, h 6 _ rfl, h 7 _ rfl, h 8 _ rfl⟩

/-! ### slices of slices -/
/-- v is a slice of the values that R says are l's -/
def RowAt {α : Type} (R : World → Value → α → Prop) (w : World) (v : Value) (l : List α) : Prop :=
  (∃ a cap, v = .slice a l.length cap ∧ l.length ≤ cap) ∧ l.length ≤ maxLen ∧ (0 < l.length → ∃ b o cap, v = .slice (some ⟨b, o, none⟩) l.length cap ∧ ∀ i x, l[i]? = some x → ∃ u, w.cell? ⟨b, o + i, none⟩ = some u ∧ R w u x)
theorem RowAt.mono {α : Type} {R : World → Value → α → Prop} (hR : ∀ w w' u x, R w u x → Below w.heap.size w w' → R w' u x) {w w' : World} {v : Value} {l : List α} (h : RowAt R w v l) (hb : Below w.heap.size w w') : RowAt R w' v l := by
  obtain ⟨h1, h2, h3⟩ := h
  refine ⟨h1, h2, fun hp => ?_⟩
  obtain ⟨b, o, cap, e, hc⟩ := h3 hp
  refine ⟨b, o, cap, e, fun i x hx => ?_⟩
  obtain ⟨u, hu, hr⟩ := hc i x hx
  exact ⟨u, cell_below hb hu, hR _ _ _ _ hr hb⟩
theorem row_none {α : Type} (R : World → Value → α → Prop) (w : World) : RowAt R w (.slice none 0 0) [] := ⟨⟨none, 0, rfl, Nat.le_refl _⟩, by unfold maxLen; simp, fun h => by simp at h⟩
abbrev WordsAt (w : World) (v : Value) (l : List (List It.Pt)) : Prop := RowAt PtsAt w v l
abbrev LinesAt (w : World) (v : Value) (l : List (List (List It.Pt))) : Prop := RowAt WordsAt w v l
theorem pts_mono (w w' : World) (u : Value) (x : List It.Pt) (h : PtsAt w u x) (hb : Below w.heap.size w w') : PtsAt w' u x := SlcAt.mono h hb
theorem words_mono (w w' : World) (u : Value) (x : List (List It.Pt)) (h : WordsAt w u x) (hb : Below w.heap.size w w') : WordsAt w' u x := RowAt.mono pts_mono h hb
theorem lines_mono (w w' : World) (u : Value) (x : List (List (List It.Pt))) (h : LinesAt w u x) (hb : Below w.heap.size w w') : LinesAt w' u x := RowAt.mono words_mono h hb
/-- the length of a slice that is opened -/
theorem SlcAt.zero {α : Type} {f : α → List Value} {k : Nat} {w : World} {v : Value} {l : List α} (h : SlcAt f k w v l) (hn : l.length = 0) : ∃ a cap, v = .slice a 0 cap := by
  obtain ⟨⟨a, cap, e, _⟩, _⟩ := h
  exact ⟨a, cap, by rw [e, hn]⟩
theorem glC_cell (l : List It.Gl) : ∀ u ∈ l.flatMap glC, u.oneCell' = true := by
  intro u hu
  obtain ⟨t, _, h⟩ := List.mem_flatMap.1 hu
  simp [glC] at h
  rcases h with rfl | rfl | rfl | rfl <;> rfl
theorem itC_cell (l : List It.Itm) : ∀ u ∈ l.flatMap itC, u.oneCell' = true := by
  intro u hu
  obtain ⟨t, _, h⟩ := List.mem_flatMap.1 hu
  simp [itC] at h
  rcases h with rfl | rfl | rfl | rfl | rfl | rfl | rfl | rfl | rfl <;> rfl
/-- the length of flat cells -/
theorem flat_len {α : Type} {f : α → List Value} {k : Nat} (hf : ∀ x, (f x).length = k) : ∀ l : List α, (l.flatMap f).length = l.length * k
  | [] => by simp
  | x :: r => by rw [List.flatMap_cons, List.length_append, hf, flat_len hf r, List.length_cons, Nat.succ_mul]; omega
/-- the cells of a slice of records, one behind the other -/
theorem flat_cells {α : Type} {f : α → List Value} {k : Nat} (hf : ∀ x, (f x).length = k) {w : World} {b : Nat} : ∀ {l : List α} {o : Nat}, (∀ i x, l[i]? = some x → RecAt w b (o + i * k) (f x)) → ∀ j u, (l.flatMap f)[j]? = some u → w.cell? ⟨b, o + j, none⟩ = some u
  | [], o, h, j, u, hj => by simp at hj
  | x :: r, o, h, j, u, hj => by
    rw [List.flatMap_cons] at hj
    rcases Nat.lt_or_ge j k with hlt | hge
    · rw [List.getElem?_append_left (by rw [hf]; exact hlt)] at hj
      have := h 0 x rfl j u hj
      simpa using this
    · rw [List.getElem?_append_right (by rw [hf]; exact hge), hf] at hj
      have := flat_cells hf (l := r) (o := o + k) (fun i y hy => by
        have := h (i + 1) y (by simpa using hy)
        rw [show o + k + i * k = o + (i + 1) * k by rw [Nat.add_mul]; omega]
        exact this) (j - k) u hj
      rw [show o + j = o + k + (j - k) by omega]
      exact this
end Go.Proofs.Ytffjboddnjbepaa
