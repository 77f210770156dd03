/-
  Placed boxes and lines in memory.
-/
import Derived.Test.YthcilpijiindeaaSe12
import Derived.Test.YthcilpijiindeaaWidths12
import Derived.Test.YthcilpijiindeaaApp9
set_option linter.unusedVariables false
set_option linter.unusedSimpArgs false
namespace Go.Proofs.Ythcilpijiindeaa
open Go.RowKit

def pcC (p : It.Plc) : List Value := [.int .i64 p.n, .int .i64 p.q, .int .i64 p.x, .int .i64 p.w]
def pcV (p : It.Plc) : Value := .agg #[.int .i64 p.n, .int .i64 p.q, .int .i64 p.x, .int .i64 p.w]
theorem pcC_len (p : It.Plc) : (pcC p).length = 4 := rfl
theorem infoPc : (Try.prog.info? 42).map (fun i => (i.zero, i.size, i.bytes)) = some (some (.agg #[.int .i64 0, .int .i64 0, .int .i64 0, .int .i64 0]), 4, 32) := by kernel_rfl
theorem pcC_cell (l : List It.Plc) : ∀ u ∈ l.flatMap pcC, u.oneCell' = true := by
  intro u hu
  obtain ⟨t, _, h⟩ := List.mem_flatMap.1 hu
  simp [pcC] at h
  rcases h with rfl | rfl | rfl | rfl <;> rfl
abbrev PcsAt (w : World) (v : Value) (l : List It.Plc) : Prop := SlcAt pcC 4 w v l
abbrev OwnP (B : Nat) (v : Value) (l : List It.Plc) (w : World) : Prop := OwnR 42 pcC 4 B v l w
theorem pc_cells {w : World} {b o : Nat} {p : It.Plc} (h : RecAt w b o (pcC p)) : w.cell? ⟨b, o, none⟩ = some (.int .i64 p.n) ∧ w.cell? ⟨b, o + 1, none⟩ = some (.int .i64 p.q) ∧ w.cell? ⟨b, o + 2, none⟩ = some (.int .i64 p.x) ∧ w.cell? ⟨b, o + 3, none⟩ = some (.int .i64 p.w) :=
  ⟨h 0 _ rfl, h 1 _ rfl, h 2 _ rfl, h 3 _ rfl⟩
/-- a line, with the slice of its boxes as it lies -/
structure LinR where
  fr : Int
  en : Int
  a : Option Addr
  n : Nat
  c : Nat
  hy : Bool
  x : Int
  bad : Int
def lrC (r : LinR) : List Value := [.int .i64 r.fr, .int .i64 r.en, .slice r.a r.n r.c, .bool r.hy, .int .i64 r.x, .int .i64 r.bad]
def lrV (r : LinR) : Value := .agg #[.int .i64 r.fr, .int .i64 r.en, .slice r.a r.n r.c, .bool r.hy, .int .i64 r.x, .int .i64 r.bad]
theorem lrC_len (p : LinR) : (lrC p).length = 6 := rfl
theorem infoLn : (Try.prog.info? 44).map (fun i => (i.zero, i.size, i.bytes)) = some (some (.agg #[.int .i64 0, .int .i64 0, .slice none 0 0, .bool false, .int .i64 0, .int .i64 0]), 6, 64) := by kernel_rfl
theorem lrC_cell (l : List LinR) : ∀ u ∈ l.flatMap lrC, u.oneCell' = true := by
  intro u hu
  obtain ⟨t, _, h⟩ := List.mem_flatMap.1 hu
  simp [lrC] at h
  rcases h with rfl | rfl | rfl | rfl | rfl | rfl <;> rfl
theorem lr_cells {w : World} {b o : Nat} {r : LinR} (h : RecAt w b o (lrC r)) : w.cell? ⟨b, o, none⟩ = some (.int .i64 r.fr) ∧ w.cell? ⟨b, o + 1, none⟩ = some (.int .i64 r.en) ∧ w.cell? ⟨b, o + 2, none⟩ = some (.slice r.a r.n r.c) ∧ w.cell? ⟨b, o + 3, none⟩ = some (.bool r.hy) ∧ w.cell? ⟨b, o + 4, none⟩ = some (.int .i64 r.x) ∧ w.cell? ⟨b, o + 5, none⟩ = some (.int .i64 r.bad) :=
  ⟨h 0 _ rfl, h 1 _ rfl, h 2 _ rfl, h 3 _ rfl, h 4 _ rfl, h 5 _ rfl⟩
/-- r is the line x, in memory -/
structure LinAt (w : World) (r : LinR) (x : It.Lin) : Prop where
  fr : r.fr = x.fr
  en : r.en = x.en
  bs : PcsAt w (.slice r.a r.n r.c) x.bs
  hy : r.hy = x.hy
  bad : r.bad = x.bad
  x : r.x = x.x
theorem LinAt.mono {w w' : World} {r : LinR} {x : It.Lin} (h : LinAt w r x) (hb : Below w.heap.size w w') : LinAt w' r x := ⟨h.fr, h.en, SlcAt.mono h.bs hb, h.hy, h.bad, h.x⟩
/-- v is a slice of lines -/
def LinsAt (w : World) (v : Value) (l : List It.Lin) : Prop := ∃ rs : List LinR, SlcAt lrC 6 w v rs ∧ rs.length = l.length ∧ ∀ (i : Nat) (r : LinR) (x : It.Lin), rs[i]? = some r → l[i]? = some x → LinAt w r x
theorem LinsAt.mono {w w' : World} {v : Value} {l : List It.Lin} (h : LinsAt w v l) (hb : Below w.heap.size w w') : LinsAt w' v l := by
  obtain ⟨rs, h1, h2, h3⟩ := h
  exact ⟨rs, SlcAt.mono h1 hb, h2, fun i r x hr hx => (h3 i r x hr hx).mono hb⟩
/-- the same, of the call's own -/
structure LinOwn (B : Nat) (w : World) (r : LinR) (x : It.Lin) : Prop where
  fr : r.fr = x.fr
  en : r.en = x.en
  bs : OwnP B (.slice r.a r.n r.c) x.bs w
  hy : r.hy = x.hy
  bad : r.bad = x.bad
  x : r.x = x.x
theorem LinOwn.at {B : Nat} {w : World} {r : LinR} {x : It.Lin} (h : LinOwn B w r x) : LinAt w r x := ⟨h.fr, h.en, OwnR.at h.bs pcC_len, h.hy, h.bad, h.x⟩
theorem LinOwn.mono {B : Nat} {w w' : World} {r : LinR} {x : It.Lin} (h : LinOwn B w r x) (hb : Below w.heap.size w w') : LinOwn B w' r x := ⟨h.fr, h.en, OwnR.mono h.bs hb, h.hy, h.bad, h.x⟩
theorem LinOwn.grown {B : Nat} {w w' : World} {r : LinR} {x : It.Lin} {row : Option Nat} (h : LinOwn B w r x) (hg : w.grownBy w' row) (hne : (Value.slice r.a r.n r.c).ownBlock = none ∨ (Value.slice r.a r.n r.c).ownBlock ≠ row) : LinOwn B w' r x := ⟨h.fr, h.en, OwnR.grown h.bs hg hne, h.hy, h.bad, h.x⟩
theorem LinOwn.low {B C : Nat} {w : World} {r : LinR} {x : It.Lin} (h : LinOwn B w r x) (hC : C ≤ B) : LinOwn C w r x := by
  refine ⟨h.fr, h.en, ?_, h.hy, h.bad, h.x⟩
  refine ⟨h.bs.1, ?_⟩
  rcases h.bs.2 with h1 | ⟨g, cp, cu, e, hB, rest⟩
  · exact .inl h1
  · exact .inr ⟨g, cp, cu, e, by omega, rest⟩
def OwnL (B : Nat) (v : Value) (l : List It.Lin) (w : World) : Prop := ∃ rs : List LinR, OwnR 44 lrC 6 B v rs w ∧ rs.length = l.length ∧ ∀ (i : Nat) (r : LinR) (x : It.Lin), rs[i]? = some r → l[i]? = some x → LinOwn B w r x
theorem OwnL.at {B : Nat} {v : Value} {l : List It.Lin} {w : World} (h : OwnL B v l w) : LinsAt w v l := by
  obtain ⟨rs, h1, h2, h3⟩ := h
  exact ⟨rs, OwnR.at h1 lrC_len, h2, fun i r x hr hx => (h3 i r x hr hx).at⟩
theorem OwnL.mono {B : Nat} {v : Value} {l : List It.Lin} {w w' : World} (h : OwnL B v l w) (hb : Below w.heap.size w w') : OwnL B v l w' := by
  obtain ⟨rs, h1, h2, h3⟩ := h
  exact ⟨rs, OwnR.mono h1 hb, h2, fun i r x hr hx => (h3 i r x hr hx).mono hb⟩
theorem ownL_nil (B : Nat) (w : World) : OwnL B (.slice none 0 0) [] w := ⟨[], ownR_nil _ _ _ _ _, rfl, fun i r x hr => by simp at hr⟩
theorem ownL_empty (w : World) : OwnL w.heap.size (.slice (some ⟨w.heap.size, 0, none⟩) 0 0) [] (w.alloc (.cells #[] 44)) := ⟨[], own_empty _ _ _ w, rfl, fun i r x hr => by simp at hr⟩
theorem own_block {w : World} {B F s n : Nat} {u : Value} {ys : List Value} (h : w.ownsRow B F s u n ys) {g : Nat} (hg : u.ownBlock = some g) : ∃ cu fr, w.heap[g]? = some (.cells cu F fr) := by
  rcases h.2 with ⟨hv0, _⟩ | ⟨gg, cp, cu, hv0, _, hgb, _⟩
  · rw [hv0] at hg; cases hg
  · rw [hv0] at hg
    simp [Value.ownBlock] at hg
    subst hg
    exact ⟨_, _, hgb⟩
/-- lines with one more, the row having grown -/
theorem OwnL.app {B : Nat} {v v' : Value} {l : List It.Lin} {w w' : World} {rs : List LinR} {r : LinR} {x : It.Lin} (h1 : OwnR 44 lrC 6 B v rs w) (h2 : rs.length = l.length) (h3 : ∀ (i : Nat) (r : LinR) (x : It.Lin), rs[i]? = some r → l[i]? = some x → LinOwn B w r x) (hr : LinOwn B w r x)
    (hv : OwnR 44 lrC 6 B v' (rs ++ [r]) w') (hg : w.grownBy w' v.ownBlock) : OwnL B v' (l ++ [x]) w' := by
  have hk : ∀ {r : LinR} {x : It.Lin}, LinOwn B w r x → LinOwn B w' r x := fun {r x} h => by
    refine h.grown hg ?_
    cases e : (Value.slice r.a r.n r.c).ownBlock with
    | none => exact .inl rfl
    | some g =>
      obtain ⟨cu, fr, hb⟩ := own_block h.bs e
      exact .inr (own_off9 h1 hb (by decide))
  refine ⟨rs ++ [r], hv, by simp [h2], fun i y z hy hz => ?_⟩
  rcases Nat.lt_trichotomy i rs.length with hlt | he | hgt
  · rw [List.getElem?_append_left hlt] at hy
    rw [List.getElem?_append_left (by omega)] at hz
    exact hk (h3 i y z hy hz)
  · subst he
    rw [List.getElem?_append_right (Nat.le_refl _), Nat.sub_self] at hy
    rw [h2, List.getElem?_append_right (Nat.le_refl _), Nat.sub_self] at hz
    simp at hy hz
    subst hy hz
    exact hk hr
  · rw [List.getElem?_eq_none (by simp; omega)] at hy
    cases hy
/-- the beginning of a slice of records -/
theorem rec_head {α : Type} {f : α → List Value} {k : Nat} {w : World} {p : Option Addr} {n c : Nat} {l : List α} (h : SlcAt f k w (.slice p n c) l) (m : Nat) (hm : m ≤ l.length) : SlcAt f k w (.slice p m c) (l.take m) := by
  obtain ⟨⟨a, cap, e, hc⟩, h2, h3⟩ := h
  injection e with e1 e2 e3
  subst e1 e2 e3
  have hl : (l.take m).length = m := by rw [List.length_take]; omega
  refine ⟨⟨_, _, by rw [hl], by omega⟩, by omega, fun hp => ?_⟩
  obtain ⟨b, o, cap, e, hx⟩ := h3 (by omega)
  injection e with e1 e2 e3
  subst e1 e3
  refine ⟨b, o, _, by rw [hl], fun i x hi => ?_⟩
  rw [List.getElem?_take] at hi
  split at hi
  · exact hx i x hi
  · cases hi
theorem lins_head {w : World} {p : Option Addr} {n c : Nat} {l : List It.Lin} (h : LinsAt w (.slice p n c) l) (m : Nat) (hm : m ≤ l.length) : LinsAt w (.slice p m c) (l.take m) := by
  obtain ⟨rs, h1, h2, h3⟩ := h
  refine ⟨rs.take m, rec_head h1 m (by omega), by simp [h2], fun i r x hr hx => ?_⟩
  rw [List.getElem?_take] at hr hx
  split at hr
  · rename_i hlt
    rw [if_pos hlt] at hx
    exact h3 i r x hr hx
  · cases hr
end Go.Proofs.Ythcilpijiindeaa
