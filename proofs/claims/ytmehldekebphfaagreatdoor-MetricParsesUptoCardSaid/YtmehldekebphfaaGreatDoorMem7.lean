/-
  Tables in memory: rows of records, and a table that holds three of them.
-/
import Derived.Test.YtmehldekebphfaaGreatDoorTab72
import Derived.LaidEql
import Derived.Test.YtmehldekebphfaaGreatDoorDefs
set_option linter.unusedVariables false
set_option linter.unusedSimpArgs false
namespace Go.Proofs.YtmehldekebphfaaGreatDoor
open Go.RowKit

def str (l : List UInt8) : ByteArray := ⟨l.toArray⟩
theorem str_data (l : List UInt8) : (str l).data.toList = l := by simp [str]
theorem str_of (s : ByteArray) : str s.data.toList = s := by
  apply ByteArray.ext
  simp [str]
/-- the cells cs lie at b, o -/
def RecAt (w : World) (b o : Nat) (cs : List Value) : Prop := ∀ j u, cs[j]? = some u → w.cell? ⟨b, o + j, none⟩ = some u
theorem RecAt.mono {w w' : World} {b o : Nat} {cs : List Value} (h : RecAt w b o cs) (hb : Below w.heap.size w w') : RecAt w' b o cs := fun j u hj => cell_below hb (h j u hj)
/-- v is a slice of the records l, each of k cells, as f says -/
def SlcAt {α : Type} (f : α → List Value) (k : Nat) (w : World) (v : Value) (l : List α) : Prop :=
  (∃ a cap, v = .slice a l.length cap ∧ l.length ≤ cap) ∧ l.length ≤ maxLen ∧ (0 < l.length → ∃ b o cap, v = .slice (some ⟨b, o, none⟩) l.length cap ∧ ∀ i x, l[i]? = some x → RecAt w b (o + i * k) (f x))
theorem SlcAt.mono {α : Type} {f : α → List Value} {k : Nat} {w w' : World} {v : Value} {l : List α} (h : SlcAt f k w v l) (hb : Below w.heap.size w w') : SlcAt f k w' v l := by
  obtain ⟨h1, h2, h3⟩ := h
  refine ⟨h1, h2, fun hp => ?_⟩
  obtain ⟨b, o, cap, e, hc⟩ := h3 hp
  exact ⟨b, o, cap, e, fun i x hx => (hc i x hx).mono hb⟩
theorem slc_none {α : Type} (f : α → List Value) (k : Nat) (w : World) : SlcAt f k w (.slice none 0 0) [] := ⟨⟨none, 0, rfl, Nat.le_refl _⟩, by unfold maxLen; simp, fun h => by simp at h⟩
/-- v is a row of the call's own, of the records l -/
def OwnR {α : Type} (T : TypeId) (f : α → List Value) (k B : Nat) (v : Value) (l : List α) (w : World) : Prop := w.ownsRow B T k v l.length (l.flatMap f)
theorem flat_at {α : Type} {f : α → List Value} {k : Nat} (hf : ∀ x, (f x).length = k) : ∀ (l : List α) (i : Nat) (x : α), l[i]? = some x → ∀ j u, (f x)[j]? = some u → (l.flatMap f)[i * k + j]? = some u
  | [], i, x, h, _, _, _ => by simp at h
  | y :: r, 0, x, h, j, u, hj => by
    simp at h
    subst h
    rw [List.flatMap_cons, Nat.zero_mul, Nat.zero_add, List.getElem?_append_left (List.getElem?_eq_some_iff.1 hj).1]
    exact hj
  | y :: r, i + 1, x, h, j, u, hj => by
    simp at h
    have ih := flat_at hf r i x h j u hj
    rw [List.flatMap_cons, List.getElem?_append_right (by rw [hf, Nat.add_mul]; omega), hf, show (i + 1) * k + j - k = i * k + j by rw [Nat.add_mul]; omega]
    exact ih
theorem OwnR.at {α : Type} {T : TypeId} {f : α → List Value} {k B : Nat} {v : Value} {l : List α} {w : World} (h : OwnR T f k B v l w) (hf : ∀ x, (f x).length = k) : SlcAt f k w v l := by
  have h0 := h
  rcases h.2 with ⟨rfl, hn⟩ | ⟨g, cap, cur, rfl, _, hg, hcap, hmax, hsz, htake⟩
  · refine ⟨⟨none, 0, by rw [hn], by omega⟩, by omega, fun hp => by omega⟩
  · refine ⟨⟨_, _, rfl, hcap⟩, by omega, fun hp => ⟨g, 0, cap, rfl, fun i x hx j u hj => ?_⟩⟩
    have c1 := World.ownsRow.cells h0 (g := g) rfl _ _ (flat_at hf l i x hx j u hj)
    rw [add_none] at c1
    simpa using c1
theorem OwnR.mono {α : Type} {T : TypeId} {f : α → List Value} {k B : Nat} {v : Value} {l : List α} {w w' : World} (h : OwnR T f k B v l w) (hb : Below w.heap.size w w') : OwnR T f k B v l w' :=
  World.ownsRow.kept h (row := none) ⟨hb.os, hb.tape, hb.output, hb.size, fun i hi _ => hb.block i hi⟩ (by cases v.ownBlock <;> simp)
theorem ownR_nil {α : Type} (T : TypeId) (f : α → List Value) (k B : Nat) (w : World) : OwnR T f k B (.slice none 0 0) [] w := World.ownsRow_nil _ _ _ _

/-! ### tables -/
def chC (c : Mt.Ch) : List Value := [.int .i32 c.code, .int .i64 c.w, .int .i64 c.h, .int .i64 c.d]
def knC (k : Mt.Kn) : List Value := [.int .i32 k.a, .int .i32 k.b, .int .i64 k.w]
def lgC (l : Mt.Lg) : List Value := [.int .i32 l.a, .int .i32 l.b, .int .i32 l.to]
def metV (m : Mt.Tab) (cv kv lv : Value) : Value := .agg #[.int .i64 m.sw, .int .i64 m.st, .int .i64 m.sk, .int .i64 m.order, .int .i32 m.hyph, cv, kv, lv]
def MetAt (w : World) (v : Value) (m : Mt.Tab) : Prop := ∃ cv kv lv, v = metV m cv kv lv ∧ SlcAt chC 4 w cv m.chars ∧ SlcAt knC 3 w kv m.kerns ∧ SlcAt lgC 3 w lv m.ligs
theorem MetAt.mono {w w' : World} {v : Value} {m : Mt.Tab} (h : MetAt w v m) (hb : Below w.heap.size w w') : MetAt w' v m := by
  obtain ⟨cv, kv, lv, e, h1, h2, h3⟩ := h
  exact ⟨cv, kv, lv, e, h1.mono hb, h2.mono hb, h3.mono hb⟩
def zeroM : Value := .agg #[.int .i64 0, .int .i64 0, .int .i64 0, .int .i64 0, .int .i32 0, .slice none 0 0, .slice none 0 0, .slice none 0 0]
theorem zero_met (w : World) : MetAt w zeroM {} := ⟨_, _, _, rfl, slc_none _ _ _, slc_none _ _ _, slc_none _ _ _⟩
/-- numbers as they fit their types -/
def In32 (n : Int) : Prop := -2147483648 ≤ n ∧ n ≤ 2147483647
def In64 (n : Int) : Prop := -9223372036854775808 ≤ n ∧ n ≤ 9223372036854775807
structure TabIn (m : Mt.Tab) : Prop where
  sw : In64 m.sw
  st : In64 m.st
  sk : In64 m.sk
  order : In64 m.order
  hyph : In32 m.hyph
  chars : ∀ c ∈ m.chars, In32 c.code ∧ In64 c.w ∧ In64 c.h ∧ In64 c.d
  kerns : ∀ k ∈ m.kerns, In32 k.a ∧ In32 k.b ∧ In64 k.w
  ligs : ∀ l ∈ m.ligs, In32 l.a ∧ In32 l.b ∧ In32 l.to
end Go.Proofs.YtmehldekebphfaaGreatDoor
