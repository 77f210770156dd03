/-
  strings.Builder at this program (tpl7's Bld7, its general part): WriteString and String at a builder that the call itself has made; what else lies in memory stays.
-/
import Derived.Test.YtjjkilopeofjjaaDoorBuilder
import Derived.Test.YtjjkilopeofjjaaDoorShelf
import Derived.Test.YtjjkilopeofjjaaDoorApp13
set_option linter.unusedVariables false
set_option linter.unusedSimpArgs false
namespace Go.Proofs.YtjjkilopeofjjaaDoor
open Go.RowKit

/-- the builder at b0 holds the bytes l -/
def Bld (B b0 : Nat) (l : List UInt8) (w : World) : Prop := Lib.IsBuilderF 44 5 B b0 (Lib.byteCells l) w
theorem bld_fresh (w : World) : Bld w.heap.size w.heap.size [] (w.alloc (.cells #[.pointer none, .slice none 0 0] 44)) := Lib.IsBuilderF.of (Lib.fresh_isBuilder 44 5 w)
def StrPost (B : Nat) (l : List UInt8) (w : World) (e : Ending) (w' : World) : Prop := e = .returned (.string ⟨l.toArray⟩) ∧ Below B w w'
theorem string_bld (B b0 : Nat) (l : List UInt8) (w : World) (h : Bld B b0 l w) (hB : B ≤ w.heap.size) :
    Calls Tryd.prog 34 #[.pointer (some ⟨b0, 0, none⟩)] w (StrPost B l w) := by
  refine (Tryd.Builder_String_any_k B b0 l w h hB).mono ?_
  rintro e w' ⟨he, _, h2, _⟩
  exact ⟨he, h2⟩
theorem bld_kept {B b0 : Nat} {l : List UInt8} {w w' : World} (h : Bld B b0 l w) (hb : Below w.heap.size w w') : Bld B b0 l w' := by
  have hg : w.grownBy w' none := ⟨hb.os, hb.tape, hb.output, hb.size, fun i hi _ => hb.block i hi⟩
  have one : ∀ p, Lib.BuilderAtF 44 5 B b0 p (Lib.byteCells l) w → Lib.BuilderAtF 44 5 B b0 p (Lib.byteCells l) w' := by
    rintro p ⟨hB, v, hbk, hown, hne⟩
    have hlt : b0 < w.heap.size := by
      rcases Nat.lt_or_ge b0 w.heap.size with h' | h'
      · exact h'
      · rw [Array.getElem?_eq_none h'] at hbk; cases hbk
    refine ⟨hB, v, by rw [hb.block b0 hlt]; exact hbk, hown.kept hg ?_, hne⟩
    cases hv : v.ownBlock with
    | none => exact .inl rfl
    | some g => exact .inr (by simp)
  rcases h with h | h
  · exact .inl (one _ h)
  · exact .inr (one _ h)
theorem text_bld_k (B b0 : Nat) (l : List UInt8) (s : ByteArray) (w : World) (h : Bld B b0 l w) (hl : l.length + s.size ≤ 140737488355328) (hB : B ≤ w.heap.size) :
    Calls Tryd.prog 33 #[.pointer (some ⟨b0, 0, none⟩), .string s] w (fun e w' => e = .returned (.tuple #[.int .i64 s.size, .nilIface]) ∧ Bld B b0 (l ++ s.data.toList) w' ∧ Below B w w' ∧ Lib.OthersKept 5 (some b0) w w') := by
  refine (writeString B b0 (Lib.byteCells l) s w h (by rw [Lib.byteCells_length]; exact hl) hB).mono ?_
  rintro e w' ⟨he, h1, h2, h3⟩
  refine ⟨he, ?_, h2, h3⟩
  unfold Bld
  rw [Lib.byteCells_append, ← Lib.strCells_eq]
  exact .inr h1
end Go.Proofs.YtjjkilopeofjjaaDoor
