/-
  A map from texts to their places in a list: what it holds, key by key; no function of the program is walked here.
-/
import Derived.Test.YtlgfmkmpopcciaaDoorApp13
import Derived.Maps.OwnOps
import Derived.Maps.OwnSet
set_option linter.unusedVariables false
set_option linter.unusedSimpArgs false
namespace Go.Proofs.YtlgfmkmpopcciaaDoor
open Go.RowKit Go.Maps

/-- the map holds the place of each text of l; if no text stands there twice, just as many as l has -/
structure MapIs (l : List (List UInt8)) (D : DataW Unit) : Prop where
  tidy : Tidy D
  keys : ∀ k : List UInt8, Maps.has D (.string k) = decide (k ∈ l)
  elem : l.Nodup → ∀ (i : Nat) (k : List UInt8), l[i]? = some k → ∀ z, D.atKey (.string k) z = .lit (.int .i64 (i : Int))
  few : Maps.size D ≤ l.length
  all : Maps.size D = l.length ↔ l.Nodup
theorem mapIs_nil : MapIs [] (.map []) := ⟨tidy_empty, fun k => rfl, fun _ i k h => by simp at h, Nat.le_refl _, by simp [Maps.size]⟩
theorem MapIs.put {l : List (List UInt8)} {D : DataW Unit} (h : MapIs l D) (k : List UInt8) : MapIs (l ++ [k]) (D.put (.string k) (.lit (.int .i64 (l.length : Int)))) := by
  have hk : WideAt.IsKeyLit (.string k) := trivial
  have hne : ∀ {m : List UInt8}, m ≠ k → (Lit.string m) ≠ .string k := fun h e => h (by injection e)
  have hsz := size_put (k := .string k) h.tidy (.lit (.int .i64 (l.length : Int)))
  rw [h.keys k] at hsz
  refine ⟨h.tidy.put hk _, fun m => ?_, fun hn i m hm z => ?_, ?_, ?_⟩
  · by_cases e : m = k
    · subst e
      rw [has_put_same h.tidy.isMap hk, decide_eq_true (by simp)]
    · rw [has_put_other (hne e), h.keys m, decide_eq_decide]
      simp [e]
  · have hn2 := List.nodup_append.1 hn
    rcases Nat.lt_or_ge i l.length with hi | hi
    · rw [List.getElem?_append_left hi] at hm
      have hmem := List.mem_of_getElem? hm
      have e : m ≠ k := hn2.2.2 m hmem k (by simp)
      rw [atKey_put_other (hne e)]
      exact h.elem hn2.1 i m hm z
    · rw [List.getElem?_append_right hi] at hm
      have h0 : i - l.length = 0 := by
        rcases Nat.eq_zero_or_pos (i - l.length) with h0 | h0
        · exact h0
        · rw [List.getElem?_eq_none (by simp; omega)] at hm; cases hm
      rw [h0] at hm
      simp at hm
      subst hm
      obtain rfl : i = l.length := by omega
      exact atKey_put_same h.tidy.isMap hk _ _
  · rw [hsz, List.length_append, List.length_singleton]
    have := h.few
    split <;> omega
  · rw [hsz, List.length_append, List.length_singleton]
    have hf := h.few
    have ha := h.all
    by_cases hm : k ∈ l
    · rw [decide_eq_true hm]
      simp only [if_true]
      constructor
      · intro e; omega
      · intro hn
        exact absurd rfl ((List.nodup_append.1 hn).2.2 k hm k (by simp))
    · rw [decide_eq_false hm]
      simp only [Bool.false_eq_true, if_false]
      constructor
      · intro e
        refine List.nodup_append.2 ⟨ha.1 (by omega), by simp, fun a hx b hb => ?_⟩
        rw [List.mem_singleton] at hb
        subst hb
        rintro rfl
        exact hm hx
      · intro hn
        rw [ha.2 (List.nodup_append.1 hn).1]
theorem keyLaw13 : Keyed Tryd.prog 9 := string_keyed Tryd.underlying9
theorem zeroInt13 (w : World) : (zeroValue 3).run Tryd.prog w = .ok (.int .i64 0) w := by kernel_rfl
theorem keyStr13 (k : List UInt8) (hk : k.length ≤ 281474976710656) : keyOf Tryd.prog 9 (.string (str k)) = some (.string k) := by
  have := Go.WideMaps.keyOf_string_mk (P := Tryd.prog) Tryd.underlying9 (s := str k) (by rw [str_size13]; unfold maxLen; omega)
  rw [str_data] at this
  exact this
/-- block b is a map that holds the places of the texts of l -/
def MapAt (w : World) (b : Nat) (l : List (List UInt8)) : Prop := ∃ D n, w.ownsMap Tryd.prog 9 (plainElem (H := Unit) Tryd.prog 3) b n D ∧ MapIs l D ∧ n ≤ 1000000
theorem MapAt.mono {w w' : World} {b : Nat} {l : List (List UInt8)} (h : MapAt w b l) (hb : Below w.heap.size w w') : MapAt w' b l := by
  obtain ⟨D, n, ho, hi, hn⟩ := h
  have hg : w.grownBy w' none := ⟨hb.os, hb.tape, hb.output, hb.size, fun i hi _ => hb.block i hi⟩
  exact ⟨D, n, ho.kept hg (by simp), hi, hn⟩
end Go.Proofs.YtlgfmkmpopcciaaDoor
