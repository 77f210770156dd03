/-
  The landed weights and shares of set widths: rows of numbers that are written in place.
-/
import Derived.Test.YthcilpijiindeaaWd12
import Derived.Test.YthcilpijiindeaaSetAll10
set_option linter.unusedVariables false
set_option linter.unusedSimpArgs false
namespace Go.Proofs.Ythcilpijiindeaa
open Go.RowKit

def inZ (x : Int) : List Value := [.int .i64 x]
theorem inZ_len (x : Int) : (inZ x).length = 1 := rfl
/-- a list of int64 -/
abbrev LensAt (w : World) (v : Value) (l : List Int) : Prop := SlcAt inZ 1 w v l
theorem infoZ12 : (Try.prog.info? 2).map (fun i => (i.zero, i.size, i.bytes)) = some (some (.int .i64 0), 1, 8) := by kernel_rfl
/-- n numbers, of which the first ones are written -/
def RowZ (b n : Nat) (xs : List Int) (w : World) : Prop := ∃ cs : Array Value, w.heap[b]? = some (.cells cs 2 (0, 0)) ∧ cs.toList = xs.map (Value.int .i64) ++ List.replicate (n - xs.length) (Value.int .i64 0) ∧ xs.length ≤ n
theorem RowZ.below {b n : Nat} {xs : List Int} {w w' : World} (h : RowZ b n xs w) (hb : Below w.heap.size w w') : RowZ b n xs w' := by
  obtain ⟨cs, h1, h2, h3⟩ := h
  exact ⟨cs, obj_kept hb h1, h2, h3⟩
theorem RowZ.made {w w' : World} {base n : Nat} (h : w'.ownsRow base 2 1 (.slice (some ⟨w.heap.size, 0, none⟩) n n) n (madeCells #[Value.int .i64 0] (n * 1)).toList) : RowZ w.heap.size n [] w' := by
  rcases h.2 with ⟨hv, _⟩ | ⟨g, cap, cu, hv, _, hg, hnc, _, hsz, htk⟩
  · cases hv
  · injection hv with h1 h2 h3
    injection h1 with h1
    injection h1 with h1
    subst h1
    subst h3
    rw [List.take_of_length_le (by rw [Array.length_toList, hsz]; exact Nat.le_refl _), Nat.mul_one, toList_madeCells_one] at htk
    exact ⟨cu, hg, by rw [htk]; simp, Nat.zero_le _⟩
theorem RowZ.cell {b n : Nat} {xs : List Int} {w : World} (h : RowZ b n xs w) (hk : xs.length < n) : w.cell? ⟨b, xs.length, none⟩ = some (.int .i64 0) ∧ w.frozen? ⟨b, xs.length, none⟩ = false := by
  obtain ⟨cs, h1, h2, h3⟩ := h
  refine ⟨?_, Lib.frozen_of_heap h1 _⟩
  obtain ⟨m, hm⟩ : ∃ m, n - xs.length = m + 1 := ⟨n - xs.length - 1, by omega⟩
  rw [Lib.cell_of_heap h1, ← Array.getElem?_toList, h2, List.getElem?_append_right (by simp), List.length_map, Nat.sub_self, hm, List.replicate_succ]
  rfl
theorem RowZ.set {b n : Nat} {xs : List Int} {w : World} (h : RowZ b n xs w) (hk : xs.length < n) (x : Int) : RowZ b n (xs ++ [x]) (w.setCell ⟨b, xs.length, none⟩ (.int .i64 x)) := by
  obtain ⟨cs, h1, h2, h3⟩ := h
  refine ⟨_, heap_setCell_same w b xs.length cs _ (.int .i64 x) h1, ?_, by simp; omega⟩
  rw [Array.toList_setIfInBounds, h2, List.set_append_right _ _ (by simp)]
  obtain ⟨m, hm⟩ : ∃ m, n - xs.length = m + 1 := ⟨n - xs.length - 1, by omega⟩
  rw [hm, List.replicate_succ, List.length_map, Nat.sub_self, List.set_cons_zero, show n - (xs ++ [x]).length = m by simp; omega]
  simp
theorem RowZ.zero {b n : Nat} {xs : List Int} {w : World} (h : RowZ b n xs w) (hk : xs.length < n) : RowZ b n (xs ++ [0]) w := by
  obtain ⟨cs, h1, h2, h3⟩ := h
  refine ⟨cs, h1, ?_, by simp; omega⟩
  obtain ⟨m, hm⟩ : ∃ m, n - xs.length = m + 1 := ⟨n - xs.length - 1, by omega⟩
  have e : n - (xs ++ [(0 : Int)]).length = m := by simp; omega
  rw [h2, hm, List.replicate_succ, e]
  simp
theorem RowZ.full {b n : Nat} {xs : List Int} {w : World} (h : RowZ b n xs w) (hn : xs.length = n) (hm : n ≤ 100000) : LensAt w (.slice (some ⟨b, 0, none⟩) n n) xs := by
  obtain ⟨cs, h1, h2, h3⟩ := h
  refine ⟨⟨some ⟨b, 0, none⟩, n, by rw [hn], by omega⟩, by unfold maxLen; omega, fun hp => ⟨b, 0, n, by rw [hn], fun i x hi j u hj => ?_⟩⟩
  have hj0 : j = 0 ∧ u = .int .i64 x := by
    match j, hj with
    | 0, hj => simp [inZ] at hj; exact ⟨rfl, hj.symm⟩
    | j + 1, hj => simp [inZ] at hj
  obtain ⟨rfl, rfl⟩ := hj0
  rw [Lib.cell_of_heap h1, ← Array.getElem?_toList, h2, Nat.add_zero, Nat.zero_add, Nat.mul_one, List.getElem?_append_left (by simp; exact (List.getElem?_eq_some_iff.1 hi).1), List.getElem?_map, hi]
  rfl
end Go.Proofs.Ythcilpijiindeaa
