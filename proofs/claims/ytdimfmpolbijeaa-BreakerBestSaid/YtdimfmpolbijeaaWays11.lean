/-
  The reference's ways, in memory and row by row.
-/
import Derived.Test.YtdimfmpolbijeaaBreaks11
set_option linter.unusedVariables false
set_option linter.unusedSimpArgs false
namespace Go.Proofs.Ytdimfmpolbijeaa
open Go.RowKit

namespace It
theorem way_len {l : List Itm} {t tol : Int} {k : Nat} {q : Int} {x : Int × Int × List Int} (hk : k ≤ l.length) (h : way l t tol k q = some x) : x.2.2.length ≤ l.length - k := by
  have key : ∀ (m k : Nat) (q : Int) (x : Int × Int × List Int), k + m = l.length → way l t tol k q = some x → x.2.2.length ≤ m := by
    intro m
    induction m using Nat.strongRecOn with
    | _ m ih =>
    intro k q x hkm hx
    by_cases hkn : k = l.length
    · subst hkn
      rw [way_end] at hx
      have := Option.some.inj hx
      subst this
      simp
    · obtain ⟨b, d, y, h1, h2, h3, h4, h5, h6⟩ := way_next (by omega) hx
      have := ih (l.length - (b + 1)) (by omega) (b + 1) _ y (by omega) h4
      rw [h6, List.length_cons]
      omega
  exact key (l.length - k) k q x (by omega) h
end It
def zeroWy : Array Value := #[.bool false, .int .i64 0, .slice none 0 0, .bool false, .int .i64 0, .slice none 0 0, .bool false, .int .i64 0, .slice none 0 0, .bool false, .int .i64 0, .slice none 0 0]
theorem infoWy11 : (Try.prog.info? 68).map (fun i => (i.zero, i.size, i.bytes)) = some (some (.agg zeroWy), 12, 160) := by kernel_rfl

/-- ways, as they lie in their block -/
def WaysAt (B bw n : Nat) (R : Nat → Nat → It.Way) (w : World) : Prop := ∃ cs : Array Value, w.heap[bw]? = some (.cells cs 68 (0, 0)) ∧ cs.size = (n + 1) * 12 ∧ ∀ k q, k ≤ n → q < 4 → ∃ v, cs[k * 12 + q * 3]? = some (.bool (R k q).isSome) ∧ cs[k * 12 + q * 3 + 1]? = some (.int .i64 (bz (R k q))) ∧ cs[k * 12 + q * 3 + 2]? = some v ∧ OwnN B v (bl (R k q)) w
theorem WaysAt.below {B bw n : Nat} {R : Nat → Nat → It.Way} {w w' : World} (h : WaysAt B bw n R w) (hb : Below w.heap.size w w') : WaysAt B bw n R w' := by
  obtain ⟨cs, h1, h2, h3⟩ := h
  refine ⟨cs, obj_kept hb h1, h2, fun k q hk hq => ?_⟩
  obtain ⟨v, a, b, c, d⟩ := h3 k q hk hq
  exact ⟨v, a, b, c, d.mono hb⟩
theorem WaysAt.congr {B bw n : Nat} {R S : Nat → Nat → It.Way} {w : World} (h : WaysAt B bw n R w) (e : ∀ k q, k ≤ n → q < 4 → R k q = S k q) : WaysAt B bw n S w := by
  obtain ⟨cs, h1, h2, h3⟩ := h
  exact ⟨cs, h1, h2, fun k q hk hq => by rw [← e k q hk hq]; exact h3 k q hk hq⟩
/-- an owned list's form -/
theorem own_slice {B : Nat} {v : Value} {l : List Int} {w : World} (h : OwnN B v l w) : ∃ a n c, v = .slice a n c := by
  rcases h.2 with ⟨rfl, _⟩ | ⟨g, cp, cu, rfl, _⟩
  · exact ⟨_, _, _, rfl⟩
  · exact ⟨_, _, _, rfl⟩
theorem WaysAt.rec {B bw n : Nat} {R : Nat → Nat → It.Way} {w : World} (h : WaysAt B bw n R w) {k q : Nat} (hk : k ≤ n) (hq : q < 4) : ∃ a m c, w.cell? ⟨bw, k * 12 + q * 3, none⟩ = some (.bool (R k q).isSome) ∧ w.cell? ⟨bw, k * 12 + q * 3 + 1, none⟩ = some (.int .i64 (bz (R k q))) ∧ w.cell? ⟨bw, k * 12 + q * 3 + 2, none⟩ = some (.slice a m c) ∧ OwnN B (.slice a m c) (bl (R k q)) w := by
  obtain ⟨cs, h1, h2, h3⟩ := h
  obtain ⟨v, a1, a2, a3, a4⟩ := h3 k q hk hq
  obtain ⟨a, m, c, rfl⟩ := own_slice a4
  exact ⟨a, m, c, by rw [Lib.cell_of_heap h1]; exact a1, by rw [Lib.cell_of_heap h1]; exact a2, by rw [Lib.cell_of_heap h1]; exact a3, a4⟩
theorem WaysAt.fz {B bw n : Nat} {R : Nat → Nat → It.Way} {w : World} (h : WaysAt B bw n R w) (j : Nat) : w.frozen? ⟨bw, j, none⟩ = false := by
  obtain ⟨cs, h1, _⟩ := h
  exact Lib.frozen_of_heap h1 j
theorem WaysAt.off {B bw n : Nat} {R : Nat → Nat → It.Way} {w : World} (h : WaysAt B bw n R w) {X : Nat} {cs : Array Value} {T : TypeId} {fr : Nat × Nat} (hX : w.heap[X]? = some (.cells cs T fr)) (hT : T ≠ 68) : X ≠ bw := fun e => by
  obtain ⟨ps, h1, _⟩ := h
  subst e
  rw [hX] at h1
  injection h1 with h1
  injection h1 with _ h1
  exact hT h1
theorem WaysAt.offN {B bw n : Nat} {R : Nat → Nat → It.Way} {w : World} (h : WaysAt B bw n R w) {u : Value} {l : List Int} {B' : Nat} (hu : OwnN B' u l w) : some bw ≠ u.ownBlock := by
  obtain ⟨ps, h1, _⟩ := h
  exact own_off9 hu h1 (by decide)
theorem apart_is (c q : Int) : (if It.unlike c q then (10000 : Int) else 0) = It.apartZ c q := rfl
def updW (R : Nat → Nat → It.Way) (k q : Nat) (r : It.Way) : Nat → Nat → It.Way := fun i j => if i = k ∧ j = q then r else R i j
theorem own_setN {u : Value} {l : List Int} {B b i : Nat} {y : Value} {cs : Array Value} {T : TypeId} {fr : Nat × Nat} {w : World} (h : OwnN B u l w) (hi : w.heap[b]? = some (.cells cs T fr)) (hT : T ≠ 3) : OwnN B u l (w.setCell ⟨b, i, none⟩ y) := by
  have hne := own_off9 h hi hT
  refine World.ownsRow.kept h (row := some b) ?_ (.inr fun e => hne e.symm)
  exact grown_set (World.grownBy.refl w _) y
theorem WaysAt.put {B bw n : Nat} {R : Nat → Nat → It.Way} {w : World} (h : WaysAt B bw n R w) {k q : Nat} (hk : k ≤ n) (hq : q < 4) (x : Int × Int × List Int) {v : Value} (hv : OwnN B v x.2.2 w) :
    WaysAt B bw n (updW R k q (some x)) (((w.setCell ⟨bw, k * 12 + q * 3, none⟩ (.bool true)).setCell ⟨bw, k * 12 + q * 3 + 1, none⟩ (.int .i64 x.1)).setCell ⟨bw, k * 12 + q * 3 + 2, none⟩ v) := by
  obtain ⟨cs, h1, h2, h3⟩ := h
  have g1 := heap_setCell_same w bw (k * 12 + q * 3) cs _ (.bool true) h1
  have g2 := heap_setCell_same _ bw (k * 12 + q * 3 + 1) _ _ (.int .i64 x.1) g1
  have g3 := heap_setCell_same _ bw (k * 12 + q * 3 + 2) _ _ v g2
  have hkeep : ∀ {u : Value} {m : List Int}, OwnN B u m w → OwnN B u m (((w.setCell ⟨bw, k * 12 + q * 3, none⟩ (.bool true)).setCell ⟨bw, k * 12 + q * 3 + 1, none⟩ (.int .i64 x.1)).setCell ⟨bw, k * 12 + q * 3 + 2, none⟩ v) := fun hu =>
    own_setN (own_setN (own_setN hu h1 (by decide)) g1 (by decide)) g2 (by decide)
  have hin : k * 12 + q * 3 + 2 < cs.size := by rw [h2]; omega
  refine ⟨_, g3, by simp [h2], fun i j hi hj => ?_⟩
  unfold updW
  by_cases he : i = k ∧ j = q
  · obtain ⟨rfl, rfl⟩ := he
    rw [if_pos ⟨rfl, rfl⟩]
    refine ⟨v, ?_, ?_, ?_, hkeep hv⟩
    · simp [Array.getElem?_setIfInBounds]; omega
    · simp [Array.getElem?_setIfInBounds, bz]; omega
    · simp [Array.getElem?_setIfInBounds]; omega
  · rw [if_neg he]
    obtain ⟨u, a1, a2, a3, a4⟩ := h3 i j hi hj
    refine ⟨u, ?_, ?_, ?_, hkeep a4⟩
    · rw [Array.getElem?_setIfInBounds, if_neg (by omega), Array.getElem?_setIfInBounds, if_neg (by omega), Array.getElem?_setIfInBounds, if_neg (by omega)]; exact a1
    · rw [Array.getElem?_setIfInBounds, if_neg (by omega), Array.getElem?_setIfInBounds, if_neg (by omega), Array.getElem?_setIfInBounds, if_neg (by omega)]; exact a2
    · rw [Array.getElem?_setIfInBounds, if_neg (by omega), Array.getElem?_setIfInBounds, if_neg (by omega), Array.getElem?_setIfInBounds, if_neg (by omega)]; exact a3
theorem WaysAt.made {w w' : World} {base n : Nat} (h : w'.ownsRow base 68 12 (.slice (some ⟨w.heap.size, 0, none⟩) (n + 1) (n + 1)) (n + 1) (madeCells zeroWy ((n + 1) * 12)).toList) : WaysAt base w.heap.size n (fun _ _ => none) w' := by
  rcases h.2 with ⟨hv, _⟩ | ⟨g, cap, cu, hv, _, hg, hnc, _, hsz, htk⟩
  · cases hv
  · injection hv with h1 h2 h3
    injection h1 with h1
    injection h1 with h1
    subst h1
    subst h3
    have hcu : cu = madeCells zeroWy ((n + 1) * 12) := by
      rw [List.take_of_length_le (by rw [Array.length_toList, hsz]; exact Nat.le_refl _)] at htk
      exact Array.toList_inj.1 htk
    refine ⟨cu, hg, hsz, fun k q hk hq => ?_⟩
    have key : ∀ j, j < 3 → cu[k * 12 + q * 3 + j]? = some (zeroWy[q * 3 + j]!) := fun j hj => by
      have hi : k * 12 + q * 3 + j < (n + 1) * 12 := by omega
      rw [hcu]
      unfold madeCells
      rw [Array.getElem?_map, Array.getElem?_range, if_pos hi]
      simp only [Option.map_some]
      have hm : (k * 12 + q * 3 + j) % zeroWy.size = q * 3 + j := by
        show (k * 12 + q * 3 + j) % 12 = q * 3 + j
        omega
      rw [hm]
    refine ⟨.slice none 0 0, (key 0 (by omega)).trans ?_, (key 1 (by omega)).trans ?_, (key 2 (by omega)).trans ?_, ownR_nil _ _ _ _ _⟩
    all_goals (obtain rfl | rfl | rfl | rfl : q = 0 ∨ q = 1 ∨ q = 2 ∨ q = 3 := by omega)
    all_goals rfl

/-! ### the rows -/
def refR (l : List It.Itm) (t tol : Int) (s : Nat) (row : Nat → It.Way) : Nat → Nat → It.Way := fun k q => if k = l.length then none else if s < k then It.way l t tol k q else if k = s then row q else none
def refM (l : List It.Itm) (t tol : Int) (m : Nat) : Nat → Nat → It.Way := fun k q => if k = l.length then none else if m ≤ k then It.way l t tol k q else none
theorem refM_row (l : List It.Itm) (t tol : Int) (s : Nat) : refM l t tol (s + 1) = refR l t tol s (fun _ => none) := by
  funext k q
  unfold refM refR
  by_cases h : k = l.length
  · rw [if_pos h, if_pos h]
  · rw [if_neg h, if_neg h]
    by_cases h2 : s < k
    · rw [if_pos (by omega), if_pos h2]
    · rw [if_neg (by omega), if_neg h2]
      split <;> rfl
theorem refM_done (l : List It.Itm) (t tol : Int) (s : Nat) : refR l t tol s (fun q : Nat => It.way l t tol s q) = refM l t tol s := by
  funext k q
  unfold refM refR
  by_cases h : k = l.length
  · rw [if_pos h, if_pos h]
  · simp only [if_neg h]
    by_cases h2 : s < k
    · simp only [if_pos h2, if_pos (show s ≤ k by omega)]
    · simp only [if_neg h2]
      by_cases h3 : k = s
      · subst h3
        rw [if_pos rfl, if_pos (Nat.le_refl _)]
      · simp only [if_neg h3, if_neg (show ¬ s ≤ k by omega)]
theorem refM_last (l : List It.Itm) (t tol : Int) (row : Nat → It.Way) : refR l t tol l.length row = refM l t tol l.length := by
  funext k q
  unfold refM refR
  by_cases h : k = l.length
  · rw [if_pos h, if_pos h]
  · simp only [if_neg h]
    by_cases h2 : l.length < k
    · simp only [if_pos h2, if_pos (show l.length ≤ k by omega)]
    · simp only [if_neg h2, if_neg (show ¬ l.length ≤ k by omega)]
theorem refM_skip {l : List It.Itm} {t tol : Int} {s : Nat} (h : It.legal l ((s : Int) - 1) = false) (h0 : (s : Int) - 1 ≠ -1) : refM l t tol (s + 1) = refM l t tol s := by
  by_cases hs : s = l.length
  · subst hs
    rw [refM_row, refM_last]
  · rw [refM_row, ← refM_done]
    congr 1
    funext q
    rw [It.way_eq l t tol q hs]
    exact (It.accW_none fun i hi => cand_none (It.cost_illegalA h h0 _ t tol)).symm
theorem refM_start (l : List It.Itm) (t tol : Int) : ∀ k q, k ≤ l.length → q < 4 → (none : It.Way) = refM l t tol (l.length + 1) k q := by
  intro k q hk _
  unfold refM
  by_cases h : k = l.length
  · rw [if_pos h]
  · rw [if_neg h, if_neg (by omega)]
/-- the first q ways of a row, bettered -/
def stepW (R : Nat → Nat → It.Way) (s n : Nat) (X : Nat → It.Way) : Nat → Nat → It.Way := fun k q => if k = s ∧ q < n then It.pick (R s q) (X q) else R k q
theorem stepW_zero (R : Nat → Nat → It.Way) (s : Nat) (X : Nat → It.Way) : stepW R s 0 X = R := by
  funext k q
  unfold stepW
  rw [if_neg (by omega)]
theorem stepW_at (R : Nat → Nat → It.Way) (s n : Nat) (X : Nat → It.Way) : stepW R s n X s n = R s n := by unfold stepW; rw [if_neg (by omega)]
theorem stepW_next (R : Nat → Nat → It.Way) (s n : Nat) (X : Nat → It.Way) : stepW R s (n + 1) X = updW (stepW R s n X) s n (It.pick (R s n) (X n)) := by
  funext k q
  unfold updW stepW
  by_cases h1 : k = s ∧ q = n
  · obtain ⟨rfl, rfl⟩ := h1
    rw [if_pos (by omega), if_pos ⟨rfl, rfl⟩]
  · rw [if_neg h1]
    by_cases h2 : k = s ∧ q < n
    · rw [if_pos (by omega), if_pos h2]
    · rw [if_neg (by omega), if_neg h2]
theorem updW_same (R : Nat → Nat → It.Way) (k q : Nat) : updW R k q (R k q) = R := by
  funext i j
  unfold updW
  split
  · rename_i h; rw [h.1, h.2]
  · rfl
/-- a line more, in the rows -/
theorem stepW_row {l : List It.Itm} {t tol : Int} {s m : Nat} (hs : s < l.length) : ∀ k q, k ≤ l.length → q < 4 → stepW (refR l t tol s (rowM l t tol s m)) s 4 (fun q : Nat => It.candW l t tol (It.way l t tol) s q (s + m)) k q = refR l t tol s (rowM l t tol s (m + 1)) k q := by
  intro k q hk hq
  unfold stepW
  by_cases h : k = s
  · subst h
    rw [if_pos ⟨rfl, hq⟩]
    unfold refR
    rw [if_neg (by omega), if_neg (Nat.lt_irrefl _), if_pos rfl, if_neg (by omega), if_neg (Nat.lt_irrefl _), if_pos rfl]
    rfl
  · rw [if_neg (fun e => h e.1)]
    unfold refR
    by_cases h1 : k = l.length
    · rw [if_pos h1, if_pos h1]
    · rw [if_neg h1, if_neg h1]
      by_cases h2 : s < k
      · rw [if_pos h2, if_pos h2]
      · rw [if_neg h2, if_neg h2, if_neg h, if_neg h]
end Go.Proofs.Ytdimfmpolbijeaa
