/-
  PROVED: the law MetricParses where what it is handed is of bulk at most 1048576: what table any text is of, or in which line it is wrong first, is as the document says.
  Conditions: the bulk.
-/
import Derived.Test.YtmehldekebphfaaGreatDoorRefFind7
import Derived.Laws.OwnMore
import Derived.Deep.AppendLies
import Derived.Deep.RegionLaw
import Derived.Deep.RegionHeld3
import Derived.Deep.DeepCutAuto
import Derived.BigRegion
import Derived.Test.YtmehldekebphfaaGreatDoorMRefParse7
import Derived.Test.YtmehldekebphfaaGreatDoorMRefMay7
import Derived.Test.YtmehldekebphfaaGreatDoorFrameP7
import Derived.Test.YtmehldekebphfaaGreatDoorLen7
import Derived.Test.YtmehldekebphfaaGreatDoorFixedW7
import Derived.Test.YtmehldekebphfaaGreatDoorRefIs7
set_option linter.unusedVariables false
set_option linter.unusedSimpArgs false
namespace Go.Proofs.YtmehldekebphfaaGreatDoor
open Go.RowKit

theorem obj_keptW {w w' : World} {b : Nat} {x : Obj} (hb : Below w.heap.size w w') (h : w.heap[b]? = some x) : w'.heap[b]? = some x := by
  have hl : b < w.heap.size := by
    rcases Nat.lt_or_ge b w.heap.size with h' | h'
    · exact h'
    · rw [Array.getElem?_eq_none h'] at h; cases h
  rw [hb.block _ hl]; exact h
theorem obj_newW (w : World) (p : Nat) (hp : w.heap.size = p) (cs : Array Value) (T : TypeId) : (w.alloc (.cells cs T)).heap[p]? = some (.cells cs T (0, 0)) := by subst hp; exact heap_alloc_new w _
theorem obj_setW {w : World} {b p i : Nat} {v : Value} {o : Obj} (h : w.heap[b]? = some o) (hne : b ≠ p) : (w.setCell ⟨p, i, none⟩ v).heap[b]? = some o := by rw [Below.heap_setCell w ⟨p, i, none⟩ v b hne]; exact h

theorem own_offW {w : World} {B F s n b : Nat} {u : Value} {ys : List Value} {cs : Array Value} {T : TypeId} {fr : Nat × Nat} (h : w.ownsRow B F s u n ys) (hb : w.heap[b]? = some (.cells cs T fr)) (hT : T ≠ F) : some b ≠ u.ownBlock := fun hq => by
  rcases h.2 with ⟨hv0, _⟩ | ⟨gg, cp, cu, hv0, _, hgb, _⟩
  · rw [hv0] at hq; cases hq
  · rw [hv0] at hq
    simp [Value.ownBlock] at hq
    subst hq
    rw [hb] at hgb
    injection hgb with hgb
    injection hgb with _ hgb _
    exact hT hgb
theorem own_monoW {w w' : World} {B F s n : Nat} {u : Value} {ys : List Value} (h : w.ownsRow B F s u n ys) (hb : Below w.heap.size w w') : w'.ownsRow B F s u n ys :=
  World.ownsRow.kept h (row := none) ⟨hb.os, hb.tape, hb.output, hb.size, fun i hi _ => hb.block i hi⟩ (by cases u.ownBlock <;> simp)
theorem own_setW {w : World} {B F s n p i : Nat} {u y : Value} {ys : List Value} {cs : Array Value} {T : TypeId} {fr : Nat × Nat} (h : w.ownsRow B F s u n ys) (hb : w.heap[p]? = some (.cells cs T fr)) (hT : T ≠ F) : (w.setCell ⟨p, i, none⟩ y).ownsRow B F s u n ys := by
  refine World.ownsRow.kept h (row := some p) ?_ ?_
  · have hb : Below 0 w (w.setCell ⟨p, i, none⟩ y) := (Below.refl 0 w).setCell (p := ⟨p, i, none⟩) (Nat.zero_le _) y
    refine ⟨hb.os, hb.tape, hb.output, hb.size, fun j hj hne => ?_⟩
    exact Below.heap_setCell w ⟨p, i, none⟩ y j (fun e => hne (by rw [e]))
  · exact .inr (own_offW h hb hT).symm
theorem rows_apartW {w : World} {B F G s s' n m : Nat} {u v : Value} {ys zs : List Value} (h : w.ownsRow B F s u n ys) (g : w.ownsRow B G s' v m zs) (hT : F ≠ G) : u.ownBlock = none ∨ u.ownBlock ≠ v.ownBlock := by
  rcases h.2 with ⟨hv0, _⟩ | ⟨gg, cp, cu, hv0, _, hgb, _⟩
  · exact .inl (by rw [hv0]; rfl)
  · exact .inr (fun e => own_offW g hgb hT (by rw [← e, hv0]; rfl))
theorem set8 (w : World) (p : Nat) (a0 a1 a2 a3 a4 a5 a6 a7 : Value) {c0 c1 c2 c3 c4 c5 c6 c7 : Value} {T : TypeId} (hp : w.heap[p]? = some (.cells #[c0, c1, c2, c3, c4, c5, c6, c7] T (0, 0))) :
    ((((((((w.setCell ⟨p, 0, none⟩ a0).setCell ⟨p, 1, none⟩ a1).setCell ⟨p, 2, none⟩ a2).setCell ⟨p, 3, none⟩ a3).setCell ⟨p, 4, none⟩ a4).setCell ⟨p, 5, none⟩ a5).setCell ⟨p, 6, none⟩ a6).setCell ⟨p, 7, none⟩ a7).heap[p]? = some (.cells #[a0, a1, a2, a3, a4, a5, a6, a7] T (0, 0)) ∧ (∀ B, B ≤ p → Below B w ((((((((w.setCell ⟨p, 0, none⟩ a0).setCell ⟨p, 1, none⟩ a1).setCell ⟨p, 2, none⟩ a2).setCell ⟨p, 3, none⟩ a3).setCell ⟨p, 4, none⟩ a4).setCell ⟨p, 5, none⟩ a5).setCell ⟨p, 6, none⟩ a6).setCell ⟨p, 7, none⟩ a7)) ∧ (∀ (b : Nat) (x : Obj), b ≠ p → w.heap[b]? = some x → ((((((((w.setCell ⟨p, 0, none⟩ a0).setCell ⟨p, 1, none⟩ a1).setCell ⟨p, 2, none⟩ a2).setCell ⟨p, 3, none⟩ a3).setCell ⟨p, 4, none⟩ a4).setCell ⟨p, 5, none⟩ a5).setCell ⟨p, 6, none⟩ a6).setCell ⟨p, 7, none⟩ a7).heap[b]? = some x) ∧ (∀ (B F s n : Nat) (u : Value) (ys : List Value), T ≠ F → w.ownsRow B F s u n ys → ((((((((w.setCell ⟨p, 0, none⟩ a0).setCell ⟨p, 1, none⟩ a1).setCell ⟨p, 2, none⟩ a2).setCell ⟨p, 3, none⟩ a3).setCell ⟨p, 4, none⟩ a4).setCell ⟨p, 5, none⟩ a5).setCell ⟨p, 6, none⟩ a6).setCell ⟨p, 7, none⟩ a7).ownsRow B F s u n ys) := by
  have hb : ∀ B, B ≤ p → Below B w w := fun B _ => Below.refl B w
  have hx : ∀ (b : Nat) (x : Obj), b ≠ p → w.heap[b]? = some x → w.heap[b]? = some x := fun _ _ _ h => h
  have ho : ∀ (B F s n : Nat) (u : Value) (ys : List Value), T ≠ F → w.ownsRow B F s u n ys → w.ownsRow B F s u n ys := fun _ _ _ _ _ _ _ h => h
  obtain ⟨w1, g0⟩ : ∃ wz : World, wz = w.setCell ⟨p, 0, none⟩ a0 := ⟨_, rfl⟩
  rw [← g0]
  have ho : ∀ (B F s n : Nat) (u : Value) (ys : List Value), T ≠ F → w.ownsRow B F s u n ys → w1.ownsRow B F s u n ys := fun B F s n u ys h1 h2 => by rw [g0]; exact own_setW (ho B F s n u ys h1 h2) hp h1
  have hp : w1.heap[p]? = some (.cells #[a0, c1, c2, c3, c4, c5, c6, c7] T (0, 0)) := by rw [g0]; exact heap_setCell_same _ _ 0 _ _ a0 hp
  have hb : ∀ B, B ≤ p → Below B w w1 := fun B h1 => by rw [g0]; exact (hb B h1).setCell (p := ⟨p, 0, none⟩) h1 a0
  have hx : ∀ (b : Nat) (x : Obj), b ≠ p → w.heap[b]? = some x → w1.heap[b]? = some x := fun b x h1 h2 => by rw [g0]; exact obj_setW (hx b x h1 h2) h1
  clear g0
  obtain ⟨w2, g1⟩ : ∃ wz : World, wz = w1.setCell ⟨p, 1, none⟩ a1 := ⟨_, rfl⟩
  rw [← g1]
  have ho : ∀ (B F s n : Nat) (u : Value) (ys : List Value), T ≠ F → w.ownsRow B F s u n ys → w2.ownsRow B F s u n ys := fun B F s n u ys h1 h2 => by rw [g1]; exact own_setW (ho B F s n u ys h1 h2) hp h1
  have hp : w2.heap[p]? = some (.cells #[a0, a1, c2, c3, c4, c5, c6, c7] T (0, 0)) := by rw [g1]; exact heap_setCell_same _ _ 1 _ _ a1 hp
  have hb : ∀ B, B ≤ p → Below B w w2 := fun B h1 => by rw [g1]; exact (hb B h1).setCell (p := ⟨p, 1, none⟩) h1 a1
  have hx : ∀ (b : Nat) (x : Obj), b ≠ p → w.heap[b]? = some x → w2.heap[b]? = some x := fun b x h1 h2 => by rw [g1]; exact obj_setW (hx b x h1 h2) h1
  clear g1
  obtain ⟨w3, g2⟩ : ∃ wz : World, wz = w2.setCell ⟨p, 2, none⟩ a2 := ⟨_, rfl⟩
  rw [← g2]
  have ho : ∀ (B F s n : Nat) (u : Value) (ys : List Value), T ≠ F → w.ownsRow B F s u n ys → w3.ownsRow B F s u n ys := fun B F s n u ys h1 h2 => by rw [g2]; exact own_setW (ho B F s n u ys h1 h2) hp h1
  have hp : w3.heap[p]? = some (.cells #[a0, a1, a2, c3, c4, c5, c6, c7] T (0, 0)) := by rw [g2]; exact heap_setCell_same _ _ 2 _ _ a2 hp
  have hb : ∀ B, B ≤ p → Below B w w3 := fun B h1 => by rw [g2]; exact (hb B h1).setCell (p := ⟨p, 2, none⟩) h1 a2
  have hx : ∀ (b : Nat) (x : Obj), b ≠ p → w.heap[b]? = some x → w3.heap[b]? = some x := fun b x h1 h2 => by rw [g2]; exact obj_setW (hx b x h1 h2) h1
  clear g2
  obtain ⟨w4, g3⟩ : ∃ wz : World, wz = w3.setCell ⟨p, 3, none⟩ a3 := ⟨_, rfl⟩
  rw [← g3]
  have ho : ∀ (B F s n : Nat) (u : Value) (ys : List Value), T ≠ F → w.ownsRow B F s u n ys → w4.ownsRow B F s u n ys := fun B F s n u ys h1 h2 => by rw [g3]; exact own_setW (ho B F s n u ys h1 h2) hp h1
  have hp : w4.heap[p]? = some (.cells #[a0, a1, a2, a3, c4, c5, c6, c7] T (0, 0)) := by rw [g3]; exact heap_setCell_same _ _ 3 _ _ a3 hp
  have hb : ∀ B, B ≤ p → Below B w w4 := fun B h1 => by rw [g3]; exact (hb B h1).setCell (p := ⟨p, 3, none⟩) h1 a3
  have hx : ∀ (b : Nat) (x : Obj), b ≠ p → w.heap[b]? = some x → w4.heap[b]? = some x := fun b x h1 h2 => by rw [g3]; exact obj_setW (hx b x h1 h2) h1
  clear g3
  obtain ⟨w5, g4⟩ : ∃ wz : World, wz = w4.setCell ⟨p, 4, none⟩ a4 := ⟨_, rfl⟩
  rw [← g4]
  have ho : ∀ (B F s n : Nat) (u : Value) (ys : List Value), T ≠ F → w.ownsRow B F s u n ys → w5.ownsRow B F s u n ys := fun B F s n u ys h1 h2 => by rw [g4]; exact own_setW (ho B F s n u ys h1 h2) hp h1
  have hp : w5.heap[p]? = some (.cells #[a0, a1, a2, a3, a4, c5, c6, c7] T (0, 0)) := by rw [g4]; exact heap_setCell_same _ _ 4 _ _ a4 hp
  have hb : ∀ B, B ≤ p → Below B w w5 := fun B h1 => by rw [g4]; exact (hb B h1).setCell (p := ⟨p, 4, none⟩) h1 a4
  have hx : ∀ (b : Nat) (x : Obj), b ≠ p → w.heap[b]? = some x → w5.heap[b]? = some x := fun b x h1 h2 => by rw [g4]; exact obj_setW (hx b x h1 h2) h1
  clear g4
  obtain ⟨w6, g5⟩ : ∃ wz : World, wz = w5.setCell ⟨p, 5, none⟩ a5 := ⟨_, rfl⟩
  rw [← g5]
  have ho : ∀ (B F s n : Nat) (u : Value) (ys : List Value), T ≠ F → w.ownsRow B F s u n ys → w6.ownsRow B F s u n ys := fun B F s n u ys h1 h2 => by rw [g5]; exact own_setW (ho B F s n u ys h1 h2) hp h1
  have hp : w6.heap[p]? = some (.cells #[a0, a1, a2, a3, a4, a5, c6, c7] T (0, 0)) := by rw [g5]; exact heap_setCell_same _ _ 5 _ _ a5 hp
  have hb : ∀ B, B ≤ p → Below B w w6 := fun B h1 => by rw [g5]; exact (hb B h1).setCell (p := ⟨p, 5, none⟩) h1 a5
  have hx : ∀ (b : Nat) (x : Obj), b ≠ p → w.heap[b]? = some x → w6.heap[b]? = some x := fun b x h1 h2 => by rw [g5]; exact obj_setW (hx b x h1 h2) h1
  clear g5
  obtain ⟨w7, g6⟩ : ∃ wz : World, wz = w6.setCell ⟨p, 6, none⟩ a6 := ⟨_, rfl⟩
  rw [← g6]
  have ho : ∀ (B F s n : Nat) (u : Value) (ys : List Value), T ≠ F → w.ownsRow B F s u n ys → w7.ownsRow B F s u n ys := fun B F s n u ys h1 h2 => by rw [g6]; exact own_setW (ho B F s n u ys h1 h2) hp h1
  have hp : w7.heap[p]? = some (.cells #[a0, a1, a2, a3, a4, a5, a6, c7] T (0, 0)) := by rw [g6]; exact heap_setCell_same _ _ 6 _ _ a6 hp
  have hb : ∀ B, B ≤ p → Below B w w7 := fun B h1 => by rw [g6]; exact (hb B h1).setCell (p := ⟨p, 6, none⟩) h1 a6
  have hx : ∀ (b : Nat) (x : Obj), b ≠ p → w.heap[b]? = some x → w7.heap[b]? = some x := fun b x h1 h2 => by rw [g6]; exact obj_setW (hx b x h1 h2) h1
  clear g6
  obtain ⟨w8, g7⟩ : ∃ wz : World, wz = w7.setCell ⟨p, 7, none⟩ a7 := ⟨_, rfl⟩
  rw [← g7]
  have ho : ∀ (B F s n : Nat) (u : Value) (ys : List Value), T ≠ F → w.ownsRow B F s u n ys → w8.ownsRow B F s u n ys := fun B F s n u ys h1 h2 => by rw [g7]; exact own_setW (ho B F s n u ys h1 h2) hp h1
  have hp : w8.heap[p]? = some (.cells #[a0, a1, a2, a3, a4, a5, a6, a7] T (0, 0)) := by rw [g7]; exact heap_setCell_same _ _ 7 _ _ a7 hp
  have hb : ∀ B, B ≤ p → Below B w w8 := fun B h1 => by rw [g7]; exact (hb B h1).setCell (p := ⟨p, 7, none⟩) h1 a7
  have hx : ∀ (b : Nat) (x : Obj), b ≠ p → w.heap[b]? = some x → w8.heap[b]? = some x := fun b x h1 h2 => by rw [g7]; exact obj_setW (hx b x h1 h2) h1
  clear g7
  exact ⟨hp, hb, hx, ho⟩
theorem set4of8 (w : World) (p : Nat) (a0 a1 a2 a3 : Value) {c0 c1 c2 c3 c4 c5 c6 c7 : Value} {T : TypeId} (hp : w.heap[p]? = some (.cells #[c0, c1, c2, c3, c4, c5, c6, c7] T (0, 0))) :
    ((((w.setCell ⟨p, 0, none⟩ a0).setCell ⟨p, 1, none⟩ a1).setCell ⟨p, 2, none⟩ a2).setCell ⟨p, 3, none⟩ a3).heap[p]? = some (.cells #[a0, a1, a2, a3, c4, c5, c6, c7] T (0, 0)) ∧ (∀ B, B ≤ p → Below B w ((((w.setCell ⟨p, 0, none⟩ a0).setCell ⟨p, 1, none⟩ a1).setCell ⟨p, 2, none⟩ a2).setCell ⟨p, 3, none⟩ a3)) ∧ (∀ (b : Nat) (x : Obj), b ≠ p → w.heap[b]? = some x → ((((w.setCell ⟨p, 0, none⟩ a0).setCell ⟨p, 1, none⟩ a1).setCell ⟨p, 2, none⟩ a2).setCell ⟨p, 3, none⟩ a3).heap[b]? = some x) ∧ (∀ (B F s n : Nat) (u : Value) (ys : List Value), T ≠ F → w.ownsRow B F s u n ys → ((((w.setCell ⟨p, 0, none⟩ a0).setCell ⟨p, 1, none⟩ a1).setCell ⟨p, 2, none⟩ a2).setCell ⟨p, 3, none⟩ a3).ownsRow B F s u n ys) := by
  have hb : ∀ B, B ≤ p → Below B w w := fun B _ => Below.refl B w
  have hx : ∀ (b : Nat) (x : Obj), b ≠ p → w.heap[b]? = some x → w.heap[b]? = some x := fun _ _ _ h => h
  have ho : ∀ (B F s n : Nat) (u : Value) (ys : List Value), T ≠ F → w.ownsRow B F s u n ys → w.ownsRow B F s u n ys := fun _ _ _ _ _ _ _ h => h
  obtain ⟨w1, g0⟩ : ∃ wz : World, wz = w.setCell ⟨p, 0, none⟩ a0 := ⟨_, rfl⟩
  rw [← g0]
  have ho : ∀ (B F s n : Nat) (u : Value) (ys : List Value), T ≠ F → w.ownsRow B F s u n ys → w1.ownsRow B F s u n ys := fun B F s n u ys h1 h2 => by rw [g0]; exact own_setW (ho B F s n u ys h1 h2) hp h1
  have hp : w1.heap[p]? = some (.cells #[a0, c1, c2, c3, c4, c5, c6, c7] T (0, 0)) := by rw [g0]; exact heap_setCell_same _ _ 0 _ _ a0 hp
  have hb : ∀ B, B ≤ p → Below B w w1 := fun B h1 => by rw [g0]; exact (hb B h1).setCell (p := ⟨p, 0, none⟩) h1 a0
  have hx : ∀ (b : Nat) (x : Obj), b ≠ p → w.heap[b]? = some x → w1.heap[b]? = some x := fun b x h1 h2 => by rw [g0]; exact obj_setW (hx b x h1 h2) h1
  clear g0
  obtain ⟨w2, g1⟩ : ∃ wz : World, wz = w1.setCell ⟨p, 1, none⟩ a1 := ⟨_, rfl⟩
  rw [← g1]
  have ho : ∀ (B F s n : Nat) (u : Value) (ys : List Value), T ≠ F → w.ownsRow B F s u n ys → w2.ownsRow B F s u n ys := fun B F s n u ys h1 h2 => by rw [g1]; exact own_setW (ho B F s n u ys h1 h2) hp h1
  have hp : w2.heap[p]? = some (.cells #[a0, a1, c2, c3, c4, c5, c6, c7] T (0, 0)) := by rw [g1]; exact heap_setCell_same _ _ 1 _ _ a1 hp
  have hb : ∀ B, B ≤ p → Below B w w2 := fun B h1 => by rw [g1]; exact (hb B h1).setCell (p := ⟨p, 1, none⟩) h1 a1
  have hx : ∀ (b : Nat) (x : Obj), b ≠ p → w.heap[b]? = some x → w2.heap[b]? = some x := fun b x h1 h2 => by rw [g1]; exact obj_setW (hx b x h1 h2) h1
  clear g1
  obtain ⟨w3, g2⟩ : ∃ wz : World, wz = w2.setCell ⟨p, 2, none⟩ a2 := ⟨_, rfl⟩
  rw [← g2]
  have ho : ∀ (B F s n : Nat) (u : Value) (ys : List Value), T ≠ F → w.ownsRow B F s u n ys → w3.ownsRow B F s u n ys := fun B F s n u ys h1 h2 => by rw [g2]; exact own_setW (ho B F s n u ys h1 h2) hp h1
  have hp : w3.heap[p]? = some (.cells #[a0, a1, a2, c3, c4, c5, c6, c7] T (0, 0)) := by rw [g2]; exact heap_setCell_same _ _ 2 _ _ a2 hp
  have hb : ∀ B, B ≤ p → Below B w w3 := fun B h1 => by rw [g2]; exact (hb B h1).setCell (p := ⟨p, 2, none⟩) h1 a2
  have hx : ∀ (b : Nat) (x : Obj), b ≠ p → w.heap[b]? = some x → w3.heap[b]? = some x := fun b x h1 h2 => by rw [g2]; exact obj_setW (hx b x h1 h2) h1
  clear g2
  obtain ⟨w4, g3⟩ : ∃ wz : World, wz = w3.setCell ⟨p, 3, none⟩ a3 := ⟨_, rfl⟩
  rw [← g3]
  have ho : ∀ (B F s n : Nat) (u : Value) (ys : List Value), T ≠ F → w.ownsRow B F s u n ys → w4.ownsRow B F s u n ys := fun B F s n u ys h1 h2 => by rw [g3]; exact own_setW (ho B F s n u ys h1 h2) hp h1
  have hp : w4.heap[p]? = some (.cells #[a0, a1, a2, a3, c4, c5, c6, c7] T (0, 0)) := by rw [g3]; exact heap_setCell_same _ _ 3 _ _ a3 hp
  have hb : ∀ B, B ≤ p → Below B w w4 := fun B h1 => by rw [g3]; exact (hb B h1).setCell (p := ⟨p, 3, none⟩) h1 a3
  have hx : ∀ (b : Nat) (x : Obj), b ≠ p → w.heap[b]? = some x → w4.heap[b]? = some x := fun b x h1 h2 => by rw [g3]; exact obj_setW (hx b x h1 h2) h1
  clear g3
  exact ⟨hp, hb, hx, ho⟩

theorem append_none_w {w : World} (base : Nat) (t ty e : TypeId) (i : TypeInfo) (size : Nat) (ht : Tryz.prog.underlying t = some (.slice e)) (hi : Tryz.prog.info? e = some i)
    (v : Value) (n : Nat) (xs : List Value) (hown : w.ownsRow base e size v n xs) (c : Nat) :
    (Builtin.append_ #[t, t] ty #[v, .slice none 0 c]).run Tryz.prog w = .ok v w := by
  rcases hown.2 with ⟨rfl, rfl⟩ | ⟨g, cap, cur, rfl, _, _, hnc, _⟩
  · simp [Builtin.append_, run_underlying ht, sizeOf, typeInfo, hi, Builtin.lenOf, Builtin.firstCells]
  · simp [Builtin.append_, run_underlying ht, sizeOf, typeInfo, hi, Builtin.lenOf, Builtin.firstCells, hnc, storeCells]
theorem add_noneW (b o j : Nat) : (⟨b, o, none⟩ : Addr).add j = ⟨b, o + j, none⟩ := by unfold Addr.add; split <;> simp_all
/-- one record that lies in a block of its own, appended to a row of the call's own -/
theorem wpList_append_oneW {k bytes : Nat} {T S : TypeId} {z : Value} (hS : Tryz.prog.underlying S = some (.slice T)) (hT : (Tryz.prog.info? T).map (fun i => (i.zero, i.size, i.bytes)) = some (some z, k, bytes)) (hzk : z.cells.size = k) (hk : 0 < k)
    {w : World} {ops : Array Oper} {rest : List Oper} {o : Oper} {a : Act} {Q : Exit → Act → World → Prop} (hgd : o.guard = none) (s x : Operand)
    (ho : o.op = .call { callee := .builtin .append, args := #[s, x], argTypes := #[S, S] })
    (base : Nat) (v : Value) (n : Nat) (xs cs : List Value) (hs : a.eval s = v) (hown : w.ownsRow base T k v n xs) (g : Nat) (hx : a.eval x = .slice (some ⟨g, 0, none⟩) 1 1) (hg : w.heap[g]? = some (.cells cs.toArray T (0, 0))) (hcs : cs.length = k) (h1 : ∀ u ∈ cs, u.oneCell' = true) (hn : n + 1 ≤ 1000000000) (hlen : (n + 1) * bytes ≤ 140737488355328) (hbase : base ≤ w.heap.size)
    (h : ∀ g' cap w', w'.ownsRow base T k (.slice (some ⟨g', 0, none⟩) (n + 1) cap) (n + 1) (xs ++ cs) → w.grownBy w' v.ownBlock → wpList Tryz.prog ops Q rest (a.put o.dst (.slice (some ⟨g', 0, none⟩) (n + 1) cap)) w') : wpList Tryz.prog ops Q (o :: rest) a w := by
  obtain ⟨i0, hi, hz0, hz1, hz2⟩ := info_parts hT
  exact wpList_append_lies w hgd s x S ho base T i0 _ k bytes hS hi hz0 hz1 hz2 hzk hk v n xs hs hown ⟨g, 0, none⟩ 1 1 cs hx (by omega) (fun j u hu => by
    rw [add_noneW, Nat.zero_add, Lib.cell_of_heap hg]
    simpa using hu) h1 (by omega) (by unfold maxLen; omega) hlen hbase _ rfl (fun g' cap w' h2 h3 _ _ => h g' cap w' h2 h3)
theorem obj_farW {w w' : World} {row : Option Nat} {b : Nat} {o : Obj} (h : w.heap[b]? = some o) (hg : w.grownBy w' row) (hne : some b ≠ row) : w'.heap[b]? = some o := by
  have hl : b < w.heap.size := by
    rcases Nat.lt_or_ge b w.heap.size with h' | h'
    · exact h'
    · rw [Array.getElem?_eq_none h'] at h; cases h
  rw [hg.block b hl hne]; exact h
theorem infoChr7 : (Tryz.prog.info? 38).map (fun i => (i.zero, i.size, i.bytes)) = some (some (.agg #[.int .i32 0, .int .i64 0, .int .i64 0, .int .i64 0]), 4, 32) := by kernel_rfl
theorem infoKrn7 : (Tryz.prog.info? 52).map (fun i => (i.zero, i.size, i.bytes)) = some (some (.agg #[.int .i32 0, .int .i32 0, .int .i64 0]), 3, 16) := by kernel_rfl
theorem infoLig7 : (Tryz.prog.info? 54).map (fun i => (i.zero, i.size, i.bytes)) = some (some (.agg #[.int .i32 0, .int .i32 0, .int .i32 0]), 3, 12) := by kernel_rfl

set_option maxHeartbeats 8000000 in
set_option maxRecDepth 100000 in
theorem refWith0 (m : Mt.Tab) (a0 a1 a2 b0 b1 b2 : Int) (pc pk pl : Option Addr) (na nb nc cc ck cl : Nat) (w : World) : Calls Tryz.prog 26 #[metV m (.slice pc na cc) (.slice pk nb ck) (.slice pl nc cl), .agg #[.int .i64 0, .int .i32 a0, .int .i32 a1, .int .i32 a2, .int .i64 b0, .int .i64 b1, .int .i64 b2]] w (fun e w' => e = .returned (metV { m with sw := b0, st := b1, sk := b2, order := 0 } (.slice pc na cc) (.slice pk nb ck) (.slice pl nc cl)) ∧ Below w.heap.size w w') := by
  obtain ⟨p0, hp0⟩ : ∃ p, p = w.heap.size := ⟨_, rfl⟩
  obtain ⟨V0, hV0⟩ : ∃ W, W = ((w.alloc (.cells #[.int .i64 m.sw, .int .i64 m.st, .int .i64 m.sk, .int .i64 m.order, .int .i32 m.hyph, .slice pc na cc, .slice pk nb ck, .slice pl nc cl] 28)).alloc (.cells #[.int .i64 0, .int .i32 a0, .int .i32 a1, .int .i32 a2, .int .i64 b0, .int .i64 b1, .int .i64 b2] 65)).alloc (.cells #[.int .i64 0, .int .i64 0, .int .i64 0, .int .i64 0, .int .i32 0, .slice none 0 0, .slice none 0 0, .slice none 0 0] 28) := ⟨_, rfl⟩
  have lb1 := below_alloc w (.cells #[.int .i64 m.sw, .int .i64 m.st, .int .i64 m.sk, .int .i64 m.order, .int .i32 m.hyph, .slice pc na cc, .slice pk nb ck, .slice pl nc cl] 28)
  have lb2 := below_alloc (w.alloc (.cells #[.int .i64 m.sw, .int .i64 m.st, .int .i64 m.sk, .int .i64 m.order, .int .i32 m.hyph, .slice pc na cc, .slice pk nb ck, .slice pl nc cl] 28)) (.cells #[.int .i64 0, .int .i32 a0, .int .i32 a1, .int .i32 a2, .int .i64 b0, .int .i64 b1, .int .i64 b2] 65)
  have lb3 := below_alloc ((w.alloc (.cells #[.int .i64 m.sw, .int .i64 m.st, .int .i64 m.sk, .int .i64 m.order, .int .i32 m.hyph, .slice pc na cc, .slice pk nb ck, .slice pl nc cl] 28)).alloc (.cells #[.int .i64 0, .int .i32 a0, .int .i32 a1, .int .i32 a2, .int .i64 b0, .int .i64 b1, .int .i64 b2] 65)) (.cells #[.int .i64 0, .int .i64 0, .int .i64 0, .int .i64 0, .int .i32 0, .slice none 0 0, .slice none 0 0, .slice none 0 0] 28)
  have HM0 : Hid (V0.heap[p0]? = some (.cells #[.int .i64 m.sw, .int .i64 m.st, .int .i64 m.sk, .int .i64 m.order, .int .i32 m.hyph, .slice pc na cc, .slice pk nb ck, .slice pl nc cl] 28 (0, 0))) := Lib.hid (by rw [hV0]; exact obj_keptW lb3 (obj_keptW lb2 (obj_newW w _ hp0.symm _ _)))
  have HR0 : Hid (V0.heap[p0 + 1]? = some (.cells #[.int .i64 0, .int .i32 a0, .int .i32 a1, .int .i32 a2, .int .i64 b0, .int .i64 b1, .int .i64 b2] 65 (0, 0))) := Lib.hid (by rw [hV0]; exact obj_keptW lb3 (obj_newW _ _ (by rw [World.size_alloc, ← hp0]) _ _))
  have HZ0 : Hid (V0.heap[p0 + 1 + 1]? = some (.cells #[.int .i64 0, .int .i64 0, .int .i64 0, .int .i64 0, .int .i32 0, .slice none 0 0, .slice none 0 0, .slice none 0 0] 28 (0, 0))) := Lib.hid (by rw [hV0]; exact obj_newW _ _ (by rw [World.size_alloc, World.size_alloc, ← hp0]) _ _)
  have HB0 : Hid (Below w.heap.size w V0) := Lib.hid (by rw [hV0]; exact below_step (below_step lb1 lb2) lb3)
  have hsz : V0.heap.size = p0 + 1 + 1 + 1 := by rw [hV0, World.size_alloc, World.size_alloc, World.size_alloc, ← hp0]
  have HSZ := Lib.hid hsz
  have HP0 := Lib.hid hp0
  clear lb1 lb2 lb3 hsz
  unfold metV
  go_enter Tryz.func26, Tryz.ntmps26
  go_upto_region 1 with fail
  rw [← hp0, ← hV0]
  clear hp0 hV0
  go_cut [5, 6] (fun pv qv wx => ∃ q1 q2 : Nat, pv = .pointer (some ⟨q1, 0, none⟩) ∧ qv = .pointer (some ⟨q2, 0, none⟩) ∧ Hid (wx.heap[q1]? = some (.cells #[.int .i32 a0, .int .i32 a1, .int .i32 a2] 62 (0, 0))) ∧ Hid (wx.heap[q2]? = some (.cells #[.int .i64 b0, .int .i64 b1, .int .i64 b2] 63 (0, 0))) ∧ Hid (Below V0.heap.size V0 wx) ∧ Hid (V0.heap.size ≤ q1 ∧ V0.heap.size ≤ q2))
  case first =>
    have hS : V0.cell? ⟨p0 + 1, 1, none⟩ = some (.int .i32 a0) ∧ V0.cell? ⟨p0 + 1, 2, none⟩ = some (.int .i32 a1) ∧ V0.cell? ⟨p0 + 1, 3, none⟩ = some (.int .i32 a2) ∧ V0.cell? ⟨p0 + 1, 4, none⟩ = some (.int .i64 b0) ∧ V0.cell? ⟨p0 + 1, 5, none⟩ = some (.int .i64 b1) ∧ V0.cell? ⟨p0 + 1, 6, none⟩ = some (.int .i64 b2) := ⟨Lib.cell_of_heap HR0.out 1, Lib.cell_of_heap HR0.out 2, Lib.cell_of_heap HR0.out 3, Lib.cell_of_heap HR0.out 4, Lib.cell_of_heap HR0.out 5, Lib.cell_of_heap HR0.out 6⟩
    go_region_held3 (fun w' => w'.cell? ⟨p0 + 1, 1, none⟩ = some (.int .i32 a0) ∧ w'.cell? ⟨p0 + 1, 2, none⟩ = some (.int .i32 a1) ∧ w'.cell? ⟨p0 + 1, 3, none⟩ = some (.int .i32 a2) ∧ w'.cell? ⟨p0 + 1, 4, none⟩ = some (.int .i64 b0) ∧ w'.cell? ⟨p0 + 1, 5, none⟩ = some (.int .i64 b1) ∧ w'.cell? ⟨p0 + 1, 6, none⟩ = some (.int .i64 b2)) (first | go_keep | exact hS) (fail)
    all_goals go_wp2_with fail
    all_goals go_meet
    · exact ⟨_, _, rfl, rfl, Lib.hid (obj_keptW (below_alloc _ _).drew (obj_newW V0 _ rfl _ _)), Lib.hid (obj_newW _ _ (World.size_alloc _ _) _ _), Lib.hid (below_step (below_alloc _ _) (below_alloc _ _)).drew, Lib.hid ⟨Nat.le_refl _, Nat.le_succ _⟩⟩
    · exact ⟨_, _, rfl, rfl, Lib.hid (obj_newW _ _ (World.size_alloc _ _) _ _), Lib.hid (obj_keptW (below_alloc _ _).drew (obj_newW V0 _ rfl _ _)), Lib.hid (below_step (below_alloc _ _) (below_alloc _ _)).drew, Lib.hid ⟨Nat.le_succ _, Nat.le_refl _⟩⟩
  case rest =>
    obtain ⟨q1, q2, rfl, rfl, HQ1, HQ2, HBc, HQs⟩ := hcut
    have HMc := Lib.hid (obj_keptW HBc.out HM0.out)
    have HRc := Lib.hid (obj_keptW HBc.out HR0.out)
    have HZc := Lib.hid (obj_keptW HBc.out HZ0.out)
    have HBt := Lib.hid (below_step HB0.out HBc.out)
    have k0 := Lib.cell_of_heap HRc.out 0
    clear HM0 HR0 HZ0 HB0 HBc
    have g0 := Lib.cell_of_heap HQ2.out 0
    have g1 := Lib.cell_of_heap HQ2.out 1
    have g2 := Lib.cell_of_heap HQ2.out 2
    have c0 := Lib.cell_of_heap HMc.out 0
    have c1 := Lib.cell_of_heap HMc.out 1
    have c2 := Lib.cell_of_heap HMc.out 2
    have c3 := Lib.cell_of_heap HMc.out 3
    have d0 := Lib.frozen_of_heap HMc.out 0
    have d1 := Lib.frozen_of_heap HMc.out 1
    have d2 := Lib.frozen_of_heap HMc.out 2
    have d3 := Lib.frozen_of_heap HMc.out 3
    go_upto_region 13 with fail
    have HS := Lib.hid (set4of8 wc p0 (.int .i64 b0) (.int .i64 b1) (.int .i64 b2) (.int .i64 0) HMc.out)
    obtain ⟨W1, hW1⟩ : ∃ W, W = (((wc.setCell ⟨p0, 0, none⟩ (.int .i64 b0)).setCell ⟨p0, 1, none⟩ (.int .i64 b1)).setCell ⟨p0, 2, none⟩ (.int .i64 b2)).setCell ⟨p0, 3, none⟩ (.int .i64 0) := ⟨_, rfl⟩
    rw [← hW1] at HS ⊢
    clear hW1 g0 g1 g2 c0 c1 c2 c3 d0 d1 d2 d3 k0
    have HM1 := Lib.hid HS.out.1
    have HZ1 := Lib.hid (HS.out.2.2.1 _ _ (by omega) HZc.out)
    have HB1 : Hid (Below w.heap.size w W1) := Lib.hid (HBt.out.trans (HS.out.2.1 _ (by have := HP0.out; omega)))
    clear HS HMc HZc HRc
    have e0 := Lib.cell_of_heap HM1.out 0
    have e1 := Lib.cell_of_heap HM1.out 1
    have e2 := Lib.cell_of_heap HM1.out 2
    have e3 := Lib.cell_of_heap HM1.out 3
    have e4 := Lib.cell_of_heap HM1.out 4
    have e5 := Lib.cell_of_heap HM1.out 5
    have e6 := Lib.cell_of_heap HM1.out 6
    have e7 := Lib.cell_of_heap HM1.out 7
    have c0 := Lib.cell_of_heap HZ1.out 0
    have c1 := Lib.cell_of_heap HZ1.out 1
    have c2 := Lib.cell_of_heap HZ1.out 2
    have c3 := Lib.cell_of_heap HZ1.out 3
    have c4 := Lib.cell_of_heap HZ1.out 4
    have c5 := Lib.cell_of_heap HZ1.out 5
    have c6 := Lib.cell_of_heap HZ1.out 6
    have c7 := Lib.cell_of_heap HZ1.out 7
    have d0 := Lib.frozen_of_heap HZ1.out 0
    have d1 := Lib.frozen_of_heap HZ1.out 1
    have d2 := Lib.frozen_of_heap HZ1.out 2
    have d3 := Lib.frozen_of_heap HZ1.out 3
    have d4 := Lib.frozen_of_heap HZ1.out 4
    have d5 := Lib.frozen_of_heap HZ1.out 5
    have d6 := Lib.frozen_of_heap HZ1.out 6
    have d7 := Lib.frozen_of_heap HZ1.out 7
    have HQ := Lib.hid (set8 W1 (p0 + 1 + 1) (.int .i64 b0) (.int .i64 b1) (.int .i64 b2) (.int .i64 0) (.int .i32 m.hyph) (.slice pc na cc) (.slice pk nb ck) (.slice pl nc cl) HZ1.out)
    go_wp2
    obtain ⟨W, hW⟩ : ∃ W, W = (((((((W1.setCell ⟨p0 + 1 + 1, 0, none⟩ (.int .i64 b0)).setCell ⟨p0 + 1 + 1, 1, none⟩ (.int .i64 b1)).setCell ⟨p0 + 1 + 1, 2, none⟩ (.int .i64 b2)).setCell ⟨p0 + 1 + 1, 3, none⟩ (.int .i64 0)).setCell ⟨p0 + 1 + 1, 4, none⟩ (.int .i32 m.hyph)).setCell ⟨p0 + 1 + 1, 5, none⟩ (.slice pc na cc)).setCell ⟨p0 + 1 + 1, 6, none⟩ (.slice pk nb ck)).setCell ⟨p0 + 1 + 1, 7, none⟩ (.slice pl nc cl) := ⟨_, rfl⟩
    rw [← hW] at HQ ⊢
    clear hW
    have s0 := Lib.cell_of_heap HQ.out.1 0
    have s1 := Lib.cell_of_heap HQ.out.1 1
    have s2 := Lib.cell_of_heap HQ.out.1 2
    have s3 := Lib.cell_of_heap HQ.out.1 3
    have s4 := Lib.cell_of_heap HQ.out.1 4
    have s5 := Lib.cell_of_heap HQ.out.1 5
    have s6 := Lib.cell_of_heap HQ.out.1 6
    have s7 := Lib.cell_of_heap HQ.out.1 7
    have hBf : Below w.heap.size W1 W := HQ.out.2.1 _ (by have := HP0.out; omega)
    exact bodyPost_ret (v := .agg #[.int .i64 b0, .int .i64 b1, .int .i64 b2, .int .i64 0, .int .i32 m.hyph, .slice pc na cc, .slice pk nb ck, .slice pl nc cl]) (by simp [results, Tryz.results26, go_sem, s0, s1, s2, s3, s4, s5, s6, s7]) rfl ⟨rfl, HB1.out.trans hBf⟩

set_option maxHeartbeats 8000000 in
set_option maxRecDepth 100000 in
theorem refWith1 (m : Mt.Tab) (a0 a1 a2 b0 b1 b2 : Int) (pc pk pl : Option Addr) (na nb nc cc ck cl : Nat) (w : World) : Calls Tryz.prog 26 #[metV m (.slice pc na cc) (.slice pk nb ck) (.slice pl nc cl), .agg #[.int .i64 1, .int .i32 a0, .int .i32 a1, .int .i32 a2, .int .i64 b0, .int .i64 b1, .int .i64 b2]] w (fun e w' => e = .returned (metV { m with hyph := a0 } (.slice pc na cc) (.slice pk nb ck) (.slice pl nc cl)) ∧ Below w.heap.size w w') := by
  obtain ⟨p0, hp0⟩ : ∃ p, p = w.heap.size := ⟨_, rfl⟩
  obtain ⟨V0, hV0⟩ : ∃ W, W = ((w.alloc (.cells #[.int .i64 m.sw, .int .i64 m.st, .int .i64 m.sk, .int .i64 m.order, .int .i32 m.hyph, .slice pc na cc, .slice pk nb ck, .slice pl nc cl] 28)).alloc (.cells #[.int .i64 1, .int .i32 a0, .int .i32 a1, .int .i32 a2, .int .i64 b0, .int .i64 b1, .int .i64 b2] 65)).alloc (.cells #[.int .i64 0, .int .i64 0, .int .i64 0, .int .i64 0, .int .i32 0, .slice none 0 0, .slice none 0 0, .slice none 0 0] 28) := ⟨_, rfl⟩
  have lb1 := below_alloc w (.cells #[.int .i64 m.sw, .int .i64 m.st, .int .i64 m.sk, .int .i64 m.order, .int .i32 m.hyph, .slice pc na cc, .slice pk nb ck, .slice pl nc cl] 28)
  have lb2 := below_alloc (w.alloc (.cells #[.int .i64 m.sw, .int .i64 m.st, .int .i64 m.sk, .int .i64 m.order, .int .i32 m.hyph, .slice pc na cc, .slice pk nb ck, .slice pl nc cl] 28)) (.cells #[.int .i64 1, .int .i32 a0, .int .i32 a1, .int .i32 a2, .int .i64 b0, .int .i64 b1, .int .i64 b2] 65)
  have lb3 := below_alloc ((w.alloc (.cells #[.int .i64 m.sw, .int .i64 m.st, .int .i64 m.sk, .int .i64 m.order, .int .i32 m.hyph, .slice pc na cc, .slice pk nb ck, .slice pl nc cl] 28)).alloc (.cells #[.int .i64 1, .int .i32 a0, .int .i32 a1, .int .i32 a2, .int .i64 b0, .int .i64 b1, .int .i64 b2] 65)) (.cells #[.int .i64 0, .int .i64 0, .int .i64 0, .int .i64 0, .int .i32 0, .slice none 0 0, .slice none 0 0, .slice none 0 0] 28)
  have HM0 : Hid (V0.heap[p0]? = some (.cells #[.int .i64 m.sw, .int .i64 m.st, .int .i64 m.sk, .int .i64 m.order, .int .i32 m.hyph, .slice pc na cc, .slice pk nb ck, .slice pl nc cl] 28 (0, 0))) := Lib.hid (by rw [hV0]; exact obj_keptW lb3 (obj_keptW lb2 (obj_newW w _ hp0.symm _ _)))
  have HR0 : Hid (V0.heap[p0 + 1]? = some (.cells #[.int .i64 1, .int .i32 a0, .int .i32 a1, .int .i32 a2, .int .i64 b0, .int .i64 b1, .int .i64 b2] 65 (0, 0))) := Lib.hid (by rw [hV0]; exact obj_keptW lb3 (obj_newW _ _ (by rw [World.size_alloc, ← hp0]) _ _))
  have HZ0 : Hid (V0.heap[p0 + 1 + 1]? = some (.cells #[.int .i64 0, .int .i64 0, .int .i64 0, .int .i64 0, .int .i32 0, .slice none 0 0, .slice none 0 0, .slice none 0 0] 28 (0, 0))) := Lib.hid (by rw [hV0]; exact obj_newW _ _ (by rw [World.size_alloc, World.size_alloc, ← hp0]) _ _)
  have HB0 : Hid (Below w.heap.size w V0) := Lib.hid (by rw [hV0]; exact below_step (below_step lb1 lb2) lb3)
  have hsz : V0.heap.size = p0 + 1 + 1 + 1 := by rw [hV0, World.size_alloc, World.size_alloc, World.size_alloc, ← hp0]
  have HSZ := Lib.hid hsz
  have HP0 := Lib.hid hp0
  clear lb1 lb2 lb3 hsz
  unfold metV
  go_enter Tryz.func26, Tryz.ntmps26
  go_upto_region 1 with fail
  rw [← hp0, ← hV0]
  clear hp0 hV0
  go_cut [5, 6] (fun pv qv wx => ∃ q1 q2 : Nat, pv = .pointer (some ⟨q1, 0, none⟩) ∧ qv = .pointer (some ⟨q2, 0, none⟩) ∧ Hid (wx.heap[q1]? = some (.cells #[.int .i32 a0, .int .i32 a1, .int .i32 a2] 62 (0, 0))) ∧ Hid (wx.heap[q2]? = some (.cells #[.int .i64 b0, .int .i64 b1, .int .i64 b2] 63 (0, 0))) ∧ Hid (Below V0.heap.size V0 wx) ∧ Hid (V0.heap.size ≤ q1 ∧ V0.heap.size ≤ q2))
  case first =>
    have hS : V0.cell? ⟨p0 + 1, 1, none⟩ = some (.int .i32 a0) ∧ V0.cell? ⟨p0 + 1, 2, none⟩ = some (.int .i32 a1) ∧ V0.cell? ⟨p0 + 1, 3, none⟩ = some (.int .i32 a2) ∧ V0.cell? ⟨p0 + 1, 4, none⟩ = some (.int .i64 b0) ∧ V0.cell? ⟨p0 + 1, 5, none⟩ = some (.int .i64 b1) ∧ V0.cell? ⟨p0 + 1, 6, none⟩ = some (.int .i64 b2) := ⟨Lib.cell_of_heap HR0.out 1, Lib.cell_of_heap HR0.out 2, Lib.cell_of_heap HR0.out 3, Lib.cell_of_heap HR0.out 4, Lib.cell_of_heap HR0.out 5, Lib.cell_of_heap HR0.out 6⟩
    go_region_held3 (fun w' => w'.cell? ⟨p0 + 1, 1, none⟩ = some (.int .i32 a0) ∧ w'.cell? ⟨p0 + 1, 2, none⟩ = some (.int .i32 a1) ∧ w'.cell? ⟨p0 + 1, 3, none⟩ = some (.int .i32 a2) ∧ w'.cell? ⟨p0 + 1, 4, none⟩ = some (.int .i64 b0) ∧ w'.cell? ⟨p0 + 1, 5, none⟩ = some (.int .i64 b1) ∧ w'.cell? ⟨p0 + 1, 6, none⟩ = some (.int .i64 b2)) (first | go_keep | exact hS) (fail)
    all_goals go_wp2_with fail
    all_goals go_meet
    · exact ⟨_, _, rfl, rfl, Lib.hid (obj_keptW (below_alloc _ _).drew (obj_newW V0 _ rfl _ _)), Lib.hid (obj_newW _ _ (World.size_alloc _ _) _ _), Lib.hid (below_step (below_alloc _ _) (below_alloc _ _)).drew, Lib.hid ⟨Nat.le_refl _, Nat.le_succ _⟩⟩
    · exact ⟨_, _, rfl, rfl, Lib.hid (obj_newW _ _ (World.size_alloc _ _) _ _), Lib.hid (obj_keptW (below_alloc _ _).drew (obj_newW V0 _ rfl _ _)), Lib.hid (below_step (below_alloc _ _) (below_alloc _ _)).drew, Lib.hid ⟨Nat.le_succ _, Nat.le_refl _⟩⟩
  case rest =>
    obtain ⟨q1, q2, rfl, rfl, HQ1, HQ2, HBc, HQs⟩ := hcut
    have HMc := Lib.hid (obj_keptW HBc.out HM0.out)
    have HRc := Lib.hid (obj_keptW HBc.out HR0.out)
    have HZc := Lib.hid (obj_keptW HBc.out HZ0.out)
    have HBt := Lib.hid (below_step HB0.out HBc.out)
    have k0 := Lib.cell_of_heap HRc.out 0
    clear HM0 HR0 HZ0 HB0 HBc
    have g0 := Lib.cell_of_heap HQ1.out 0
    have c4 := Lib.cell_of_heap HMc.out 4
    have d4 := Lib.frozen_of_heap HMc.out 4
    go_upto_region 13 with fail
    obtain ⟨W1, hW1⟩ : ∃ W, W = wc.setCell ⟨p0, 4, none⟩ (.int .i32 a0) := ⟨_, rfl⟩
    have HM1 : Hid (W1.heap[p0]? = some (.cells #[.int .i64 m.sw, .int .i64 m.st, .int .i64 m.sk, .int .i64 m.order, .int .i32 a0, .slice pc na cc, .slice pk nb ck, .slice pl nc cl] 28 (0, 0))) := Lib.hid (by rw [hW1]; exact heap_setCell_same _ _ 4 _ _ _ HMc.out)
    have HZ1 := Lib.hid (obj_setW (p := p0) (i := 4) (v := .int .i32 a0) HZc.out (by omega))
    have HB1 : Hid (Below w.heap.size w W1) := Lib.hid (by rw [hW1]; exact HBt.out.setCell (p := ⟨p0, 4, none⟩) (by show w.heap.size ≤ p0; have := HP0.out; omega) _)
    rw [← hW1] at HZ1 ⊢
    clear hW1 g0 c4 d4 k0 HMc HZc HRc
    have e0 := Lib.cell_of_heap HM1.out 0
    have e1 := Lib.cell_of_heap HM1.out 1
    have e2 := Lib.cell_of_heap HM1.out 2
    have e3 := Lib.cell_of_heap HM1.out 3
    have e4 := Lib.cell_of_heap HM1.out 4
    have e5 := Lib.cell_of_heap HM1.out 5
    have e6 := Lib.cell_of_heap HM1.out 6
    have e7 := Lib.cell_of_heap HM1.out 7
    have c0 := Lib.cell_of_heap HZ1.out 0
    have c1 := Lib.cell_of_heap HZ1.out 1
    have c2 := Lib.cell_of_heap HZ1.out 2
    have c3 := Lib.cell_of_heap HZ1.out 3
    have c4 := Lib.cell_of_heap HZ1.out 4
    have c5 := Lib.cell_of_heap HZ1.out 5
    have c6 := Lib.cell_of_heap HZ1.out 6
    have c7 := Lib.cell_of_heap HZ1.out 7
    have d0 := Lib.frozen_of_heap HZ1.out 0
    have d1 := Lib.frozen_of_heap HZ1.out 1
    have d2 := Lib.frozen_of_heap HZ1.out 2
    have d3 := Lib.frozen_of_heap HZ1.out 3
    have d4 := Lib.frozen_of_heap HZ1.out 4
    have d5 := Lib.frozen_of_heap HZ1.out 5
    have d6 := Lib.frozen_of_heap HZ1.out 6
    have d7 := Lib.frozen_of_heap HZ1.out 7
    have HQ := Lib.hid (set8 W1 (p0 + 1 + 1) (.int .i64 m.sw) (.int .i64 m.st) (.int .i64 m.sk) (.int .i64 m.order) (.int .i32 a0) (.slice pc na cc) (.slice pk nb ck) (.slice pl nc cl) HZ1.out)
    go_wp2
    obtain ⟨W, hW⟩ : ∃ W, W = (((((((W1.setCell ⟨p0 + 1 + 1, 0, none⟩ (.int .i64 m.sw)).setCell ⟨p0 + 1 + 1, 1, none⟩ (.int .i64 m.st)).setCell ⟨p0 + 1 + 1, 2, none⟩ (.int .i64 m.sk)).setCell ⟨p0 + 1 + 1, 3, none⟩ (.int .i64 m.order)).setCell ⟨p0 + 1 + 1, 4, none⟩ (.int .i32 a0)).setCell ⟨p0 + 1 + 1, 5, none⟩ (.slice pc na cc)).setCell ⟨p0 + 1 + 1, 6, none⟩ (.slice pk nb ck)).setCell ⟨p0 + 1 + 1, 7, none⟩ (.slice pl nc cl) := ⟨_, rfl⟩
    rw [← hW] at HQ ⊢
    clear hW
    have s0 := Lib.cell_of_heap HQ.out.1 0
    have s1 := Lib.cell_of_heap HQ.out.1 1
    have s2 := Lib.cell_of_heap HQ.out.1 2
    have s3 := Lib.cell_of_heap HQ.out.1 3
    have s4 := Lib.cell_of_heap HQ.out.1 4
    have s5 := Lib.cell_of_heap HQ.out.1 5
    have s6 := Lib.cell_of_heap HQ.out.1 6
    have s7 := Lib.cell_of_heap HQ.out.1 7
    have hBf : Below w.heap.size W1 W := HQ.out.2.1 _ (by have := HP0.out; omega)
    exact bodyPost_ret (v := .agg #[.int .i64 m.sw, .int .i64 m.st, .int .i64 m.sk, .int .i64 m.order, .int .i32 a0, .slice pc na cc, .slice pk nb ck, .slice pl nc cl]) (by simp [results, Tryz.results26, go_sem, s0, s1, s2, s3, s4, s5, s6, s7]) rfl ⟨rfl, HB1.out.trans hBf⟩

set_option maxHeartbeats 8000000 in
set_option maxRecDepth 100000 in
theorem refWith2 (B : Nat) (m : Mt.Tab) (a0 a1 a2 b0 b1 b2 : Int) (pc pk pl : Option Addr) (na nb nc cc ck cl : Nat) (xs : List Value) (w : World) (hB : B ≤ w.heap.size) (hlen : na + 1 ≤ 1000000000) (hown : w.ownsRow B 38 4 (.slice pc na cc) na xs) : Calls Tryz.prog 26 #[metV m (.slice pc na cc) (.slice pk nb ck) (.slice pl nc cl), .agg #[.int .i64 2, .int .i32 a0, .int .i32 a1, .int .i32 a2, .int .i64 b0, .int .i64 b1, .int .i64 b2]] w (fun e w' => ∃ g cap, e = .returned (.agg #[.int .i64 m.sw, .int .i64 m.st, .int .i64 m.sk, .int .i64 m.order, .int .i32 m.hyph, .slice (some ⟨g, 0, none⟩) (na + 1) cap, .slice pk nb ck, .slice pl nc cl]) ∧
    w'.ownsRow B 38 4 (.slice (some ⟨g, 0, none⟩) (na + 1) cap) (na + 1) (xs ++ [.int .i32 a0, .int .i64 b0, .int .i64 b1, .int .i64 b2]) ∧ (∀ (F s n : Nat) (u : Value) (ys : List Value), 38 ≠ F → 28 ≠ F → w.ownsRow B F s u n ys → w'.ownsRow B F s u n ys) ∧ Below B w w') := by
  obtain ⟨p0, hp0⟩ : ∃ p, p = w.heap.size := ⟨_, rfl⟩
  obtain ⟨V0, hV0⟩ : ∃ W, W = ((w.alloc (.cells #[.int .i64 m.sw, .int .i64 m.st, .int .i64 m.sk, .int .i64 m.order, .int .i32 m.hyph, .slice pc na cc, .slice pk nb ck, .slice pl nc cl] 28)).alloc (.cells #[.int .i64 2, .int .i32 a0, .int .i32 a1, .int .i32 a2, .int .i64 b0, .int .i64 b1, .int .i64 b2] 65)).alloc (.cells #[.int .i64 0, .int .i64 0, .int .i64 0, .int .i64 0, .int .i32 0, .slice none 0 0, .slice none 0 0, .slice none 0 0] 28) := ⟨_, rfl⟩
  have lb1 := below_alloc w (.cells #[.int .i64 m.sw, .int .i64 m.st, .int .i64 m.sk, .int .i64 m.order, .int .i32 m.hyph, .slice pc na cc, .slice pk nb ck, .slice pl nc cl] 28)
  have lb2 := below_alloc (w.alloc (.cells #[.int .i64 m.sw, .int .i64 m.st, .int .i64 m.sk, .int .i64 m.order, .int .i32 m.hyph, .slice pc na cc, .slice pk nb ck, .slice pl nc cl] 28)) (.cells #[.int .i64 2, .int .i32 a0, .int .i32 a1, .int .i32 a2, .int .i64 b0, .int .i64 b1, .int .i64 b2] 65)
  have lb3 := below_alloc ((w.alloc (.cells #[.int .i64 m.sw, .int .i64 m.st, .int .i64 m.sk, .int .i64 m.order, .int .i32 m.hyph, .slice pc na cc, .slice pk nb ck, .slice pl nc cl] 28)).alloc (.cells #[.int .i64 2, .int .i32 a0, .int .i32 a1, .int .i32 a2, .int .i64 b0, .int .i64 b1, .int .i64 b2] 65)) (.cells #[.int .i64 0, .int .i64 0, .int .i64 0, .int .i64 0, .int .i32 0, .slice none 0 0, .slice none 0 0, .slice none 0 0] 28)
  have HM0 : Hid (V0.heap[p0]? = some (.cells #[.int .i64 m.sw, .int .i64 m.st, .int .i64 m.sk, .int .i64 m.order, .int .i32 m.hyph, .slice pc na cc, .slice pk nb ck, .slice pl nc cl] 28 (0, 0))) := Lib.hid (by rw [hV0]; exact obj_keptW lb3 (obj_keptW lb2 (obj_newW w _ hp0.symm _ _)))
  have HR0 : Hid (V0.heap[p0 + 1]? = some (.cells #[.int .i64 2, .int .i32 a0, .int .i32 a1, .int .i32 a2, .int .i64 b0, .int .i64 b1, .int .i64 b2] 65 (0, 0))) := Lib.hid (by rw [hV0]; exact obj_keptW lb3 (obj_newW _ _ (by rw [World.size_alloc, ← hp0]) _ _))
  have HZ0 : Hid (V0.heap[p0 + 1 + 1]? = some (.cells #[.int .i64 0, .int .i64 0, .int .i64 0, .int .i64 0, .int .i32 0, .slice none 0 0, .slice none 0 0, .slice none 0 0] 28 (0, 0))) := Lib.hid (by rw [hV0]; exact obj_newW _ _ (by rw [World.size_alloc, World.size_alloc, ← hp0]) _ _)
  have HB0 : Hid (Below w.heap.size w V0) := Lib.hid (by rw [hV0]; exact below_step (below_step lb1 lb2) lb3)
  have hsz : V0.heap.size = p0 + 1 + 1 + 1 := by rw [hV0, World.size_alloc, World.size_alloc, World.size_alloc, ← hp0]
  have HSZ := Lib.hid hsz
  have HP0 := Lib.hid hp0
  clear lb1 lb2 lb3 hsz
  unfold metV
  go_enter Tryz.func26, Tryz.ntmps26
  go_upto_region 1 with fail
  rw [← hp0, ← hV0]
  clear hp0 hV0
  go_cut [5, 6] (fun pv qv wx => ∃ q1 q2 : Nat, pv = .pointer (some ⟨q1, 0, none⟩) ∧ qv = .pointer (some ⟨q2, 0, none⟩) ∧ Hid (wx.heap[q1]? = some (.cells #[.int .i32 a0, .int .i32 a1, .int .i32 a2] 62 (0, 0))) ∧ Hid (wx.heap[q2]? = some (.cells #[.int .i64 b0, .int .i64 b1, .int .i64 b2] 63 (0, 0))) ∧ Hid (Below V0.heap.size V0 wx) ∧ Hid (V0.heap.size ≤ q1 ∧ V0.heap.size ≤ q2))
  case first =>
    have hS : V0.cell? ⟨p0 + 1, 1, none⟩ = some (.int .i32 a0) ∧ V0.cell? ⟨p0 + 1, 2, none⟩ = some (.int .i32 a1) ∧ V0.cell? ⟨p0 + 1, 3, none⟩ = some (.int .i32 a2) ∧ V0.cell? ⟨p0 + 1, 4, none⟩ = some (.int .i64 b0) ∧ V0.cell? ⟨p0 + 1, 5, none⟩ = some (.int .i64 b1) ∧ V0.cell? ⟨p0 + 1, 6, none⟩ = some (.int .i64 b2) := ⟨Lib.cell_of_heap HR0.out 1, Lib.cell_of_heap HR0.out 2, Lib.cell_of_heap HR0.out 3, Lib.cell_of_heap HR0.out 4, Lib.cell_of_heap HR0.out 5, Lib.cell_of_heap HR0.out 6⟩
    go_region_held3 (fun w' => w'.cell? ⟨p0 + 1, 1, none⟩ = some (.int .i32 a0) ∧ w'.cell? ⟨p0 + 1, 2, none⟩ = some (.int .i32 a1) ∧ w'.cell? ⟨p0 + 1, 3, none⟩ = some (.int .i32 a2) ∧ w'.cell? ⟨p0 + 1, 4, none⟩ = some (.int .i64 b0) ∧ w'.cell? ⟨p0 + 1, 5, none⟩ = some (.int .i64 b1) ∧ w'.cell? ⟨p0 + 1, 6, none⟩ = some (.int .i64 b2)) (first | go_keep | exact hS) (fail)
    all_goals go_wp2_with fail
    all_goals go_meet
    · exact ⟨_, _, rfl, rfl, Lib.hid (obj_keptW (below_alloc _ _).drew (obj_newW V0 _ rfl _ _)), Lib.hid (obj_newW _ _ (World.size_alloc _ _) _ _), Lib.hid (below_step (below_alloc _ _) (below_alloc _ _)).drew, Lib.hid ⟨Nat.le_refl _, Nat.le_succ _⟩⟩
    · exact ⟨_, _, rfl, rfl, Lib.hid (obj_newW _ _ (World.size_alloc _ _) _ _), Lib.hid (obj_keptW (below_alloc _ _).drew (obj_newW V0 _ rfl _ _)), Lib.hid (below_step (below_alloc _ _) (below_alloc _ _)).drew, Lib.hid ⟨Nat.le_succ _, Nat.le_refl _⟩⟩
  case rest =>
    obtain ⟨q1, q2, rfl, rfl, HQ1, HQ2, HBc, HQs⟩ := hcut
    have HMc := Lib.hid (obj_keptW HBc.out HM0.out)
    have HRc := Lib.hid (obj_keptW HBc.out HR0.out)
    have HZc := Lib.hid (obj_keptW HBc.out HZ0.out)
    have HBt := Lib.hid (below_step HB0.out HBc.out)
    have k0 := Lib.cell_of_heap HRc.out 0
    clear HM0 HR0 HZ0 HB0 HBc
    have e0 := Lib.cell_of_heap HMc.out 5
    have g0 := Lib.cell_of_heap HQ1.out 0
    have h0 := Lib.cell_of_heap HQ2.out 0
    have h1 := Lib.cell_of_heap HQ2.out 1
    have h2 := Lib.cell_of_heap HQ2.out 2
    have HOc := Lib.hid (own_monoW hown HBt.out)
    obtain ⟨WB, hWB⟩ : ∃ W, W = wc.alloc (.cells #[.int .i32 a0, .int .i64 b0, .int .i64 b1, .int .i64 b2] 38) := ⟨_, rfl⟩
    have hbB : Below wc.heap.size wc WB := by rw [hWB]; exact below_alloc _ _
    have HOB := Lib.hid (own_monoW HOc.out hbB)
    have HGB : Hid (WB.heap[wc.heap.size]? = some (.cells #[.int .i32 a0, .int .i64 b0, .int .i64 b1, .int .i64 b2] 38 (0, 0))) := Lib.hid (by rw [hWB]; exact obj_newW _ _ rfl _ _)
    have HMB := Lib.hid (obj_keptW hbB HMc.out)
    have HZB := Lib.hid (obj_keptW hbB HZc.out)
    have HBB := Lib.hid (below_step HBt.out hbB)
    have HnP := Lib.hid (own_offW HOB.out HMB.out (by decide))
    have HnZ := Lib.hid (own_offW HOB.out HZB.out (by decide))
    have hzB : B ≤ WB.heap.size := Nat.le_trans hB HBB.out.size
    clear hbB
    go_upto_region 13 with (rw [← hWB]; at_builtin; refine wpList_append_oneW Tryz.underlying24 infoChr7 rfl (by decide) rfl _ _ rfl B (.slice pc na cc) na _ [.int .i32 a0, .int .i64 b0, .int .i64 b1, .int .i64 b2] rfl HOB.out wc.heap.size rfl HGB.out rfl (fun z hz => by simp at hz; rcases hz with rfl | rfl | rfl | rfl <;> rfl) hlen (by omega) hzB ?_; intro g9 cap9 w9 h9 hg9; have HO9 := Lib.hid h9; have HM9 := Lib.hid (obj_farW HMB.out hg9 HnP.out); have HZ9 := Lib.hid (obj_farW HZB.out hg9 HnZ.out); have HG9 := Lib.hid hg9; have e9 := Lib.cell_of_heap HM9.out 5; have f9 := Lib.frozen_of_heap HM9.out 5; clear h9 hg9)
    obtain ⟨W1, hW1⟩ : ∃ W, W = w9.setCell ⟨p0, 5, none⟩ (.slice (some ⟨g9, 0, none⟩) (na + 1) cap9) := ⟨_, rfl⟩
    have HM1 : Hid (W1.heap[p0]? = some (.cells #[.int .i64 m.sw, .int .i64 m.st, .int .i64 m.sk, .int .i64 m.order, .int .i32 m.hyph, .slice (some ⟨g9, 0, none⟩) (na + 1) cap9, .slice pk nb ck, .slice pl nc cl] 28 (0, 0))) := Lib.hid (by rw [hW1]; exact heap_setCell_same _ _ 5 _ _ _ HM9.out)
    have HZ1 := Lib.hid (obj_setW (p := p0) (i := 5) (v := .slice (some ⟨g9, 0, none⟩) (na + 1) cap9) HZ9.out (by omega))
    have HO1 := Lib.hid (own_setW (i := 5) (y := .slice (some ⟨g9, 0, none⟩) (na + 1) cap9) HO9.out HM9.out (by decide))
    have HK1 : Hid (∀ (F s n : Nat) (u : Value) (ys : List Value), 38 ≠ F → 28 ≠ F → w.ownsRow B F s u n ys → W1.ownsRow B F s u n ys) := Lib.hid (fun F s n u ys h1 h2 h3 => by
      rw [hW1]
      have h4 := own_monoW h3 HBB.out
      exact own_setW (World.ownsRow.kept h4 HG9.out (rows_apartW h4 HOB.out (Ne.symm h1))) HM9.out h2)
    have HB1 : Hid (Below B w W1) := Lib.hid (by
      rw [hW1]
      exact ((HBB.out.mono hB).grown HG9.out hzB (fun q hq => (World.ownsRow.lt HOB.out q hq).1)).setCell (p := ⟨p0, 5, none⟩) (by show B ≤ p0; have := HP0.out; omega) _)
    rw [← hW1] at HZ1 HO1 ⊢
    clear hW1 e0 g0 h0 h1 h2 k0 e9 f9 HMc HZc HRc HO9 HM9 HZ9 HG9
    have e0 := Lib.cell_of_heap HM1.out 0
    have e1 := Lib.cell_of_heap HM1.out 1
    have e2 := Lib.cell_of_heap HM1.out 2
    have e3 := Lib.cell_of_heap HM1.out 3
    have e4 := Lib.cell_of_heap HM1.out 4
    have e5 := Lib.cell_of_heap HM1.out 5
    have e6 := Lib.cell_of_heap HM1.out 6
    have e7 := Lib.cell_of_heap HM1.out 7
    have c0 := Lib.cell_of_heap HZ1.out 0
    have c1 := Lib.cell_of_heap HZ1.out 1
    have c2 := Lib.cell_of_heap HZ1.out 2
    have c3 := Lib.cell_of_heap HZ1.out 3
    have c4 := Lib.cell_of_heap HZ1.out 4
    have c5 := Lib.cell_of_heap HZ1.out 5
    have c6 := Lib.cell_of_heap HZ1.out 6
    have c7 := Lib.cell_of_heap HZ1.out 7
    have d0 := Lib.frozen_of_heap HZ1.out 0
    have d1 := Lib.frozen_of_heap HZ1.out 1
    have d2 := Lib.frozen_of_heap HZ1.out 2
    have d3 := Lib.frozen_of_heap HZ1.out 3
    have d4 := Lib.frozen_of_heap HZ1.out 4
    have d5 := Lib.frozen_of_heap HZ1.out 5
    have d6 := Lib.frozen_of_heap HZ1.out 6
    have d7 := Lib.frozen_of_heap HZ1.out 7
    have HQ := Lib.hid (set8 W1 (p0 + 1 + 1) (.int .i64 m.sw) (.int .i64 m.st) (.int .i64 m.sk) (.int .i64 m.order) (.int .i32 m.hyph) (.slice (some ⟨g9, 0, none⟩) (na + 1) cap9) (.slice pk nb ck) (.slice pl nc cl) HZ1.out)
    go_wp2
    obtain ⟨W, hW⟩ : ∃ W, W = (((((((W1.setCell ⟨p0 + 1 + 1, 0, none⟩ (.int .i64 m.sw)).setCell ⟨p0 + 1 + 1, 1, none⟩ (.int .i64 m.st)).setCell ⟨p0 + 1 + 1, 2, none⟩ (.int .i64 m.sk)).setCell ⟨p0 + 1 + 1, 3, none⟩ (.int .i64 m.order)).setCell ⟨p0 + 1 + 1, 4, none⟩ (.int .i32 m.hyph)).setCell ⟨p0 + 1 + 1, 5, none⟩ (.slice (some ⟨g9, 0, none⟩) (na + 1) cap9)).setCell ⟨p0 + 1 + 1, 6, none⟩ (.slice pk nb ck)).setCell ⟨p0 + 1 + 1, 7, none⟩ (.slice pl nc cl) := ⟨_, rfl⟩
    rw [← hW] at HQ ⊢
    clear hW
    have s0 := Lib.cell_of_heap HQ.out.1 0
    have s1 := Lib.cell_of_heap HQ.out.1 1
    have s2 := Lib.cell_of_heap HQ.out.1 2
    have s3 := Lib.cell_of_heap HQ.out.1 3
    have s4 := Lib.cell_of_heap HQ.out.1 4
    have s5 := Lib.cell_of_heap HQ.out.1 5
    have s6 := Lib.cell_of_heap HQ.out.1 6
    have s7 := Lib.cell_of_heap HQ.out.1 7
    have hBf : Below B W1 W := HQ.out.2.1 _ (by have := HP0.out; omega)
    exact bodyPost_ret (v := .agg #[.int .i64 m.sw, .int .i64 m.st, .int .i64 m.sk, .int .i64 m.order, .int .i32 m.hyph, .slice (some ⟨g9, 0, none⟩) (na + 1) cap9, .slice pk nb ck, .slice pl nc cl]) (by simp [results, Tryz.results26, go_sem, s0, s1, s2, s3, s4, s5, s6, s7]) rfl ⟨g9, cap9, rfl, HQ.out.2.2.2 _ _ _ _ _ _ (by decide) HO1.out, fun F s n u ys h1 h2 h3 => HQ.out.2.2.2 _ _ _ _ _ _ h2 (HK1.out F s n u ys h1 h2 h3), HB1.out.trans hBf⟩

set_option maxHeartbeats 8000000 in
set_option maxRecDepth 100000 in
theorem refWith3 (B : Nat) (m : Mt.Tab) (a0 a1 a2 b0 b1 b2 : Int) (pc pk pl : Option Addr) (na nb nc cc ck cl : Nat) (xs : List Value) (w : World) (hB : B ≤ w.heap.size) (hlen : nb + 1 ≤ 1000000000) (hown : w.ownsRow B 52 3 (.slice pk nb ck) nb xs) : Calls Tryz.prog 26 #[metV m (.slice pc na cc) (.slice pk nb ck) (.slice pl nc cl), .agg #[.int .i64 3, .int .i32 a0, .int .i32 a1, .int .i32 a2, .int .i64 b0, .int .i64 b1, .int .i64 b2]] w (fun e w' => ∃ g cap, e = .returned (.agg #[.int .i64 m.sw, .int .i64 m.st, .int .i64 m.sk, .int .i64 m.order, .int .i32 m.hyph, .slice pc na cc, .slice (some ⟨g, 0, none⟩) (nb + 1) cap, .slice pl nc cl]) ∧
    w'.ownsRow B 52 3 (.slice (some ⟨g, 0, none⟩) (nb + 1) cap) (nb + 1) (xs ++ [.int .i32 a0, .int .i32 a1, .int .i64 b0]) ∧ (∀ (F s n : Nat) (u : Value) (ys : List Value), 52 ≠ F → 28 ≠ F → w.ownsRow B F s u n ys → w'.ownsRow B F s u n ys) ∧ Below B w w') := by
  obtain ⟨p0, hp0⟩ : ∃ p, p = w.heap.size := ⟨_, rfl⟩
  obtain ⟨V0, hV0⟩ : ∃ W, W = ((w.alloc (.cells #[.int .i64 m.sw, .int .i64 m.st, .int .i64 m.sk, .int .i64 m.order, .int .i32 m.hyph, .slice pc na cc, .slice pk nb ck, .slice pl nc cl] 28)).alloc (.cells #[.int .i64 3, .int .i32 a0, .int .i32 a1, .int .i32 a2, .int .i64 b0, .int .i64 b1, .int .i64 b2] 65)).alloc (.cells #[.int .i64 0, .int .i64 0, .int .i64 0, .int .i64 0, .int .i32 0, .slice none 0 0, .slice none 0 0, .slice none 0 0] 28) := ⟨_, rfl⟩
  have lb1 := below_alloc w (.cells #[.int .i64 m.sw, .int .i64 m.st, .int .i64 m.sk, .int .i64 m.order, .int .i32 m.hyph, .slice pc na cc, .slice pk nb ck, .slice pl nc cl] 28)
  have lb2 := below_alloc (w.alloc (.cells #[.int .i64 m.sw, .int .i64 m.st, .int .i64 m.sk, .int .i64 m.order, .int .i32 m.hyph, .slice pc na cc, .slice pk nb ck, .slice pl nc cl] 28)) (.cells #[.int .i64 3, .int .i32 a0, .int .i32 a1, .int .i32 a2, .int .i64 b0, .int .i64 b1, .int .i64 b2] 65)
  have lb3 := below_alloc ((w.alloc (.cells #[.int .i64 m.sw, .int .i64 m.st, .int .i64 m.sk, .int .i64 m.order, .int .i32 m.hyph, .slice pc na cc, .slice pk nb ck, .slice pl nc cl] 28)).alloc (.cells #[.int .i64 3, .int .i32 a0, .int .i32 a1, .int .i32 a2, .int .i64 b0, .int .i64 b1, .int .i64 b2] 65)) (.cells #[.int .i64 0, .int .i64 0, .int .i64 0, .int .i64 0, .int .i32 0, .slice none 0 0, .slice none 0 0, .slice none 0 0] 28)
  have HM0 : Hid (V0.heap[p0]? = some (.cells #[.int .i64 m.sw, .int .i64 m.st, .int .i64 m.sk, .int .i64 m.order, .int .i32 m.hyph, .slice pc na cc, .slice pk nb ck, .slice pl nc cl] 28 (0, 0))) := Lib.hid (by rw [hV0]; exact obj_keptW lb3 (obj_keptW lb2 (obj_newW w _ hp0.symm _ _)))
  have HR0 : Hid (V0.heap[p0 + 1]? = some (.cells #[.int .i64 3, .int .i32 a0, .int .i32 a1, .int .i32 a2, .int .i64 b0, .int .i64 b1, .int .i64 b2] 65 (0, 0))) := Lib.hid (by rw [hV0]; exact obj_keptW lb3 (obj_newW _ _ (by rw [World.size_alloc, ← hp0]) _ _))
  have HZ0 : Hid (V0.heap[p0 + 1 + 1]? = some (.cells #[.int .i64 0, .int .i64 0, .int .i64 0, .int .i64 0, .int .i32 0, .slice none 0 0, .slice none 0 0, .slice none 0 0] 28 (0, 0))) := Lib.hid (by rw [hV0]; exact obj_newW _ _ (by rw [World.size_alloc, World.size_alloc, ← hp0]) _ _)
  have HB0 : Hid (Below w.heap.size w V0) := Lib.hid (by rw [hV0]; exact below_step (below_step lb1 lb2) lb3)
  have hsz : V0.heap.size = p0 + 1 + 1 + 1 := by rw [hV0, World.size_alloc, World.size_alloc, World.size_alloc, ← hp0]
  have HSZ := Lib.hid hsz
  have HP0 := Lib.hid hp0
  clear lb1 lb2 lb3 hsz
  unfold metV
  go_enter Tryz.func26, Tryz.ntmps26
  go_upto_region 1 with fail
  rw [← hp0, ← hV0]
  clear hp0 hV0
  go_cut [5, 6] (fun pv qv wx => ∃ q1 q2 : Nat, pv = .pointer (some ⟨q1, 0, none⟩) ∧ qv = .pointer (some ⟨q2, 0, none⟩) ∧ Hid (wx.heap[q1]? = some (.cells #[.int .i32 a0, .int .i32 a1, .int .i32 a2] 62 (0, 0))) ∧ Hid (wx.heap[q2]? = some (.cells #[.int .i64 b0, .int .i64 b1, .int .i64 b2] 63 (0, 0))) ∧ Hid (Below V0.heap.size V0 wx) ∧ Hid (V0.heap.size ≤ q1 ∧ V0.heap.size ≤ q2))
  case first =>
    have hS : V0.cell? ⟨p0 + 1, 1, none⟩ = some (.int .i32 a0) ∧ V0.cell? ⟨p0 + 1, 2, none⟩ = some (.int .i32 a1) ∧ V0.cell? ⟨p0 + 1, 3, none⟩ = some (.int .i32 a2) ∧ V0.cell? ⟨p0 + 1, 4, none⟩ = some (.int .i64 b0) ∧ V0.cell? ⟨p0 + 1, 5, none⟩ = some (.int .i64 b1) ∧ V0.cell? ⟨p0 + 1, 6, none⟩ = some (.int .i64 b2) := ⟨Lib.cell_of_heap HR0.out 1, Lib.cell_of_heap HR0.out 2, Lib.cell_of_heap HR0.out 3, Lib.cell_of_heap HR0.out 4, Lib.cell_of_heap HR0.out 5, Lib.cell_of_heap HR0.out 6⟩
    go_region_held3 (fun w' => w'.cell? ⟨p0 + 1, 1, none⟩ = some (.int .i32 a0) ∧ w'.cell? ⟨p0 + 1, 2, none⟩ = some (.int .i32 a1) ∧ w'.cell? ⟨p0 + 1, 3, none⟩ = some (.int .i32 a2) ∧ w'.cell? ⟨p0 + 1, 4, none⟩ = some (.int .i64 b0) ∧ w'.cell? ⟨p0 + 1, 5, none⟩ = some (.int .i64 b1) ∧ w'.cell? ⟨p0 + 1, 6, none⟩ = some (.int .i64 b2)) (first | go_keep | exact hS) (fail)
    all_goals go_wp2_with fail
    all_goals go_meet
    · exact ⟨_, _, rfl, rfl, Lib.hid (obj_keptW (below_alloc _ _).drew (obj_newW V0 _ rfl _ _)), Lib.hid (obj_newW _ _ (World.size_alloc _ _) _ _), Lib.hid (below_step (below_alloc _ _) (below_alloc _ _)).drew, Lib.hid ⟨Nat.le_refl _, Nat.le_succ _⟩⟩
    · exact ⟨_, _, rfl, rfl, Lib.hid (obj_newW _ _ (World.size_alloc _ _) _ _), Lib.hid (obj_keptW (below_alloc _ _).drew (obj_newW V0 _ rfl _ _)), Lib.hid (below_step (below_alloc _ _) (below_alloc _ _)).drew, Lib.hid ⟨Nat.le_succ _, Nat.le_refl _⟩⟩
  case rest =>
    obtain ⟨q1, q2, rfl, rfl, HQ1, HQ2, HBc, HQs⟩ := hcut
    have HMc := Lib.hid (obj_keptW HBc.out HM0.out)
    have HRc := Lib.hid (obj_keptW HBc.out HR0.out)
    have HZc := Lib.hid (obj_keptW HBc.out HZ0.out)
    have HBt := Lib.hid (below_step HB0.out HBc.out)
    have k0 := Lib.cell_of_heap HRc.out 0
    clear HM0 HR0 HZ0 HB0 HBc
    have e0 := Lib.cell_of_heap HMc.out 6
    have g0 := Lib.cell_of_heap HQ1.out 0
    have g1 := Lib.cell_of_heap HQ1.out 1
    have h0 := Lib.cell_of_heap HQ2.out 0
    have HOc := Lib.hid (own_monoW hown HBt.out)
    obtain ⟨WB, hWB⟩ : ∃ W, W = wc.alloc (.cells #[.int .i32 a0, .int .i32 a1, .int .i64 b0] 52) := ⟨_, rfl⟩
    have hbB : Below wc.heap.size wc WB := by rw [hWB]; exact below_alloc _ _
    have HOB := Lib.hid (own_monoW HOc.out hbB)
    have HGB : Hid (WB.heap[wc.heap.size]? = some (.cells #[.int .i32 a0, .int .i32 a1, .int .i64 b0] 52 (0, 0))) := Lib.hid (by rw [hWB]; exact obj_newW _ _ rfl _ _)
    have HMB := Lib.hid (obj_keptW hbB HMc.out)
    have HZB := Lib.hid (obj_keptW hbB HZc.out)
    have HBB := Lib.hid (below_step HBt.out hbB)
    have HnP := Lib.hid (own_offW HOB.out HMB.out (by decide))
    have HnZ := Lib.hid (own_offW HOB.out HZB.out (by decide))
    have hzB : B ≤ WB.heap.size := Nat.le_trans hB HBB.out.size
    clear hbB
    go_upto_region 13 with (rw [← hWB]; at_builtin; refine wpList_append_oneW Tryz.underlying25 infoKrn7 rfl (by decide) rfl _ _ rfl B (.slice pk nb ck) nb _ [.int .i32 a0, .int .i32 a1, .int .i64 b0] rfl HOB.out wc.heap.size rfl HGB.out rfl (fun z hz => by simp at hz; rcases hz with rfl | rfl | rfl <;> rfl) hlen (by omega) hzB ?_; intro g9 cap9 w9 h9 hg9; have HO9 := Lib.hid h9; have HM9 := Lib.hid (obj_farW HMB.out hg9 HnP.out); have HZ9 := Lib.hid (obj_farW HZB.out hg9 HnZ.out); have HG9 := Lib.hid hg9; have e9 := Lib.cell_of_heap HM9.out 6; have f9 := Lib.frozen_of_heap HM9.out 6; clear h9 hg9)
    obtain ⟨W1, hW1⟩ : ∃ W, W = w9.setCell ⟨p0, 6, none⟩ (.slice (some ⟨g9, 0, none⟩) (nb + 1) cap9) := ⟨_, rfl⟩
    have HM1 : Hid (W1.heap[p0]? = some (.cells #[.int .i64 m.sw, .int .i64 m.st, .int .i64 m.sk, .int .i64 m.order, .int .i32 m.hyph, .slice pc na cc, .slice (some ⟨g9, 0, none⟩) (nb + 1) cap9, .slice pl nc cl] 28 (0, 0))) := Lib.hid (by rw [hW1]; exact heap_setCell_same _ _ 6 _ _ _ HM9.out)
    have HZ1 := Lib.hid (obj_setW (p := p0) (i := 6) (v := .slice (some ⟨g9, 0, none⟩) (nb + 1) cap9) HZ9.out (by omega))
    have HO1 := Lib.hid (own_setW (i := 6) (y := .slice (some ⟨g9, 0, none⟩) (nb + 1) cap9) HO9.out HM9.out (by decide))
    have HK1 : Hid (∀ (F s n : Nat) (u : Value) (ys : List Value), 52 ≠ F → 28 ≠ F → w.ownsRow B F s u n ys → W1.ownsRow B F s u n ys) := Lib.hid (fun F s n u ys h1 h2 h3 => by
      rw [hW1]
      have h4 := own_monoW h3 HBB.out
      exact own_setW (World.ownsRow.kept h4 HG9.out (rows_apartW h4 HOB.out (Ne.symm h1))) HM9.out h2)
    have HB1 : Hid (Below B w W1) := Lib.hid (by
      rw [hW1]
      exact ((HBB.out.mono hB).grown HG9.out hzB (fun q hq => (World.ownsRow.lt HOB.out q hq).1)).setCell (p := ⟨p0, 6, none⟩) (by show B ≤ p0; have := HP0.out; omega) _)
    rw [← hW1] at HZ1 HO1 ⊢
    clear hW1 e0 g0 g1 h0 k0 e9 f9 HMc HZc HRc HO9 HM9 HZ9 HG9
    have e0 := Lib.cell_of_heap HM1.out 0
    have e1 := Lib.cell_of_heap HM1.out 1
    have e2 := Lib.cell_of_heap HM1.out 2
    have e3 := Lib.cell_of_heap HM1.out 3
    have e4 := Lib.cell_of_heap HM1.out 4
    have e5 := Lib.cell_of_heap HM1.out 5
    have e6 := Lib.cell_of_heap HM1.out 6
    have e7 := Lib.cell_of_heap HM1.out 7
    have c0 := Lib.cell_of_heap HZ1.out 0
    have c1 := Lib.cell_of_heap HZ1.out 1
    have c2 := Lib.cell_of_heap HZ1.out 2
    have c3 := Lib.cell_of_heap HZ1.out 3
    have c4 := Lib.cell_of_heap HZ1.out 4
    have c5 := Lib.cell_of_heap HZ1.out 5
    have c6 := Lib.cell_of_heap HZ1.out 6
    have c7 := Lib.cell_of_heap HZ1.out 7
    have d0 := Lib.frozen_of_heap HZ1.out 0
    have d1 := Lib.frozen_of_heap HZ1.out 1
    have d2 := Lib.frozen_of_heap HZ1.out 2
    have d3 := Lib.frozen_of_heap HZ1.out 3
    have d4 := Lib.frozen_of_heap HZ1.out 4
    have d5 := Lib.frozen_of_heap HZ1.out 5
    have d6 := Lib.frozen_of_heap HZ1.out 6
    have d7 := Lib.frozen_of_heap HZ1.out 7
    have HQ := Lib.hid (set8 W1 (p0 + 1 + 1) (.int .i64 m.sw) (.int .i64 m.st) (.int .i64 m.sk) (.int .i64 m.order) (.int .i32 m.hyph) (.slice pc na cc) (.slice (some ⟨g9, 0, none⟩) (nb + 1) cap9) (.slice pl nc cl) HZ1.out)
    go_wp2
    obtain ⟨W, hW⟩ : ∃ W, W = (((((((W1.setCell ⟨p0 + 1 + 1, 0, none⟩ (.int .i64 m.sw)).setCell ⟨p0 + 1 + 1, 1, none⟩ (.int .i64 m.st)).setCell ⟨p0 + 1 + 1, 2, none⟩ (.int .i64 m.sk)).setCell ⟨p0 + 1 + 1, 3, none⟩ (.int .i64 m.order)).setCell ⟨p0 + 1 + 1, 4, none⟩ (.int .i32 m.hyph)).setCell ⟨p0 + 1 + 1, 5, none⟩ (.slice pc na cc)).setCell ⟨p0 + 1 + 1, 6, none⟩ (.slice (some ⟨g9, 0, none⟩) (nb + 1) cap9)).setCell ⟨p0 + 1 + 1, 7, none⟩ (.slice pl nc cl) := ⟨_, rfl⟩
    rw [← hW] at HQ ⊢
    clear hW
    have s0 := Lib.cell_of_heap HQ.out.1 0
    have s1 := Lib.cell_of_heap HQ.out.1 1
    have s2 := Lib.cell_of_heap HQ.out.1 2
    have s3 := Lib.cell_of_heap HQ.out.1 3
    have s4 := Lib.cell_of_heap HQ.out.1 4
    have s5 := Lib.cell_of_heap HQ.out.1 5
    have s6 := Lib.cell_of_heap HQ.out.1 6
    have s7 := Lib.cell_of_heap HQ.out.1 7
    have hBf : Below B W1 W := HQ.out.2.1 _ (by have := HP0.out; omega)
    exact bodyPost_ret (v := .agg #[.int .i64 m.sw, .int .i64 m.st, .int .i64 m.sk, .int .i64 m.order, .int .i32 m.hyph, .slice pc na cc, .slice (some ⟨g9, 0, none⟩) (nb + 1) cap9, .slice pl nc cl]) (by simp [results, Tryz.results26, go_sem, s0, s1, s2, s3, s4, s5, s6, s7]) rfl ⟨g9, cap9, rfl, HQ.out.2.2.2 _ _ _ _ _ _ (by decide) HO1.out, fun F s n u ys h1 h2 h3 => HQ.out.2.2.2 _ _ _ _ _ _ h2 (HK1.out F s n u ys h1 h2 h3), HB1.out.trans hBf⟩

set_option maxHeartbeats 8000000 in
set_option maxRecDepth 100000 in
theorem refWith4 (B : Nat) (m : Mt.Tab) (a0 a1 a2 b0 b1 b2 : Int) (pc pk pl : Option Addr) (na nb nc cc ck cl : Nat) (xs : List Value) (w : World) (hB : B ≤ w.heap.size) (hlen : nc + 1 ≤ 1000000000) (hown : w.ownsRow B 54 3 (.slice pl nc cl) nc xs) : Calls Tryz.prog 26 #[metV m (.slice pc na cc) (.slice pk nb ck) (.slice pl nc cl), .agg #[.int .i64 4, .int .i32 a0, .int .i32 a1, .int .i32 a2, .int .i64 b0, .int .i64 b1, .int .i64 b2]] w (fun e w' => ∃ g cap, e = .returned (.agg #[.int .i64 m.sw, .int .i64 m.st, .int .i64 m.sk, .int .i64 m.order, .int .i32 m.hyph, .slice pc na cc, .slice pk nb ck, .slice (some ⟨g, 0, none⟩) (nc + 1) cap]) ∧
    w'.ownsRow B 54 3 (.slice (some ⟨g, 0, none⟩) (nc + 1) cap) (nc + 1) (xs ++ [.int .i32 a0, .int .i32 a1, .int .i32 a2]) ∧ (∀ (F s n : Nat) (u : Value) (ys : List Value), 54 ≠ F → 28 ≠ F → w.ownsRow B F s u n ys → w'.ownsRow B F s u n ys) ∧ Below B w w') := by
  obtain ⟨p0, hp0⟩ : ∃ p, p = w.heap.size := ⟨_, rfl⟩
  obtain ⟨V0, hV0⟩ : ∃ W, W = ((w.alloc (.cells #[.int .i64 m.sw, .int .i64 m.st, .int .i64 m.sk, .int .i64 m.order, .int .i32 m.hyph, .slice pc na cc, .slice pk nb ck, .slice pl nc cl] 28)).alloc (.cells #[.int .i64 4, .int .i32 a0, .int .i32 a1, .int .i32 a2, .int .i64 b0, .int .i64 b1, .int .i64 b2] 65)).alloc (.cells #[.int .i64 0, .int .i64 0, .int .i64 0, .int .i64 0, .int .i32 0, .slice none 0 0, .slice none 0 0, .slice none 0 0] 28) := ⟨_, rfl⟩
  have lb1 := below_alloc w (.cells #[.int .i64 m.sw, .int .i64 m.st, .int .i64 m.sk, .int .i64 m.order, .int .i32 m.hyph, .slice pc na cc, .slice pk nb ck, .slice pl nc cl] 28)
  have lb2 := below_alloc (w.alloc (.cells #[.int .i64 m.sw, .int .i64 m.st, .int .i64 m.sk, .int .i64 m.order, .int .i32 m.hyph, .slice pc na cc, .slice pk nb ck, .slice pl nc cl] 28)) (.cells #[.int .i64 4, .int .i32 a0, .int .i32 a1, .int .i32 a2, .int .i64 b0, .int .i64 b1, .int .i64 b2] 65)
  have lb3 := below_alloc ((w.alloc (.cells #[.int .i64 m.sw, .int .i64 m.st, .int .i64 m.sk, .int .i64 m.order, .int .i32 m.hyph, .slice pc na cc, .slice pk nb ck, .slice pl nc cl] 28)).alloc (.cells #[.int .i64 4, .int .i32 a0, .int .i32 a1, .int .i32 a2, .int .i64 b0, .int .i64 b1, .int .i64 b2] 65)) (.cells #[.int .i64 0, .int .i64 0, .int .i64 0, .int .i64 0, .int .i32 0, .slice none 0 0, .slice none 0 0, .slice none 0 0] 28)
  have HM0 : Hid (V0.heap[p0]? = some (.cells #[.int .i64 m.sw, .int .i64 m.st, .int .i64 m.sk, .int .i64 m.order, .int .i32 m.hyph, .slice pc na cc, .slice pk nb ck, .slice pl nc cl] 28 (0, 0))) := Lib.hid (by rw [hV0]; exact obj_keptW lb3 (obj_keptW lb2 (obj_newW w _ hp0.symm _ _)))
  have HR0 : Hid (V0.heap[p0 + 1]? = some (.cells #[.int .i64 4, .int .i32 a0, .int .i32 a1, .int .i32 a2, .int .i64 b0, .int .i64 b1, .int .i64 b2] 65 (0, 0))) := Lib.hid (by rw [hV0]; exact obj_keptW lb3 (obj_newW _ _ (by rw [World.size_alloc, ← hp0]) _ _))
  have HZ0 : Hid (V0.heap[p0 + 1 + 1]? = some (.cells #[.int .i64 0, .int .i64 0, .int .i64 0, .int .i64 0, .int .i32 0, .slice none 0 0, .slice none 0 0, .slice none 0 0] 28 (0, 0))) := Lib.hid (by rw [hV0]; exact obj_newW _ _ (by rw [World.size_alloc, World.size_alloc, ← hp0]) _ _)
  have HB0 : Hid (Below w.heap.size w V0) := Lib.hid (by rw [hV0]; exact below_step (below_step lb1 lb2) lb3)
  have hsz : V0.heap.size = p0 + 1 + 1 + 1 := by rw [hV0, World.size_alloc, World.size_alloc, World.size_alloc, ← hp0]
  have HSZ := Lib.hid hsz
  have HP0 := Lib.hid hp0
  clear lb1 lb2 lb3 hsz
  unfold metV
  go_enter Tryz.func26, Tryz.ntmps26
  go_upto_region 1 with fail
  rw [← hp0, ← hV0]
  clear hp0 hV0
  go_cut [5, 6] (fun pv qv wx => ∃ q1 q2 : Nat, pv = .pointer (some ⟨q1, 0, none⟩) ∧ qv = .pointer (some ⟨q2, 0, none⟩) ∧ Hid (wx.heap[q1]? = some (.cells #[.int .i32 a0, .int .i32 a1, .int .i32 a2] 62 (0, 0))) ∧ Hid (wx.heap[q2]? = some (.cells #[.int .i64 b0, .int .i64 b1, .int .i64 b2] 63 (0, 0))) ∧ Hid (Below V0.heap.size V0 wx) ∧ Hid (V0.heap.size ≤ q1 ∧ V0.heap.size ≤ q2))
  case first =>
    have hS : V0.cell? ⟨p0 + 1, 1, none⟩ = some (.int .i32 a0) ∧ V0.cell? ⟨p0 + 1, 2, none⟩ = some (.int .i32 a1) ∧ V0.cell? ⟨p0 + 1, 3, none⟩ = some (.int .i32 a2) ∧ V0.cell? ⟨p0 + 1, 4, none⟩ = some (.int .i64 b0) ∧ V0.cell? ⟨p0 + 1, 5, none⟩ = some (.int .i64 b1) ∧ V0.cell? ⟨p0 + 1, 6, none⟩ = some (.int .i64 b2) := ⟨Lib.cell_of_heap HR0.out 1, Lib.cell_of_heap HR0.out 2, Lib.cell_of_heap HR0.out 3, Lib.cell_of_heap HR0.out 4, Lib.cell_of_heap HR0.out 5, Lib.cell_of_heap HR0.out 6⟩
    go_region_held3 (fun w' => w'.cell? ⟨p0 + 1, 1, none⟩ = some (.int .i32 a0) ∧ w'.cell? ⟨p0 + 1, 2, none⟩ = some (.int .i32 a1) ∧ w'.cell? ⟨p0 + 1, 3, none⟩ = some (.int .i32 a2) ∧ w'.cell? ⟨p0 + 1, 4, none⟩ = some (.int .i64 b0) ∧ w'.cell? ⟨p0 + 1, 5, none⟩ = some (.int .i64 b1) ∧ w'.cell? ⟨p0 + 1, 6, none⟩ = some (.int .i64 b2)) (first | go_keep | exact hS) (fail)
    all_goals go_wp2_with fail
    all_goals go_meet
    · exact ⟨_, _, rfl, rfl, Lib.hid (obj_keptW (below_alloc _ _).drew (obj_newW V0 _ rfl _ _)), Lib.hid (obj_newW _ _ (World.size_alloc _ _) _ _), Lib.hid (below_step (below_alloc _ _) (below_alloc _ _)).drew, Lib.hid ⟨Nat.le_refl _, Nat.le_succ _⟩⟩
    · exact ⟨_, _, rfl, rfl, Lib.hid (obj_newW _ _ (World.size_alloc _ _) _ _), Lib.hid (obj_keptW (below_alloc _ _).drew (obj_newW V0 _ rfl _ _)), Lib.hid (below_step (below_alloc _ _) (below_alloc _ _)).drew, Lib.hid ⟨Nat.le_succ _, Nat.le_refl _⟩⟩
  case rest =>
    obtain ⟨q1, q2, rfl, rfl, HQ1, HQ2, HBc, HQs⟩ := hcut
    have HMc := Lib.hid (obj_keptW HBc.out HM0.out)
    have HRc := Lib.hid (obj_keptW HBc.out HR0.out)
    have HZc := Lib.hid (obj_keptW HBc.out HZ0.out)
    have HBt := Lib.hid (below_step HB0.out HBc.out)
    have k0 := Lib.cell_of_heap HRc.out 0
    clear HM0 HR0 HZ0 HB0 HBc
    have e0 := Lib.cell_of_heap HMc.out 7
    have g0 := Lib.cell_of_heap HQ1.out 0
    have g1 := Lib.cell_of_heap HQ1.out 1
    have g2 := Lib.cell_of_heap HQ1.out 2
    have HOc := Lib.hid (own_monoW hown HBt.out)
    obtain ⟨WB, hWB⟩ : ∃ W, W = wc.alloc (.cells #[.int .i32 a0, .int .i32 a1, .int .i32 a2] 54) := ⟨_, rfl⟩
    have hbB : Below wc.heap.size wc WB := by rw [hWB]; exact below_alloc _ _
    have HOB := Lib.hid (own_monoW HOc.out hbB)
    have HGB : Hid (WB.heap[wc.heap.size]? = some (.cells #[.int .i32 a0, .int .i32 a1, .int .i32 a2] 54 (0, 0))) := Lib.hid (by rw [hWB]; exact obj_newW _ _ rfl _ _)
    have HMB := Lib.hid (obj_keptW hbB HMc.out)
    have HZB := Lib.hid (obj_keptW hbB HZc.out)
    have HBB := Lib.hid (below_step HBt.out hbB)
    have HnP := Lib.hid (own_offW HOB.out HMB.out (by decide))
    have HnZ := Lib.hid (own_offW HOB.out HZB.out (by decide))
    have hzB : B ≤ WB.heap.size := Nat.le_trans hB HBB.out.size
    clear hbB
    go_upto_region 13 with (rw [← hWB]; at_builtin; refine wpList_append_oneW Tryz.underlying26 infoLig7 rfl (by decide) rfl _ _ rfl B (.slice pl nc cl) nc _ [.int .i32 a0, .int .i32 a1, .int .i32 a2] rfl HOB.out wc.heap.size rfl HGB.out rfl (fun z hz => by simp at hz; rcases hz with rfl | rfl | rfl <;> rfl) hlen (by omega) hzB ?_; intro g9 cap9 w9 h9 hg9; have HO9 := Lib.hid h9; have HM9 := Lib.hid (obj_farW HMB.out hg9 HnP.out); have HZ9 := Lib.hid (obj_farW HZB.out hg9 HnZ.out); have HG9 := Lib.hid hg9; have e9 := Lib.cell_of_heap HM9.out 7; have f9 := Lib.frozen_of_heap HM9.out 7; clear h9 hg9)
    obtain ⟨W1, hW1⟩ : ∃ W, W = w9.setCell ⟨p0, 7, none⟩ (.slice (some ⟨g9, 0, none⟩) (nc + 1) cap9) := ⟨_, rfl⟩
    have HM1 : Hid (W1.heap[p0]? = some (.cells #[.int .i64 m.sw, .int .i64 m.st, .int .i64 m.sk, .int .i64 m.order, .int .i32 m.hyph, .slice pc na cc, .slice pk nb ck, .slice (some ⟨g9, 0, none⟩) (nc + 1) cap9] 28 (0, 0))) := Lib.hid (by rw [hW1]; exact heap_setCell_same _ _ 7 _ _ _ HM9.out)
    have HZ1 := Lib.hid (obj_setW (p := p0) (i := 7) (v := .slice (some ⟨g9, 0, none⟩) (nc + 1) cap9) HZ9.out (by omega))
    have HO1 := Lib.hid (own_setW (i := 7) (y := .slice (some ⟨g9, 0, none⟩) (nc + 1) cap9) HO9.out HM9.out (by decide))
    have HK1 : Hid (∀ (F s n : Nat) (u : Value) (ys : List Value), 54 ≠ F → 28 ≠ F → w.ownsRow B F s u n ys → W1.ownsRow B F s u n ys) := Lib.hid (fun F s n u ys h1 h2 h3 => by
      rw [hW1]
      have h4 := own_monoW h3 HBB.out
      exact own_setW (World.ownsRow.kept h4 HG9.out (rows_apartW h4 HOB.out (Ne.symm h1))) HM9.out h2)
    have HB1 : Hid (Below B w W1) := Lib.hid (by
      rw [hW1]
      exact ((HBB.out.mono hB).grown HG9.out hzB (fun q hq => (World.ownsRow.lt HOB.out q hq).1)).setCell (p := ⟨p0, 7, none⟩) (by show B ≤ p0; have := HP0.out; omega) _)
    rw [← hW1] at HZ1 HO1 ⊢
    clear hW1 e0 g0 g1 g2 k0 e9 f9 HMc HZc HRc HO9 HM9 HZ9 HG9
    have e0 := Lib.cell_of_heap HM1.out 0
    have e1 := Lib.cell_of_heap HM1.out 1
    have e2 := Lib.cell_of_heap HM1.out 2
    have e3 := Lib.cell_of_heap HM1.out 3
    have e4 := Lib.cell_of_heap HM1.out 4
    have e5 := Lib.cell_of_heap HM1.out 5
    have e6 := Lib.cell_of_heap HM1.out 6
    have e7 := Lib.cell_of_heap HM1.out 7
    have c0 := Lib.cell_of_heap HZ1.out 0
    have c1 := Lib.cell_of_heap HZ1.out 1
    have c2 := Lib.cell_of_heap HZ1.out 2
    have c3 := Lib.cell_of_heap HZ1.out 3
    have c4 := Lib.cell_of_heap HZ1.out 4
    have c5 := Lib.cell_of_heap HZ1.out 5
    have c6 := Lib.cell_of_heap HZ1.out 6
    have c7 := Lib.cell_of_heap HZ1.out 7
    have d0 := Lib.frozen_of_heap HZ1.out 0
    have d1 := Lib.frozen_of_heap HZ1.out 1
    have d2 := Lib.frozen_of_heap HZ1.out 2
    have d3 := Lib.frozen_of_heap HZ1.out 3
    have d4 := Lib.frozen_of_heap HZ1.out 4
    have d5 := Lib.frozen_of_heap HZ1.out 5
    have d6 := Lib.frozen_of_heap HZ1.out 6
    have d7 := Lib.frozen_of_heap HZ1.out 7
    have HQ := Lib.hid (set8 W1 (p0 + 1 + 1) (.int .i64 m.sw) (.int .i64 m.st) (.int .i64 m.sk) (.int .i64 m.order) (.int .i32 m.hyph) (.slice pc na cc) (.slice pk nb ck) (.slice (some ⟨g9, 0, none⟩) (nc + 1) cap9) HZ1.out)
    go_wp2
    obtain ⟨W, hW⟩ : ∃ W, W = (((((((W1.setCell ⟨p0 + 1 + 1, 0, none⟩ (.int .i64 m.sw)).setCell ⟨p0 + 1 + 1, 1, none⟩ (.int .i64 m.st)).setCell ⟨p0 + 1 + 1, 2, none⟩ (.int .i64 m.sk)).setCell ⟨p0 + 1 + 1, 3, none⟩ (.int .i64 m.order)).setCell ⟨p0 + 1 + 1, 4, none⟩ (.int .i32 m.hyph)).setCell ⟨p0 + 1 + 1, 5, none⟩ (.slice pc na cc)).setCell ⟨p0 + 1 + 1, 6, none⟩ (.slice pk nb ck)).setCell ⟨p0 + 1 + 1, 7, none⟩ (.slice (some ⟨g9, 0, none⟩) (nc + 1) cap9) := ⟨_, rfl⟩
    rw [← hW] at HQ ⊢
    clear hW
    have s0 := Lib.cell_of_heap HQ.out.1 0
    have s1 := Lib.cell_of_heap HQ.out.1 1
    have s2 := Lib.cell_of_heap HQ.out.1 2
    have s3 := Lib.cell_of_heap HQ.out.1 3
    have s4 := Lib.cell_of_heap HQ.out.1 4
    have s5 := Lib.cell_of_heap HQ.out.1 5
    have s6 := Lib.cell_of_heap HQ.out.1 6
    have s7 := Lib.cell_of_heap HQ.out.1 7
    have hBf : Below B W1 W := HQ.out.2.1 _ (by have := HP0.out; omega)
    exact bodyPost_ret (v := .agg #[.int .i64 m.sw, .int .i64 m.st, .int .i64 m.sk, .int .i64 m.order, .int .i32 m.hyph, .slice pc na cc, .slice pk nb ck, .slice (some ⟨g9, 0, none⟩) (nc + 1) cap9]) (by simp [results, Tryz.results26, go_sem, s0, s1, s2, s3, s4, s5, s6, s7]) rfl ⟨g9, cap9, rfl, HQ.out.2.2.2 _ _ _ _ _ _ (by decide) HO1.out, fun F s n u ys h1 h2 h3 => HQ.out.2.2.2 _ _ _ _ _ _ h2 (HK1.out F s n u ys h1 h2 h3), HB1.out.trans hBf⟩
end Go.Proofs.YtmehldekebphfaaGreatDoor

namespace Go.Proofs.YtmehldekebphfaaGreatDoor
open Go.RowKit

/-- a table's rows, owned from B on -/
def Own3 (B : Nat) (m : Mt.Tab) (cv kv lv : Value) (w : World) : Prop := OwnR 38 chC 4 B cv m.chars w ∧ OwnR 52 knC 3 B kv m.kerns w ∧ OwnR 54 lgC 3 B lv m.ligs w
theorem Own3.met {B : Nat} {m : Mt.Tab} {cv kv lv : Value} {w : World} (h : Own3 B m cv kv lv w) : MetAt w (metV m cv kv lv) m := ⟨cv, kv, lv, rfl, h.1.at (fun _ => rfl), h.2.1.at (fun _ => rfl), h.2.2.at (fun _ => rfl)⟩
theorem Own3.mono {B : Nat} {m : Mt.Tab} {cv kv lv : Value} {w w' : World} (h : Own3 B m cv kv lv w) (hb : Below w.heap.size w w') : Own3 B m cv kv lv w' := ⟨h.1.mono hb, h.2.1.mono hb, h.2.2.mono hb⟩
theorem Own3.form {B : Nat} {m : Mt.Tab} {cv kv lv : Value} {w : World} (h : Own3 B m cv kv lv w) : ∃ pc cc pk ck pl cl, cv = .slice pc m.chars.length cc ∧ kv = .slice pk m.kerns.length ck ∧ lv = .slice pl m.ligs.length cl := by
  obtain ⟨⟨a, b, e1, _⟩, _, _⟩ := h.1.at (fun _ => rfl)
  obtain ⟨⟨c, d, e2, _⟩, _, _⟩ := h.2.1.at (fun _ => rfl)
  obtain ⟨⟨f, g, e3, _⟩, _, _⟩ := h.2.2.at (fun _ => rfl)
  exact ⟨_, _, _, _, _, _, e1, e2, e3⟩
theorem own_snocP {T k B : Nat} {α : Type} {f : α → List Value} {v : Value} {l : List α} {x : α} {w : World} (h : w.ownsRow B T k v (l.length + 1) (l.flatMap f ++ f x)) : OwnR T f k B v (l ++ [x]) w := by
  unfold OwnR
  have e1 : (l ++ [x]).length = l.length + 1 := by simp
  have e2 : (l ++ [x]).flatMap f = l.flatMap f ++ f x := by simp
  rw [e1, e2]; exact h
/-- a table with a line more, whatever the line -/
theorem with_any (B : Nat) (m : Mt.Tab) (ln : Mt.Ln) (cv kv lv : Value) (w : World) (hB : B ≤ w.heap.size) (h : Own3 B m cv kv lv w) (hn : m.chars.length + 1 ≤ 1000000000 ∧ m.kerns.length + 1 ≤ 1000000000 ∧ m.ligs.length + 1 ≤ 1000000000) :
    Calls Tryz.prog 26 #[metV m cv kv lv, rowV ln] w (fun e w' => ∃ cv' kv' lv', e = .returned (metV (Mt.add m ln) cv' kv' lv') ∧ Own3 B (Mt.add m ln) cv' kv' lv' w' ∧ Below B w w') := by
  obtain ⟨pc, cc, pk, ck, pl, cl, rfl, rfl, rfl⟩ := h.form
  cases ln with
  | space x1 x2 x3 =>
    exact (refWith0 m 0 0 0 x1 x2 x3 pc pk pl _ _ _ cc ck cl w).mono fun e w' ⟨he, hb⟩ => ⟨_, _, _, he, h.mono hb, hb.mono hB⟩
  | hyphen x1 =>
    exact (refWith1 m x1 0 0 0 0 0 pc pk pl _ _ _ cc ck cl w).mono fun e w' ⟨he, hb⟩ => ⟨_, _, _, he, h.mono hb, hb.mono hB⟩
  | char x1 x2 x3 x4 =>
    exact (refWith2 B m x1 0 0 x2 x3 x4 pc pk pl _ _ _ cc ck cl _ w hB hn.1 h.1).mono fun e w' ⟨g, cap, he, ho, hk, hb⟩ => ⟨_, _, _, he, ⟨own_snocP (f := chC) (x := (⟨x1, x2, x3, x4⟩ : Mt.Ch)) ho, hk _ _ _ _ _ (by decide) (by decide) h.2.1, hk _ _ _ _ _ (by decide) (by decide) h.2.2⟩, hb⟩
  | kern x1 x2 x3 =>
    exact (refWith3 B m x1 x2 0 x3 0 0 pc pk pl _ _ _ cc ck cl _ w hB hn.2.1 h.2.1).mono fun e w' ⟨g, cap, he, ho, hk, hb⟩ => ⟨_, _, _, he, ⟨hk _ _ _ _ _ (by decide) (by decide) h.1, own_snocP (f := knC) (x := (⟨x1, x2, x3⟩ : Mt.Kn)) ho, hk _ _ _ _ _ (by decide) (by decide) h.2.2⟩, hb⟩
  | lig x1 x2 x3 =>
    exact (refWith4 B m x1 x2 x3 0 0 0 pc pk pl _ _ _ cc ck cl _ w hB hn.2.2 h.2.2).mono fun e w' ⟨g, cap, he, ho, hk, hb⟩ => ⟨_, _, _, he, ⟨hk _ _ _ _ _ (by decide) (by decide) h.1, hk _ _ _ _ _ (by decide) (by decide) h.2.1, own_snocP (f := lgC) (x := (⟨x1, x2, x3⟩ : Mt.Lg)) ho⟩, hb⟩
/-- what with answers: some value that holds the table, its rows owned from B on -/
def WithP (B : Nat) (m : Mt.Tab) (v : Value) (w : World) : Prop := ∃ cv kv lv, v = metV m cv kv lv ∧ Own3 B m cv kv lv w
def WithPost (B : Nat) (m : Mt.Tab) (w : World) (e : Ending) (w' : World) : Prop := ∃ v, e = .returned v ∧ WithP B m v w' ∧ Below B w w'
theorem with_any2 (B : Nat) (m : Mt.Tab) (ln : Mt.Ln) (cv kv lv : Value) (w : World) (hB : B ≤ w.heap.size) (h : Own3 B m cv kv lv w) (hn : m.chars.length + 1 ≤ 1000000000 ∧ m.kerns.length + 1 ≤ 1000000000 ∧ m.ligs.length + 1 ≤ 1000000000) :
    Calls Tryz.prog 26 #[metV m cv kv lv, rowV ln] w (WithPost B (Mt.add m ln) w) :=
  (with_any B m ln cv kv lv w hB h hn).mono fun e w' ⟨c, k, l, he, ho, hb⟩ => ⟨_, he, ⟨c, k, l, rfl, ho⟩, hb⟩
theorem WithP.open {B : Nat} {m : Mt.Tab} {v : Value} {w : World} (h : WithP B m v w) : ∃ (x0 x1 x2 x3 x4 : Int) (pc pk pl : Option Addr) (nc nk nl cc ck cl : Nat), v = .agg #[.int .i64 x0, .int .i64 x1, .int .i64 x2, .int .i64 x3, .int .i32 x4, .slice pc nc cc, .slice pk nk ck, .slice pl nl cl] ∧
    (#[.int .i64 m.sw, .int .i64 m.st, .int .i64 m.sk, .int .i64 m.order, .int .i32 m.hyph, .slice pc nc cc, .slice pk nk ck, .slice pl nl cl] : Array Value) = #[.int .i64 x0, .int .i64 x1, .int .i64 x2, .int .i64 x3, .int .i32 x4, .slice pc nc cc, .slice pk nk ck, .slice pl nl cl] ∧ Own3 B m (.slice pc nc cc) (.slice pk nk ck) (.slice pl nl cl) w := by
  obtain ⟨cv, kv, lv, rfl, ho⟩ := h
  obtain ⟨pc, cc, pk, ck, pl, cl, rfl, rfl, rfl⟩ := ho.form
  exact ⟨_, _, _, _, _, pc, pk, pl, _, _, _, cc, ck, cl, rfl, rfl, ho⟩
theorem add_lenP (m : Mt.Tab) (ln : Mt.Ln) : (Mt.add m ln).chars.length + (Mt.add m ln).kerns.length + (Mt.add m ln).ligs.length ≤ m.chars.length + m.kerns.length + m.ligs.length + 1 := by
  cases ln <;> simp [Mt.add] <;> omega
/-- blocks below B stand, but for P -/
structure KeptB (P B : Nat) (w w' : World) : Prop where
  size : w.heap.size ≤ w'.heap.size
  far : ∀ (b : Nat) (x : Obj), b ≠ P → b < B → w.heap[b]? = some x → w'.heap[b]? = some x
  below : ∀ C, C ≤ P → Below C w w'
theorem KeptB.refl (P B : Nat) (w : World) : KeptB P B w w := ⟨Nat.le_refl _, fun _ _ _ _ h => h, fun C _ => Below.refl C w⟩
theorem KeptB.trans {P B : Nat} {w w1 w2 : World} (h : KeptB P B w w1) (g : KeptB P B w1 w2) : KeptB P B w w2 := ⟨Nat.le_trans h.size g.size, fun b x h1 h2 h3 => g.far b x h1 h2 (h.far b x h1 h2 h3), fun C hC => (h.below C hC).trans (g.below C hC)⟩
theorem KeptB.of {P B : Nat} {w w' : World} (h : Below B w w') (hP : P ≤ B) : KeptB P B w w' := ⟨h.size, fun b x _ h2 h3 => by rw [h.block _ h2]; exact h3, fun C hC => h.mono (Nat.le_trans hC hP)⟩
theorem KeptB.cell {P B : Nat} {w w' : World} (h : KeptB P B w w') {a : Addr} {v : Value} (hne : a.block ≠ P) (hlt : a.block < B) (hc : w.cell? a = some v) : w'.cell? a = some v := by
  cases hh : w.heap[a.block]? with
  | none => unfold World.cell? at hc; rw [hh] at hc; cases hc
  | some x =>
    have h2 := h.far _ _ hne hlt hh
    have e : w'.cell? a = w.cell? a := by
      unfold World.cell?
      rw [hh, h2]
    rw [e]; exact hc
theorem drop_twoP {ps : List (List UInt8)} {i : Nat} {l : List UInt8} (hl : ps[i]? = some l) (hi : i + 1 < ps.length) : ∃ t r, ps.drop i = l :: t :: r ∧ ps.drop (i + 1) = t :: r := by
  obtain ⟨t, ht⟩ : ∃ t, ps[i + 1]? = some t := ⟨_, List.getElem?_eq_getElem hi⟩
  have e1 : ps.drop i = l :: ps.drop (i + 1) := by
    obtain ⟨hk, e⟩ := List.getElem?_eq_some_iff.1 hl
    rw [List.drop_eq_getElem_cons hk, e]
  have e2 : ps.drop (i + 1) = t :: ps.drop (i + 1 + 1) := by
    obtain ⟨hk, e⟩ := List.getElem?_eq_some_iff.1 ht
    rw [List.drop_eq_getElem_cons hk, e]
  exact ⟨t, ps.drop (i + 1 + 1), by rw [e1, e2], e2⟩
theorem drop_oneP {ps : List (List UInt8)} {i : Nat} {l : List UInt8} (hl : ps[i]? = some l) (hi : i + 1 = ps.length) : ps.drop i = [l] := by
  obtain ⟨hk, e⟩ := List.getElem?_eq_some_iff.1 hl
  rw [List.drop_eq_getElem_cons hk, e, List.drop_of_length_le (by omega)]
theorem rowV_form (ln : Mt.Ln) : ∃ a b c d f g : Int, rowV ln = .agg #[.int .i64 (Mt.kind ln : Int), .int .i32 a, .int .i32 b, .int .i32 c, .int .i64 d, .int .i64 f, .int .i64 g] := by
  cases ln <;> exact ⟨_, _, _, _, _, _, rfl⟩
theorem cnt_splitP (c : UInt8) : ∀ l : List UInt8, (Mt.split c l).length ≤ l.length + 1
  | [] => by simp [Mt.split]
  | x :: r => by
    have ih := cnt_splitP c r
    by_cases h : x = c
    · subst h; rw [Mt.split_at]; simp only [List.length_cons]; omega
    · cases e : Mt.split c r with
      | nil => exact absurd e (Mt.split_ne c r)
      | cons p t =>
        rw [Mt.split_on h e]
        rw [e] at ih
        simp only [List.length_cons] at ih ⊢
        omega
theorem parsePost_inr {l : List UInt8} {x : Int × Int} (h : Mt.parse l = .inr x) {w w' : World} (hb : Below w.heap.size w w') : ParsePost l w (.returned (.tuple #[.agg #[.int .i64 0, .int .i64 0, .int .i64 0, .int .i64 0, .int .i32 0, .slice none 0 0, .slice none 0 0, .slice none 0 0], .agg #[.int .i64 x.1, .int .i64 x.2]])) w' := by
  unfold ParsePost
  rw [h]
  exact ⟨rfl, hb⟩
set_option maxHeartbeats 16000000 in
set_option maxRecDepth 100000 in
theorem refParse7_any (s : ByteArray) (hs : s.size ≤ 100000000) (w : World) : Calls Tryz.prog 9 #[.string s] w (ParsePost s.data.toList w) := by
  obtain ⟨ps, hps⟩ : ∃ l, l = Mt.split 10 s.data.toList := ⟨_, rfl⟩
  have HPsp := Lib.hid hps
  have hne : ps ≠ [] := by rw [hps]; exact Mt.split_ne 10 _
  have hcn : ps.length ≤ 100000001 := by
    have h1 := cnt_splitP 10 s.data.toList
    rw [← hps] at h1
    have h3 : s.size = s.data.toList.length := size7 s
    omega
  have hln : ∀ u ∈ ps, u.length ≤ 100000000 := by
    intro u hu
    rw [hps] at hu
    have h1 : (Mt.join 10 (Mt.split 10 s.data.toList)).length = s.data.toList.length := by rw [Mt.join_split]
    have h2 := join_le (c := 10) hu
    have h3 : s.size = s.data.toList.length := size7 s
    omega
  have Hln := Lib.hid hln
  have cS : Hid (∀ w', Calls Tryz.prog 22 #[.string s, .int .u8 10] w' (fun e w2 => ∃ v, e = .returned v ∧ OwnS w'.heap.size v ps w2 ∧ Below w'.heap.size w' w2)) := Lib.hid (fun w' => (split_any s (by omega) 10 w').mono fun e w2 ⟨v, he, ho, hb⟩ => ⟨v, he, by rw [hps]; exact ho, hb⟩)
  obtain ⟨n, hn⟩ : ∃ n, n = ps.length := ⟨_, rfl⟩
  have Hn := Lib.hid hn
  have hnp : 0 < n := by rw [hn]; exact List.length_pos_iff.2 hne
  rw [← hn] at hcn
  obtain ⟨N1, hN1⟩ : ∃ k, n = k + 1 := ⟨n - 1, by omega⟩
  have hw1 : IntKind.i64.wrap ((n : Int) - 1) = (N1 : Int) := by rw [show (n : Int) - 1 = (N1 : Int) by omega]; exact IntWalk.i64_in _ (by omega)
  have HN1 := Lib.hid hN1
  clear hps hne hln hn
  obtain ⟨p0, hp0⟩ : ∃ p, p = w.heap.size := ⟨_, rfl⟩
  obtain ⟨W0, hW0⟩ : ∃ W, W = (((w.alloc (.cells #[.int .i64 0, .int .i64 0, .int .i64 0, .int .i64 0, .int .i32 0, .slice none 0 0, .slice none 0 0, .slice none 0 0] 28)).alloc (.cells #[.int .i64 0, .int .i64 0] 31)).alloc (.cells #[.int .i64 0, .int .i64 0, .int .i64 0, .int .i64 0, .int .i32 0, .slice none 0 0, .slice none 0 0, .slice none 0 0] 28)).alloc (.cells #[.int .i64 0, .int .i64 0, .int .i64 0, .int .i64 0, .int .i32 0, .slice none 0 0, .slice none 0 0, .slice none 0 0] 28) := ⟨_, rfl⟩
  have lb1 := below_alloc w (.cells #[.int .i64 0, .int .i64 0, .int .i64 0, .int .i64 0, .int .i32 0, .slice none 0 0, .slice none 0 0, .slice none 0 0] 28)
  have lb2 := below_alloc (w.alloc (.cells #[.int .i64 0, .int .i64 0, .int .i64 0, .int .i64 0, .int .i32 0, .slice none 0 0, .slice none 0 0, .slice none 0 0] 28)) (.cells #[.int .i64 0, .int .i64 0] 31)
  have lb3 := below_alloc ((w.alloc (.cells #[.int .i64 0, .int .i64 0, .int .i64 0, .int .i64 0, .int .i32 0, .slice none 0 0, .slice none 0 0, .slice none 0 0] 28)).alloc (.cells #[.int .i64 0, .int .i64 0] 31)) (.cells #[.int .i64 0, .int .i64 0, .int .i64 0, .int .i64 0, .int .i32 0, .slice none 0 0, .slice none 0 0, .slice none 0 0] 28)
  have lb4 := below_alloc (((w.alloc (.cells #[.int .i64 0, .int .i64 0, .int .i64 0, .int .i64 0, .int .i32 0, .slice none 0 0, .slice none 0 0, .slice none 0 0] 28)).alloc (.cells #[.int .i64 0, .int .i64 0] 31)).alloc (.cells #[.int .i64 0, .int .i64 0, .int .i64 0, .int .i64 0, .int .i32 0, .slice none 0 0, .slice none 0 0, .slice none 0 0] 28)) (.cells #[.int .i64 0, .int .i64 0, .int .i64 0, .int .i64 0, .int .i32 0, .slice none 0 0, .slice none 0 0, .slice none 0 0] 28)
  have HA0 : Hid (W0.heap[w.heap.size]? = some (.cells #[.int .i64 0, .int .i64 0, .int .i64 0, .int .i64 0, .int .i32 0, .slice none 0 0, .slice none 0 0, .slice none 0 0] 28 (0, 0))) := Lib.hid (by rw [hW0]; exact obj_keptR lb4 (obj_keptR lb3 (obj_keptR lb2 (obj_newR w _ rfl _ _))))
  have HF0 : Hid (W0.heap[w.heap.size + 1]? = some (.cells #[.int .i64 0, .int .i64 0] 31 (0, 0))) := Lib.hid (by rw [hW0]; exact obj_keptR lb4 (obj_keptR lb3 (obj_newR _ _ (World.size_alloc _ _) _ _)))
  have HN0 : Hid (W0.heap[w.heap.size + 1 + 1]? = some (.cells #[.int .i64 0, .int .i64 0, .int .i64 0, .int .i64 0, .int .i32 0, .slice none 0 0, .slice none 0 0, .slice none 0 0] 28 (0, 0))) := Lib.hid (by rw [hW0]; exact obj_keptR lb4 (obj_newR _ _ (by rw [World.size_alloc, World.size_alloc]) _ _))
  have HM0 : Hid (W0.heap[w.heap.size + 1 + 1 + 1]? = some (.cells #[.int .i64 0, .int .i64 0, .int .i64 0, .int .i64 0, .int .i32 0, .slice none 0 0, .slice none 0 0, .slice none 0 0] 28 (0, 0))) := Lib.hid (by rw [hW0]; exact obj_newR _ _ (by rw [World.size_alloc, World.size_alloc, World.size_alloc]) _ _)
  have HB0 : Hid (Below w.heap.size w W0) := Lib.hid (by rw [hW0]; exact below_step (below_step (below_step lb1 lb2) lb3) lb4)
  have hs0 : W0.heap.size = w.heap.size + 1 + 1 + 1 + 1 := by rw [hW0, World.size_alloc, World.size_alloc, World.size_alloc, World.size_alloc]
  have HS0 := Lib.hid hs0
  clear lb1 lb2 lb3 lb4 hs0 hp0
  go_enter Tryz.func9, Tryz.ntmps9
  go_upto_region 3 with fail
  rw [← hW0]
  clear hW0
  go_wp2_with fail
  refine (cS.out _).mono ?_
  rintro e w1 ⟨v6, rfl, ho6, hb1⟩
  obtain ⟨B6, c6, rfl, hB6a, hB6b⟩ := World.ownsRow.form ho6 (by rw [← Hn.out]; exact hnp)
  have hl6 := ho6.at
  obtain ⟨B6', o6, c6', e6, q6⟩ := hl6.2.2 (by rw [← Hn.out]; exact hnp)
  obtain ⟨rfl, rfl⟩ : B6 = B6' ∧ o6 = 0 := by injection e6 with p1 p2 p3; injection p1 with p1; injection p1 with p1 p4 p5; exact ⟨p1, p4.symm⟩
  have HQ6 : Hid (∀ i u, ps[i]? = some u → w1.cell? ⟨B6, i, none⟩ = some (.string (str u))) := Lib.hid (fun i u hu => by have h := q6 i u hu; rw [Nat.zero_add] at h; exact h)
  have HA1 := Lib.hid (obj_keptR hb1 HA0.out)
  have HF1 := Lib.hid (obj_keptR hb1 HF0.out)
  have HN1b := Lib.hid (obj_keptR hb1 HN0.out)
  have HM1 := Lib.hid (obj_keptR hb1 HM0.out)
  have HB1 := Lib.hid (below_step HB0.out hb1)
  obtain ⟨P, hP⟩ : ∃ P, P = w.heap.size + 1 + 1 + 1 := ⟨_, rfl⟩
  obtain ⟨B, hB⟩ : ∃ B, B = w1.heap.size := ⟨_, rfl⟩
  have HPs := Lib.hid hP
  have HBs : Hid (B ≤ w1.heap.size) := Lib.hid (Nat.le_of_eq hB)
  have HB6 : Hid (B6 ≠ P ∧ B6 < B) := Lib.hid (by have := HS0.out; omega)
  have HPB2 : Hid (P < B) := Lib.hid (by have := HS0.out; have := hb1.size; omega)
  have HPB : Hid (P ≤ B) := Lib.hid (Nat.le_of_lt HPB2.out)
  have HN1 := HN1b
  rw [← hP] at HM1 ⊢
  rw [← Hn.out]
  clear ho6 hl6 e6 q6 hb1 hB6a hB6b HA0 HF0 HN0 HM0 HB0 HN1b hP hB HS0
  have HRd0 : Hid (Mt.read 0 0 {} ps = Mt.read 0 0 {} (ps.drop 0)) := Lib.hid rfl
  have HO0 : Hid (Own3 B {} (.slice none 0 0) (.slice none 0 0) (.slice none 0 0) w1) := Lib.hid ⟨ownR_nil _ _ _ _ _, ownR_nil _ _ _ _ _, ownR_nil _ _ _ _ _⟩
  go_wp2_with fail
  go_loopw [7, 8] (fun lav iv wr => ∃ (i last : Nat) (m : Mt.Tab) (cv kv lv : Value), i ≤ N1 ∧ iv = .int .i64 (i : Int) ∧ lav = .int .i64 (last : Int) ∧ Hid (Mt.read 0 0 {} ps = Mt.read i last m (ps.drop i)) ∧ Hid (wr.heap[P]? = some (.cells #[.int .i64 m.sw, .int .i64 m.st, .int .i64 m.sk, .int .i64 m.order, .int .i32 m.hyph, cv, kv, lv] 28 (0, 0))) ∧ Hid (Own3 B m cv kv lv wr) ∧ Hid (KeptB P B w1 wr) ∧ Hid (m.chars.length + m.kerns.length + m.ligs.length ≤ i)) (fun _ iv _ => N1 - (intOf iv).toNat)
  case atStart => exact ⟨0, 0, {}, _, _, _, Nat.zero_le _, rfl, rfl, HRd0, HM1, HO0, Lib.hid (KeptB.refl _ _ _), Lib.hid (by decide)⟩
  case round =>
    obtain ⟨i, last, m, cv, kv, lv, hi, rfl, rfl, HRd, HM, HO, HK, HLm⟩ := hrel
    clear HRd0 HO0 HM1
    obtain ⟨pc, cc, pk, ck, pl, cl, rfl, rfl, rfl⟩ := HO.out.form
    obtain ⟨l, hl⟩ : ∃ l, ps[i]? = some l := ⟨_, List.getElem?_eq_getElem (by rw [← Hn.out]; omega)⟩
    have y6 := HK.out.cell (a := ⟨B6, i, none⟩) HB6.out.1 HB6.out.2 (HQ6.out i l hl)
    have Hll : Hid (l.length ≤ 100000000) := Lib.hid (Hln.out _ (List.mem_of_getElem? hl))
    have i0 : (0 : Int) ≤ (i : Int) := by omega
    have in' : (i : Int) < (n : Int) := by omega
    by_cases hlt : i < N1
    · obtain ⟨t1, r1, hd1, hd2⟩ := drop_twoP hl (by rw [← Hn.out]; omega)
      have HD := Lib.hid hd1
      have HD2 := Lib.hid hd2
      have il : (i : Int) < (N1 : Int) := by omega
      have HIl := Lib.hid (show i + 1 ≤ N1 from hlt)
      have HRow := Lib.hid (refRow_any (str l) (by rw [str_size]; have := Hll.out; omega) wr)
      rw [str_data] at HRow
      unfold RowPost at HRow
      clear hl hd1 hd2
      obtain ⟨oln, hol⟩ : ∃ x, x = Mt.row l := ⟨_, rfl⟩
      rw [← hol] at HRow
      cases oln with
      | none =>
        have HBad : Hid (Mt.read 0 0 {} ps = .inr i) := Lib.hid (by rw [HRd.out, HD.out]; simp only [Mt.read]; rw [← hol])
        clear hol
        go_wp2_with fail
        refine HRow.out.mono ?_
        rintro e w8 ⟨⟨rk, ra, rb, rc, rd, rf, rg, rfl⟩, hb8⟩
        obtain ⟨R9, hR9⟩ : ∃ p, p = w8.heap.size := ⟨_, rfl⟩
        obtain ⟨W9, hW9⟩ : ∃ W, W = w8.alloc (.cells #[.int .i64 rk, .int .i32 ra, .int .i32 rb, .int .i32 rc, .int .i64 rd, .int .i64 rf, .int .i64 rg] 65) := ⟨_, rfl⟩
        have hb9 : Below w8.heap.size w8 W9 := by rw [hW9]; exact below_alloc _ _
        have HR9 : Hid (W9.heap[R9]? = some (.cells #[.int .i64 rk, .int .i32 ra, .int .i32 rb, .int .i32 rc, .int .i64 rd, .int .i64 rf, .int .i64 rg] 65 (0, 0))) := Lib.hid (by rw [hW9]; exact obj_newR _ _ hR9.symm _ _)
        have hb89 := below_step hb8 hb9
        have HM9 := Lib.hid (obj_keptR hb89 HM.out)
        have HO9 := Lib.hid (Own3.mono HO.out hb89)
        have HK9 := Lib.hid (HK.out.trans (KeptB.of (hb89.mono (Nat.le_trans HBs.out HK.out.size)) HPB.out))
        clear hb8 hb9 hb89
        clear y6
        go_upto_region 9 with fail
        rw [← hW9, ← hR9]
        clear hW9 hR9
        have HA := Lib.hid (HK9.out.far _ _ (by have := HPs.out; omega) (by have := HPs.out; have := HPB2.out; omega) HA1.out)
        have HF := Lib.hid (HK9.out.far _ _ (by have := HPs.out; omega) (by have := HPs.out; have := HPB2.out; omega) HF1.out)
        have HN := Lib.hid (HK9.out.far _ _ (by have := HPs.out; omega) (by have := HPs.out; have := HPB2.out; omega) HN1.out)
        have HBw := Lib.hid (HB1.out.trans (HK9.out.below _ (by have := HPs.out; omega)))
        have HPz : Hid (Mt.parse s.data.toList = .inr (70, (i : Int))) := Lib.hid (parse_read (by rw [← HPsp.out]; exact HBad.out))
        have k9 := Lib.cell_of_heap HR9.out 0
        have e0 := Lib.cell_of_heap HN.out 0
        have e1 := Lib.cell_of_heap HN.out 1
        have e2 := Lib.cell_of_heap HN.out 2
        have e3 := Lib.cell_of_heap HN.out 3
        have e4 := Lib.cell_of_heap HN.out 4
        have e5 := Lib.cell_of_heap HN.out 5
        have e6 := Lib.cell_of_heap HN.out 6
        have e7 := Lib.cell_of_heap HN.out 7
        have a0 := Lib.cell_of_heap HA.out 0
        have a1 := Lib.cell_of_heap HA.out 1
        have a2 := Lib.cell_of_heap HA.out 2
        have a3 := Lib.cell_of_heap HA.out 3
        have a4 := Lib.cell_of_heap HA.out 4
        have a5 := Lib.cell_of_heap HA.out 5
        have a6 := Lib.cell_of_heap HA.out 6
        have a7 := Lib.cell_of_heap HA.out 7
        have d0 := Lib.frozen_of_heap HA.out 0
        have d1 := Lib.frozen_of_heap HA.out 1
        have d2 := Lib.frozen_of_heap HA.out 2
        have d3 := Lib.frozen_of_heap HA.out 3
        have d4 := Lib.frozen_of_heap HA.out 4
        have d5 := Lib.frozen_of_heap HA.out 5
        have d6 := Lib.frozen_of_heap HA.out 6
        have d7 := Lib.frozen_of_heap HA.out 7
        have b0 := Lib.cell_of_heap HF.out 0
        have b1 := Lib.cell_of_heap HF.out 1
        have f0 := Lib.frozen_of_heap HF.out 0
        have f1 := Lib.frozen_of_heap HF.out 1
        have HQ := Lib.hid (two_res W9 w.heap.size (w.heap.size + 1) (.int .i64 0) (.int .i64 0) (.int .i64 0) (.int .i64 0) (.int .i32 0) (.slice none 0 0) (.slice none 0 0) (.slice none 0 0) (.int .i64 70) (.int .i64 (i : Int)) HA.out HF.out (by omega))
        go_wp2
        obtain ⟨Wf, hWf⟩ : ∃ W, W = (((((((((W9.setCell ⟨w.heap.size, 0, none⟩ (.int .i64 0)).setCell ⟨w.heap.size, 1, none⟩ (.int .i64 0)).setCell ⟨w.heap.size, 2, none⟩ (.int .i64 0)).setCell ⟨w.heap.size, 3, none⟩ (.int .i64 0)).setCell ⟨w.heap.size, 4, none⟩ (.int .i32 0)).setCell ⟨w.heap.size, 5, none⟩ (.slice none 0 0)).setCell ⟨w.heap.size, 6, none⟩ (.slice none 0 0)).setCell ⟨w.heap.size, 7, none⟩ (.slice none 0 0)).setCell ⟨w.heap.size + 1, 0, none⟩ (.int .i64 70)).setCell ⟨w.heap.size + 1, 1, none⟩ (.int .i64 (i : Int)) := ⟨_, rfl⟩
        rw [← hWf] at HQ ⊢
        clear hWf
        have s0 := Lib.cell_of_heap HQ.out.1 0
        have s1 := Lib.cell_of_heap HQ.out.1 1
        have s2 := Lib.cell_of_heap HQ.out.1 2
        have s3 := Lib.cell_of_heap HQ.out.1 3
        have s4 := Lib.cell_of_heap HQ.out.1 4
        have s5 := Lib.cell_of_heap HQ.out.1 5
        have s6 := Lib.cell_of_heap HQ.out.1 6
        have s7 := Lib.cell_of_heap HQ.out.1 7
        have t0 := Lib.cell_of_heap HQ.out.2.1 0
        have t1 := Lib.cell_of_heap HQ.out.2.1 1
        have hBf : Below w.heap.size W9 Wf := HQ.out.2.2 _ (Nat.le_refl _) (Nat.le_succ _)
        exact bodyPost_ret (v := .tuple #[.agg #[.int .i64 0, .int .i64 0, .int .i64 0, .int .i64 0, .int .i32 0, .slice none 0 0, .slice none 0 0, .slice none 0 0], .agg #[.int .i64 70, .int .i64 (i : Int)]]) (by simp [results, Tryz.results9, go_sem, s0, s1, s2, s3, s4, s5, s6, s7, t0, t1]) rfl (parsePost_inr HPz.out (HBw.out.trans hBf))
      | some ln =>
        obtain ⟨ra, rb, rc, rd, rf, rg, hrv⟩ := rowV_form ln
        have Hrv := Lib.hid hrv
        simp only [hrv] at HRow
        have hgo : Mt.read i last m (l :: t1 :: r1) = if Mt.good i last (Mt.kind ln) then Mt.read (i + 1) (Mt.kind ln) (Mt.add m ln) (t1 :: r1) else .inr i := by
          simp only [Mt.read]; rw [← hol]
        have Hgo := Lib.hid hgo
        clear hol hrv hgo
        obtain ⟨kk, hkk⟩ : ∃ k, k = Mt.kind ln := ⟨_, rfl⟩
        have HKK := Lib.hid hkk
        rw [← hkk] at HRow
        go_wp2_with fail
        refine HRow.out.mono ?_
        rintro e w8 ⟨rfl, hb8⟩
        obtain ⟨R9, hR9⟩ : ∃ p, p = w8.heap.size := ⟨_, rfl⟩
        obtain ⟨W9, hW9⟩ : ∃ W, W = w8.alloc (.cells #[.int .i64 (kk : Int), .int .i32 ra, .int .i32 rb, .int .i32 rc, .int .i64 rd, .int .i64 rf, .int .i64 rg] 65) := ⟨_, rfl⟩
        have hb9 : Below w8.heap.size w8 W9 := by rw [hW9]; exact below_alloc _ _
        have HR9 : Hid (W9.heap[R9]? = some (.cells #[.int .i64 (kk : Int), .int .i32 ra, .int .i32 rb, .int .i32 rc, .int .i64 rd, .int .i64 rf, .int .i64 rg] 65 (0, 0))) := Lib.hid (by rw [hW9]; exact obj_newR _ _ hR9.symm _ _)
        have hb89 := below_step hb8 hb9
        have HM9 := Lib.hid (obj_keptR hb89 HM.out)
        have HO9 := Lib.hid (Own3.mono HO.out hb89)
        have HK9 := Lib.hid (HK.out.trans (KeptB.of (hb89.mono (Nat.le_trans HBs.out HK.out.size)) HPB.out))
        clear hb8 hb9 hb89
        clear y6 hkk
        go_upto_region 9 with fail
        rw [← hW9, ← hR9]
        clear hW9 hR9
        have k9 := Lib.cell_of_heap HR9.out 0
        have hgd : Mt.good i last kk = if i < 2 then kk == i else decide (2 ≤ kk) && decide (last ≤ kk) := rfl
        by_cases h2 : i < 2
        · have c1 : (i : Int) < 2 := by omega
          have c2 : ¬ ((1 : Int) < (i : Int)) := by omega
          by_cases h3 : kk = i
          · have c3 : ((kk : Int) == (i : Int)) = true := beq_iff_eq.2 (by omega)
            have HGood : Hid (Mt.good i last kk = true) := Lib.hid (by rw [hgd, if_pos h2]; exact beq_iff_eq.2 h3)
            clear c3
            have h3' : i = kk := h3.symm
            subst h3'
            have HNx : Hid (Mt.read 0 0 {} ps = Mt.read (i + 1) i (Mt.add m ln) (ps.drop (i + 1))) := Lib.hid (by rw [HRd.out, HD.out, Hgo.out, ← HKK.out, HGood.out, if_pos rfl, HD2.out])
            have r0 := Lib.cell_of_heap HR9.out 0
            have r1 := Lib.cell_of_heap HR9.out 1
            have r2 := Lib.cell_of_heap HR9.out 2
            have r3 := Lib.cell_of_heap HR9.out 3
            have r4 := Lib.cell_of_heap HR9.out 4
            have r5 := Lib.cell_of_heap HR9.out 5
            have r6 := Lib.cell_of_heap HR9.out 6
            have e0 := Lib.cell_of_heap HM9.out 0
            have e1 := Lib.cell_of_heap HM9.out 1
            have e2 := Lib.cell_of_heap HM9.out 2
            have e3 := Lib.cell_of_heap HM9.out 3
            have e4 := Lib.cell_of_heap HM9.out 4
            have e5 := Lib.cell_of_heap HM9.out 5
            have e6 := Lib.cell_of_heap HM9.out 6
            have e7 := Lib.cell_of_heap HM9.out 7
            have d0 := Lib.frozen_of_heap HM9.out 0
            have d1 := Lib.frozen_of_heap HM9.out 1
            have d2 := Lib.frozen_of_heap HM9.out 2
            have d3 := Lib.frozen_of_heap HM9.out 3
            have d4 := Lib.frozen_of_heap HM9.out 4
            have d5 := Lib.frozen_of_heap HM9.out 5
            have d6 := Lib.frozen_of_heap HM9.out 6
            have d7 := Lib.frozen_of_heap HM9.out 7
            have HWi := Lib.hid (with_any2 B m ln _ _ _ W9 (Nat.le_trans HBs.out HK9.out.size) HO9.out (by have := HLm.out; have := HIl.out; omega))
            rw [Hrv.out, ← HKK.out] at HWi
            unfold metV at HWi
            have HLn : Hid ((Mt.add m ln).chars.length + (Mt.add m ln).kerns.length + (Mt.add m ln).ligs.length ≤ i + 1) := Lib.hid (by have := add_lenP m ln; have := HLm.out; omega)
            generalize Mt.add m ln = m2 at HWi HNx HLn
            clear k9 hgd h3
            go_wp2_with fail
            with_reducible refine HWi.out.mono ?_
            rintro e w10 ⟨v2, rfl, hp10, hb10⟩
            obtain ⟨x0, x1, x2, x3, x4, pc2, pk2, pl2, nc2, nk2, nl2, cc2, ck2, cl2, rfl, hmx, ho10⟩ := hp10.open
            have HMx := Lib.hid hmx
            clear hmx hp10 r0 r1 r2 r3 r4 r5 r6 e0 e1 e2 e3 e4 e5 e6 e7 d0 d1 d2 d3 d4 d5 d6 d7
            have HM10 : Hid (w10.heap[P]? = some (.cells #[.int .i64 m.sw, .int .i64 m.st, .int .i64 m.sk, .int .i64 m.order, .int .i32 m.hyph, .slice pc m.chars.length cc, .slice pk m.kerns.length ck, .slice pl m.ligs.length cl] 28 (0, 0))) := Lib.hid (by rw [hb10.block _ HPB2.out]; exact HM9.out)
            have HK10 := Lib.hid (HK9.out.trans (KeptB.of hb10 HPB.out))
            have e0 := Lib.cell_of_heap HM10.out 0
            have e1 := Lib.cell_of_heap HM10.out 1
            have e2 := Lib.cell_of_heap HM10.out 2
            have e3 := Lib.cell_of_heap HM10.out 3
            have e4 := Lib.cell_of_heap HM10.out 4
            have e5 := Lib.cell_of_heap HM10.out 5
            have e6 := Lib.cell_of_heap HM10.out 6
            have e7 := Lib.cell_of_heap HM10.out 7
            have d0 := Lib.frozen_of_heap HM10.out 0
            have d1 := Lib.frozen_of_heap HM10.out 1
            have d2 := Lib.frozen_of_heap HM10.out 2
            have d3 := Lib.frozen_of_heap HM10.out 3
            have d4 := Lib.frozen_of_heap HM10.out 4
            have d5 := Lib.frozen_of_heap HM10.out 5
            have d6 := Lib.frozen_of_heap HM10.out 6
            have d7 := Lib.frozen_of_heap HM10.out 7
            have HS8 := Lib.hid (set8 w10 P (.int .i64 x0) (.int .i64 x1) (.int .i64 x2) (.int .i64 x3) (.int .i32 x4) (.slice pc2 nc2 cc2) (.slice pk2 nk2 ck2) (.slice pl2 nl2 cl2) HM10.out)
            have HO10 := Lib.hid ho10
            clear ho10 hb10
            go_wp2
            go_roundw
            case rel => exact ⟨i + 1, i, m2, .slice pc2 nc2 cc2, .slice pk2 nk2 ck2, .slice pl2 nl2 cl2, HIl.out, by go_num, rfl, HNx, Lib.hid (by rw [HMx.out]; exact HS8.out.1), Lib.hid ⟨HS8.out.2.2.2 _ _ _ _ _ _ (by decide) HO10.out.1, HS8.out.2.2.2 _ _ _ _ _ _ (by decide) HO10.out.2.1, HS8.out.2.2.2 _ _ _ _ _ _ (by decide) HO10.out.2.2⟩, Lib.hid (HK10.out.trans ⟨(HS8.out.2.1 _ (Nat.le_refl _)).size, fun b x h1 _ h3 => HS8.out.2.2.1 b x h1 h3, fun C hC => HS8.out.2.1 C hC⟩), HLn⟩
            case measure => have := HIl.out; simp [intOf]; omega
          · have c3 : ((kk : Int) == (i : Int)) = false := beq_eq_false_iff_ne.2 (by omega)
            have c4 : ((kk : Int) != (i : Int)) = true := by simp only [bne, c3]; rfl
            have HBad : Hid (Mt.read 0 0 {} ps = .inr i) := Lib.hid (by rw [HRd.out, HD.out, Hgo.out, ← HKK.out, hgd, if_pos h2, if_neg (by simpa using h3)])
            have HA := Lib.hid (HK9.out.far _ _ (by have := HPs.out; omega) (by have := HPs.out; have := HPB2.out; omega) HA1.out)
            have HF := Lib.hid (HK9.out.far _ _ (by have := HPs.out; omega) (by have := HPs.out; have := HPB2.out; omega) HF1.out)
            have HN := Lib.hid (HK9.out.far _ _ (by have := HPs.out; omega) (by have := HPs.out; have := HPB2.out; omega) HN1.out)
            have HBw := Lib.hid (HB1.out.trans (HK9.out.below _ (by have := HPs.out; omega)))
            have HPz : Hid (Mt.parse s.data.toList = .inr (70, (i : Int))) := Lib.hid (parse_read (by rw [← HPsp.out]; exact HBad.out))
            have e0 := Lib.cell_of_heap HN.out 0
            have e1 := Lib.cell_of_heap HN.out 1
            have e2 := Lib.cell_of_heap HN.out 2
            have e3 := Lib.cell_of_heap HN.out 3
            have e4 := Lib.cell_of_heap HN.out 4
            have e5 := Lib.cell_of_heap HN.out 5
            have e6 := Lib.cell_of_heap HN.out 6
            have e7 := Lib.cell_of_heap HN.out 7
            have a0 := Lib.cell_of_heap HA.out 0
            have a1 := Lib.cell_of_heap HA.out 1
            have a2 := Lib.cell_of_heap HA.out 2
            have a3 := Lib.cell_of_heap HA.out 3
            have a4 := Lib.cell_of_heap HA.out 4
            have a5 := Lib.cell_of_heap HA.out 5
            have a6 := Lib.cell_of_heap HA.out 6
            have a7 := Lib.cell_of_heap HA.out 7
            have d0 := Lib.frozen_of_heap HA.out 0
            have d1 := Lib.frozen_of_heap HA.out 1
            have d2 := Lib.frozen_of_heap HA.out 2
            have d3 := Lib.frozen_of_heap HA.out 3
            have d4 := Lib.frozen_of_heap HA.out 4
            have d5 := Lib.frozen_of_heap HA.out 5
            have d6 := Lib.frozen_of_heap HA.out 6
            have d7 := Lib.frozen_of_heap HA.out 7
            have b0 := Lib.cell_of_heap HF.out 0
            have b1 := Lib.cell_of_heap HF.out 1
            have f0 := Lib.frozen_of_heap HF.out 0
            have f1 := Lib.frozen_of_heap HF.out 1
            have HQ := Lib.hid (two_res W9 w.heap.size (w.heap.size + 1) (.int .i64 0) (.int .i64 0) (.int .i64 0) (.int .i64 0) (.int .i32 0) (.slice none 0 0) (.slice none 0 0) (.slice none 0 0) (.int .i64 70) (.int .i64 (i : Int)) HA.out HF.out (by omega))
            go_wp2
            obtain ⟨Wf, hWf⟩ : ∃ W, W = (((((((((W9.setCell ⟨w.heap.size, 0, none⟩ (.int .i64 0)).setCell ⟨w.heap.size, 1, none⟩ (.int .i64 0)).setCell ⟨w.heap.size, 2, none⟩ (.int .i64 0)).setCell ⟨w.heap.size, 3, none⟩ (.int .i64 0)).setCell ⟨w.heap.size, 4, none⟩ (.int .i32 0)).setCell ⟨w.heap.size, 5, none⟩ (.slice none 0 0)).setCell ⟨w.heap.size, 6, none⟩ (.slice none 0 0)).setCell ⟨w.heap.size, 7, none⟩ (.slice none 0 0)).setCell ⟨w.heap.size + 1, 0, none⟩ (.int .i64 70)).setCell ⟨w.heap.size + 1, 1, none⟩ (.int .i64 (i : Int)) := ⟨_, rfl⟩
            rw [← hWf] at HQ ⊢
            clear hWf
            have s0 := Lib.cell_of_heap HQ.out.1 0
            have s1 := Lib.cell_of_heap HQ.out.1 1
            have s2 := Lib.cell_of_heap HQ.out.1 2
            have s3 := Lib.cell_of_heap HQ.out.1 3
            have s4 := Lib.cell_of_heap HQ.out.1 4
            have s5 := Lib.cell_of_heap HQ.out.1 5
            have s6 := Lib.cell_of_heap HQ.out.1 6
            have s7 := Lib.cell_of_heap HQ.out.1 7
            have t0 := Lib.cell_of_heap HQ.out.2.1 0
            have t1 := Lib.cell_of_heap HQ.out.2.1 1
            have hBf : Below w.heap.size W9 Wf := HQ.out.2.2 _ (Nat.le_refl _) (Nat.le_succ _)
            exact bodyPost_ret (v := .tuple #[.agg #[.int .i64 0, .int .i64 0, .int .i64 0, .int .i64 0, .int .i32 0, .slice none 0 0, .slice none 0 0, .slice none 0 0], .agg #[.int .i64 70, .int .i64 (i : Int)]]) (by simp [results, Tryz.results9, go_sem, s0, s1, s2, s3, s4, s5, s6, s7, t0, t1]) rfl (parsePost_inr HPz.out (HBw.out.trans hBf))
        · have c1 : ¬ ((i : Int) < 2) := by omega
          have c2 : (1 : Int) < (i : Int) := by omega
          by_cases h3 : kk < 2
          · have c3 : (kk : Int) < 2 := by omega
            have HBad : Hid (Mt.read 0 0 {} ps = .inr i) := Lib.hid (by rw [HRd.out, HD.out, Hgo.out, ← HKK.out, hgd, if_neg h2, if_neg (by simp; omega)])
            have HA := Lib.hid (HK9.out.far _ _ (by have := HPs.out; omega) (by have := HPs.out; have := HPB2.out; omega) HA1.out)
            have HF := Lib.hid (HK9.out.far _ _ (by have := HPs.out; omega) (by have := HPs.out; have := HPB2.out; omega) HF1.out)
            have HN := Lib.hid (HK9.out.far _ _ (by have := HPs.out; omega) (by have := HPs.out; have := HPB2.out; omega) HN1.out)
            have HBw := Lib.hid (HB1.out.trans (HK9.out.below _ (by have := HPs.out; omega)))
            have HPz : Hid (Mt.parse s.data.toList = .inr (70, (i : Int))) := Lib.hid (parse_read (by rw [← HPsp.out]; exact HBad.out))
            have e0 := Lib.cell_of_heap HN.out 0
            have e1 := Lib.cell_of_heap HN.out 1
            have e2 := Lib.cell_of_heap HN.out 2
            have e3 := Lib.cell_of_heap HN.out 3
            have e4 := Lib.cell_of_heap HN.out 4
            have e5 := Lib.cell_of_heap HN.out 5
            have e6 := Lib.cell_of_heap HN.out 6
            have e7 := Lib.cell_of_heap HN.out 7
            have a0 := Lib.cell_of_heap HA.out 0
            have a1 := Lib.cell_of_heap HA.out 1
            have a2 := Lib.cell_of_heap HA.out 2
            have a3 := Lib.cell_of_heap HA.out 3
            have a4 := Lib.cell_of_heap HA.out 4
            have a5 := Lib.cell_of_heap HA.out 5
            have a6 := Lib.cell_of_heap HA.out 6
            have a7 := Lib.cell_of_heap HA.out 7
            have d0 := Lib.frozen_of_heap HA.out 0
            have d1 := Lib.frozen_of_heap HA.out 1
            have d2 := Lib.frozen_of_heap HA.out 2
            have d3 := Lib.frozen_of_heap HA.out 3
            have d4 := Lib.frozen_of_heap HA.out 4
            have d5 := Lib.frozen_of_heap HA.out 5
            have d6 := Lib.frozen_of_heap HA.out 6
            have d7 := Lib.frozen_of_heap HA.out 7
            have b0 := Lib.cell_of_heap HF.out 0
            have b1 := Lib.cell_of_heap HF.out 1
            have f0 := Lib.frozen_of_heap HF.out 0
            have f1 := Lib.frozen_of_heap HF.out 1
            have HQ := Lib.hid (two_res W9 w.heap.size (w.heap.size + 1) (.int .i64 0) (.int .i64 0) (.int .i64 0) (.int .i64 0) (.int .i32 0) (.slice none 0 0) (.slice none 0 0) (.slice none 0 0) (.int .i64 70) (.int .i64 (i : Int)) HA.out HF.out (by omega))
            go_wp2
            obtain ⟨Wf, hWf⟩ : ∃ W, W = (((((((((W9.setCell ⟨w.heap.size, 0, none⟩ (.int .i64 0)).setCell ⟨w.heap.size, 1, none⟩ (.int .i64 0)).setCell ⟨w.heap.size, 2, none⟩ (.int .i64 0)).setCell ⟨w.heap.size, 3, none⟩ (.int .i64 0)).setCell ⟨w.heap.size, 4, none⟩ (.int .i32 0)).setCell ⟨w.heap.size, 5, none⟩ (.slice none 0 0)).setCell ⟨w.heap.size, 6, none⟩ (.slice none 0 0)).setCell ⟨w.heap.size, 7, none⟩ (.slice none 0 0)).setCell ⟨w.heap.size + 1, 0, none⟩ (.int .i64 70)).setCell ⟨w.heap.size + 1, 1, none⟩ (.int .i64 (i : Int)) := ⟨_, rfl⟩
            rw [← hWf] at HQ ⊢
            clear hWf
            have s0 := Lib.cell_of_heap HQ.out.1 0
            have s1 := Lib.cell_of_heap HQ.out.1 1
            have s2 := Lib.cell_of_heap HQ.out.1 2
            have s3 := Lib.cell_of_heap HQ.out.1 3
            have s4 := Lib.cell_of_heap HQ.out.1 4
            have s5 := Lib.cell_of_heap HQ.out.1 5
            have s6 := Lib.cell_of_heap HQ.out.1 6
            have s7 := Lib.cell_of_heap HQ.out.1 7
            have t0 := Lib.cell_of_heap HQ.out.2.1 0
            have t1 := Lib.cell_of_heap HQ.out.2.1 1
            have hBf : Below w.heap.size W9 Wf := HQ.out.2.2 _ (Nat.le_refl _) (Nat.le_succ _)
            exact bodyPost_ret (v := .tuple #[.agg #[.int .i64 0, .int .i64 0, .int .i64 0, .int .i64 0, .int .i32 0, .slice none 0 0, .slice none 0 0, .slice none 0 0], .agg #[.int .i64 70, .int .i64 (i : Int)]]) (by simp [results, Tryz.results9, go_sem, s0, s1, s2, s3, s4, s5, s6, s7, t0, t1]) rfl (parsePost_inr HPz.out (HBw.out.trans hBf))
          · have c3 : ¬ ((kk : Int) < 2) := by omega
            by_cases h4 : kk < last
            · have c4 : (kk : Int) < (last : Int) := by omega
              have HBad : Hid (Mt.read 0 0 {} ps = .inr i) := Lib.hid (by rw [HRd.out, HD.out, Hgo.out, ← HKK.out, hgd, if_neg h2, if_neg (by simp; omega)])
              have HA := Lib.hid (HK9.out.far _ _ (by have := HPs.out; omega) (by have := HPs.out; have := HPB2.out; omega) HA1.out)
              have HF := Lib.hid (HK9.out.far _ _ (by have := HPs.out; omega) (by have := HPs.out; have := HPB2.out; omega) HF1.out)
              have HN := Lib.hid (HK9.out.far _ _ (by have := HPs.out; omega) (by have := HPs.out; have := HPB2.out; omega) HN1.out)
              have HBw := Lib.hid (HB1.out.trans (HK9.out.below _ (by have := HPs.out; omega)))
              have HPz : Hid (Mt.parse s.data.toList = .inr (70, (i : Int))) := Lib.hid (parse_read (by rw [← HPsp.out]; exact HBad.out))
              have e0 := Lib.cell_of_heap HN.out 0
              have e1 := Lib.cell_of_heap HN.out 1
              have e2 := Lib.cell_of_heap HN.out 2
              have e3 := Lib.cell_of_heap HN.out 3
              have e4 := Lib.cell_of_heap HN.out 4
              have e5 := Lib.cell_of_heap HN.out 5
              have e6 := Lib.cell_of_heap HN.out 6
              have e7 := Lib.cell_of_heap HN.out 7
              have a0 := Lib.cell_of_heap HA.out 0
              have a1 := Lib.cell_of_heap HA.out 1
              have a2 := Lib.cell_of_heap HA.out 2
              have a3 := Lib.cell_of_heap HA.out 3
              have a4 := Lib.cell_of_heap HA.out 4
              have a5 := Lib.cell_of_heap HA.out 5
              have a6 := Lib.cell_of_heap HA.out 6
              have a7 := Lib.cell_of_heap HA.out 7
              have d0 := Lib.frozen_of_heap HA.out 0
              have d1 := Lib.frozen_of_heap HA.out 1
              have d2 := Lib.frozen_of_heap HA.out 2
              have d3 := Lib.frozen_of_heap HA.out 3
              have d4 := Lib.frozen_of_heap HA.out 4
              have d5 := Lib.frozen_of_heap HA.out 5
              have d6 := Lib.frozen_of_heap HA.out 6
              have d7 := Lib.frozen_of_heap HA.out 7
              have b0 := Lib.cell_of_heap HF.out 0
              have b1 := Lib.cell_of_heap HF.out 1
              have f0 := Lib.frozen_of_heap HF.out 0
              have f1 := Lib.frozen_of_heap HF.out 1
              have HQ := Lib.hid (two_res W9 w.heap.size (w.heap.size + 1) (.int .i64 0) (.int .i64 0) (.int .i64 0) (.int .i64 0) (.int .i32 0) (.slice none 0 0) (.slice none 0 0) (.slice none 0 0) (.int .i64 70) (.int .i64 (i : Int)) HA.out HF.out (by omega))
              go_wp2
              obtain ⟨Wf, hWf⟩ : ∃ W, W = (((((((((W9.setCell ⟨w.heap.size, 0, none⟩ (.int .i64 0)).setCell ⟨w.heap.size, 1, none⟩ (.int .i64 0)).setCell ⟨w.heap.size, 2, none⟩ (.int .i64 0)).setCell ⟨w.heap.size, 3, none⟩ (.int .i64 0)).setCell ⟨w.heap.size, 4, none⟩ (.int .i32 0)).setCell ⟨w.heap.size, 5, none⟩ (.slice none 0 0)).setCell ⟨w.heap.size, 6, none⟩ (.slice none 0 0)).setCell ⟨w.heap.size, 7, none⟩ (.slice none 0 0)).setCell ⟨w.heap.size + 1, 0, none⟩ (.int .i64 70)).setCell ⟨w.heap.size + 1, 1, none⟩ (.int .i64 (i : Int)) := ⟨_, rfl⟩
              rw [← hWf] at HQ ⊢
              clear hWf
              have s0 := Lib.cell_of_heap HQ.out.1 0
              have s1 := Lib.cell_of_heap HQ.out.1 1
              have s2 := Lib.cell_of_heap HQ.out.1 2
              have s3 := Lib.cell_of_heap HQ.out.1 3
              have s4 := Lib.cell_of_heap HQ.out.1 4
              have s5 := Lib.cell_of_heap HQ.out.1 5
              have s6 := Lib.cell_of_heap HQ.out.1 6
              have s7 := Lib.cell_of_heap HQ.out.1 7
              have t0 := Lib.cell_of_heap HQ.out.2.1 0
              have t1 := Lib.cell_of_heap HQ.out.2.1 1
              have hBf : Below w.heap.size W9 Wf := HQ.out.2.2 _ (Nat.le_refl _) (Nat.le_succ _)
              exact bodyPost_ret (v := .tuple #[.agg #[.int .i64 0, .int .i64 0, .int .i64 0, .int .i64 0, .int .i32 0, .slice none 0 0, .slice none 0 0, .slice none 0 0], .agg #[.int .i64 70, .int .i64 (i : Int)]]) (by simp [results, Tryz.results9, go_sem, s0, s1, s2, s3, s4, s5, s6, s7, t0, t1]) rfl (parsePost_inr HPz.out (HBw.out.trans hBf))
            · have c4 : ¬ ((kk : Int) < (last : Int)) := by omega
              have HGood : Hid (Mt.good i last kk = true) := Lib.hid (by rw [hgd, if_neg h2]; simp; omega)
              have HNx : Hid (Mt.read 0 0 {} ps = Mt.read (i + 1) kk (Mt.add m ln) (ps.drop (i + 1))) := Lib.hid (by rw [HRd.out, HD.out, Hgo.out, ← HKK.out, HGood.out, if_pos rfl, HD2.out])
              have r0 := Lib.cell_of_heap HR9.out 0
              have r1 := Lib.cell_of_heap HR9.out 1
              have r2 := Lib.cell_of_heap HR9.out 2
              have r3 := Lib.cell_of_heap HR9.out 3
              have r4 := Lib.cell_of_heap HR9.out 4
              have r5 := Lib.cell_of_heap HR9.out 5
              have r6 := Lib.cell_of_heap HR9.out 6
              have e0 := Lib.cell_of_heap HM9.out 0
              have e1 := Lib.cell_of_heap HM9.out 1
              have e2 := Lib.cell_of_heap HM9.out 2
              have e3 := Lib.cell_of_heap HM9.out 3
              have e4 := Lib.cell_of_heap HM9.out 4
              have e5 := Lib.cell_of_heap HM9.out 5
              have e6 := Lib.cell_of_heap HM9.out 6
              have e7 := Lib.cell_of_heap HM9.out 7
              have d0 := Lib.frozen_of_heap HM9.out 0
              have d1 := Lib.frozen_of_heap HM9.out 1
              have d2 := Lib.frozen_of_heap HM9.out 2
              have d3 := Lib.frozen_of_heap HM9.out 3
              have d4 := Lib.frozen_of_heap HM9.out 4
              have d5 := Lib.frozen_of_heap HM9.out 5
              have d6 := Lib.frozen_of_heap HM9.out 6
              have d7 := Lib.frozen_of_heap HM9.out 7
              have HWi := Lib.hid (with_any2 B m ln _ _ _ W9 (Nat.le_trans HBs.out HK9.out.size) HO9.out (by have := HLm.out; have := HIl.out; omega))
              rw [Hrv.out, ← HKK.out] at HWi
              unfold metV at HWi
              have HLn : Hid ((Mt.add m ln).chars.length + (Mt.add m ln).kerns.length + (Mt.add m ln).ligs.length ≤ i + 1) := Lib.hid (by have := add_lenP m ln; have := HLm.out; omega)
              generalize Mt.add m ln = m2 at HWi HNx HLn
              clear k9 hgd h3 h4
              go_wp2_with fail
              with_reducible refine HWi.out.mono ?_
              rintro e w10 ⟨v2, rfl, hp10, hb10⟩
              obtain ⟨x0, x1, x2, x3, x4, pc2, pk2, pl2, nc2, nk2, nl2, cc2, ck2, cl2, rfl, hmx, ho10⟩ := hp10.open
              have HMx := Lib.hid hmx
              clear hmx hp10 r0 r1 r2 r3 r4 r5 r6 e0 e1 e2 e3 e4 e5 e6 e7 d0 d1 d2 d3 d4 d5 d6 d7
              have HM10 : Hid (w10.heap[P]? = some (.cells #[.int .i64 m.sw, .int .i64 m.st, .int .i64 m.sk, .int .i64 m.order, .int .i32 m.hyph, .slice pc m.chars.length cc, .slice pk m.kerns.length ck, .slice pl m.ligs.length cl] 28 (0, 0))) := Lib.hid (by rw [hb10.block _ HPB2.out]; exact HM9.out)
              have HK10 := Lib.hid (HK9.out.trans (KeptB.of hb10 HPB.out))
              have e0 := Lib.cell_of_heap HM10.out 0
              have e1 := Lib.cell_of_heap HM10.out 1
              have e2 := Lib.cell_of_heap HM10.out 2
              have e3 := Lib.cell_of_heap HM10.out 3
              have e4 := Lib.cell_of_heap HM10.out 4
              have e5 := Lib.cell_of_heap HM10.out 5
              have e6 := Lib.cell_of_heap HM10.out 6
              have e7 := Lib.cell_of_heap HM10.out 7
              have d0 := Lib.frozen_of_heap HM10.out 0
              have d1 := Lib.frozen_of_heap HM10.out 1
              have d2 := Lib.frozen_of_heap HM10.out 2
              have d3 := Lib.frozen_of_heap HM10.out 3
              have d4 := Lib.frozen_of_heap HM10.out 4
              have d5 := Lib.frozen_of_heap HM10.out 5
              have d6 := Lib.frozen_of_heap HM10.out 6
              have d7 := Lib.frozen_of_heap HM10.out 7
              have HS8 := Lib.hid (set8 w10 P (.int .i64 x0) (.int .i64 x1) (.int .i64 x2) (.int .i64 x3) (.int .i32 x4) (.slice pc2 nc2 cc2) (.slice pk2 nk2 ck2) (.slice pl2 nl2 cl2) HM10.out)
              have HO10 := Lib.hid ho10
              clear ho10 hb10
              go_wp2
              go_roundw
              case rel => exact ⟨i + 1, kk, m2, .slice pc2 nc2 cc2, .slice pk2 nk2 ck2, .slice pl2 nl2 cl2, HIl.out, by go_num, rfl, HNx, Lib.hid (by rw [HMx.out]; exact HS8.out.1), Lib.hid ⟨HS8.out.2.2.2 _ _ _ _ _ _ (by decide) HO10.out.1, HS8.out.2.2.2 _ _ _ _ _ _ (by decide) HO10.out.2.1, HS8.out.2.2.2 _ _ _ _ _ _ (by decide) HO10.out.2.2⟩, Lib.hid (HK10.out.trans ⟨(HS8.out.2.1 _ (Nat.le_refl _)).size, fun b x h1 _ h3 => HS8.out.2.2.1 b x h1 h3, fun C hC => HS8.out.2.1 C hC⟩), HLn⟩
              case measure => have := HIl.out; simp [intOf]; omega
    · have hiN : i = N1 := by omega
      have hnN : n = N1 + 1 := by
        have h := hw1
        rw [IntWalk.i64_in _ (by omega)] at h
        omega
      have HD := Lib.hid (drop_oneP hl (by rw [← Hn.out]; omega))
      have hrd : Mt.read 0 0 {} ps = if l = [] ∧ 2 ≤ N1 then .inl m else .inr N1 := by rw [HRd.out, HD.out, hiN]; rfl
      have HRx := Lib.hid hrd
      have HnN := Lib.hid hnN
      rw [hiN] at y6
      have in0 : (0 : Int) ≤ (N1 : Int) := by omega
      have inl' : (N1 : Int) < (n : Int) := by omega
      clear hrd hl hnN
      have HA := Lib.hid (HK.out.far _ _ (by have := HPs.out; omega) (by have := HPs.out; have := HPB2.out; omega) HA1.out)
      have HF := Lib.hid (HK.out.far _ _ (by have := HPs.out; omega) (by have := HPs.out; have := HPB2.out; omega) HF1.out)
      have HN := Lib.hid (HK.out.far _ _ (by have := HPs.out; omega) (by have := HPs.out; have := HPB2.out; omega) HN1.out)
      have HBw := Lib.hid (HB1.out.trans (HK.out.below _ (by have := HPs.out; omega)))
      by_cases hl0 : l = []
      · subst hl0
        have hstr : (str ([] : List UInt8) : ByteArray) = ⟨#[]⟩ := rfl
        rw [hstr] at y6
        by_cases h2 : 2 ≤ N1
        · have hn3 : ¬ ((n : Int) < 3) := by have := HnN.out; omega
          have HGo : Hid (Mt.read 0 0 {} ps = .inl m) := Lib.hid (by rw [HRx.out, if_pos ⟨rfl, h2⟩])
          have HMay := Lib.hid (refMay_any _ m wr HO.out.met)
          unfold metV at HMay
          have r0 := Lib.cell_of_heap HM.out 0
          have r1 := Lib.cell_of_heap HM.out 1
          have r2 := Lib.cell_of_heap HM.out 2
          have r3 := Lib.cell_of_heap HM.out 3
          have r4 := Lib.cell_of_heap HM.out 4
          have r5 := Lib.cell_of_heap HM.out 5
          have r6 := Lib.cell_of_heap HM.out 6
          have r7 := Lib.cell_of_heap HM.out 7
          cases hmy : Mt.may m with
          | false =>
            rw [hmy] at HMay
            have HPz : Hid (Mt.parse s.data.toList = .inr (71, -1)) := Lib.hid (parse_not (by rw [← HPsp.out]; exact HGo.out) hmy)
            clear hmy
            go_wp2_with fail
            refine HMay.out.mono ?_
            rintro e w5 ⟨rfl, hb5⟩
            have HA5 := Lib.hid (obj_keptR hb5 HA.out)
            have HF5 := Lib.hid (obj_keptR hb5 HF.out)
            have HN5 := Lib.hid (obj_keptR hb5 HN.out)
            have HM5 := Lib.hid (obj_keptR hb5 HM.out)
            have HO5 := Lib.hid (Own3.mono HO.out hb5)
            have HBw5 := Lib.hid (HBw.out.trans (hb5.mono HBw.out.size))
            clear hb5 r0 r1 r2 r3 r4 r5 r6 r7 HA HF HN HM HO HBw
            have HA := HA5
            have HF := HF5
            have HN := HN5
            have HM := HM5
            have HO := HO5
            have HBw := HBw5
            have e0 := Lib.cell_of_heap HN.out 0
            have e1 := Lib.cell_of_heap HN.out 1
            have e2 := Lib.cell_of_heap HN.out 2
            have e3 := Lib.cell_of_heap HN.out 3
            have e4 := Lib.cell_of_heap HN.out 4
            have e5 := Lib.cell_of_heap HN.out 5
            have e6 := Lib.cell_of_heap HN.out 6
            have e7 := Lib.cell_of_heap HN.out 7
            have a0 := Lib.cell_of_heap HA.out 0
            have a1 := Lib.cell_of_heap HA.out 1
            have a2 := Lib.cell_of_heap HA.out 2
            have a3 := Lib.cell_of_heap HA.out 3
            have a4 := Lib.cell_of_heap HA.out 4
            have a5 := Lib.cell_of_heap HA.out 5
            have a6 := Lib.cell_of_heap HA.out 6
            have a7 := Lib.cell_of_heap HA.out 7
            have d0 := Lib.frozen_of_heap HA.out 0
            have d1 := Lib.frozen_of_heap HA.out 1
            have d2 := Lib.frozen_of_heap HA.out 2
            have d3 := Lib.frozen_of_heap HA.out 3
            have d4 := Lib.frozen_of_heap HA.out 4
            have d5 := Lib.frozen_of_heap HA.out 5
            have d6 := Lib.frozen_of_heap HA.out 6
            have d7 := Lib.frozen_of_heap HA.out 7
            have b0 := Lib.cell_of_heap HF.out 0
            have b1 := Lib.cell_of_heap HF.out 1
            have f0 := Lib.frozen_of_heap HF.out 0
            have f1 := Lib.frozen_of_heap HF.out 1
            have HQ := Lib.hid (two_res w5 w.heap.size (w.heap.size + 1) (.int .i64 0) (.int .i64 0) (.int .i64 0) (.int .i64 0) (.int .i32 0) (.slice none 0 0) (.slice none 0 0) (.slice none 0 0) (.int .i64 71) (.int .i64 (-1)) HA.out HF.out (by omega))
            go_wp2
            obtain ⟨Wf, hWf⟩ : ∃ W, W = (((((((((w5.setCell ⟨w.heap.size, 0, none⟩ (.int .i64 0)).setCell ⟨w.heap.size, 1, none⟩ (.int .i64 0)).setCell ⟨w.heap.size, 2, none⟩ (.int .i64 0)).setCell ⟨w.heap.size, 3, none⟩ (.int .i64 0)).setCell ⟨w.heap.size, 4, none⟩ (.int .i32 0)).setCell ⟨w.heap.size, 5, none⟩ (.slice none 0 0)).setCell ⟨w.heap.size, 6, none⟩ (.slice none 0 0)).setCell ⟨w.heap.size, 7, none⟩ (.slice none 0 0)).setCell ⟨w.heap.size + 1, 0, none⟩ (.int .i64 71)).setCell ⟨w.heap.size + 1, 1, none⟩ (.int .i64 (-1)) := ⟨_, rfl⟩
            rw [← hWf] at HQ ⊢
            clear hWf
            have s0 := Lib.cell_of_heap HQ.out.1 0
            have s1 := Lib.cell_of_heap HQ.out.1 1
            have s2 := Lib.cell_of_heap HQ.out.1 2
            have s3 := Lib.cell_of_heap HQ.out.1 3
            have s4 := Lib.cell_of_heap HQ.out.1 4
            have s5 := Lib.cell_of_heap HQ.out.1 5
            have s6 := Lib.cell_of_heap HQ.out.1 6
            have s7 := Lib.cell_of_heap HQ.out.1 7
            have t0 := Lib.cell_of_heap HQ.out.2.1 0
            have t1 := Lib.cell_of_heap HQ.out.2.1 1
            have hBf : Below w.heap.size w5 Wf := HQ.out.2.2 _ (Nat.le_refl _) (Nat.le_succ _)
            exact bodyPost_ret (v := .tuple #[.agg #[.int .i64 0, .int .i64 0, .int .i64 0, .int .i64 0, .int .i32 0, .slice none 0 0, .slice none 0 0, .slice none 0 0], .agg #[.int .i64 71, .int .i64 (-1)]]) (by simp [results, Tryz.results9, go_sem, s0, s1, s2, s3, s4, s5, s6, s7, t0, t1]) rfl (parsePost_inr HPz.out (HBw.out.trans hBf))
          | true =>
            rw [hmy] at HMay
            have HPz : Hid (Mt.parse s.data.toList = .inl m) := Lib.hid (parse_yes (by rw [← HPsp.out]; exact HGo.out) hmy)
            clear hmy
            go_wp2_with fail
            refine HMay.out.mono ?_
            rintro e w5 ⟨rfl, hb5⟩
            have HA5 := Lib.hid (obj_keptR hb5 HA.out)
            have HF5 := Lib.hid (obj_keptR hb5 HF.out)
            have HN5 := Lib.hid (obj_keptR hb5 HN.out)
            have HM5 := Lib.hid (obj_keptR hb5 HM.out)
            have HO5 := Lib.hid (Own3.mono HO.out hb5)
            have HBw5 := Lib.hid (HBw.out.trans (hb5.mono HBw.out.size))
            clear hb5 r0 r1 r2 r3 r4 r5 r6 r7 HA HF HN HM HO HBw
            have HA := HA5
            have HF := HF5
            have HN := HN5
            have HM := HM5
            have HO := HO5
            have HBw := HBw5
            have e0 := Lib.cell_of_heap HM.out 0
            have e1 := Lib.cell_of_heap HM.out 1
            have e2 := Lib.cell_of_heap HM.out 2
            have e3 := Lib.cell_of_heap HM.out 3
            have e4 := Lib.cell_of_heap HM.out 4
            have e5 := Lib.cell_of_heap HM.out 5
            have e6 := Lib.cell_of_heap HM.out 6
            have e7 := Lib.cell_of_heap HM.out 7
            have a0 := Lib.cell_of_heap HA.out 0
            have a1 := Lib.cell_of_heap HA.out 1
            have a2 := Lib.cell_of_heap HA.out 2
            have a3 := Lib.cell_of_heap HA.out 3
            have a4 := Lib.cell_of_heap HA.out 4
            have a5 := Lib.cell_of_heap HA.out 5
            have a6 := Lib.cell_of_heap HA.out 6
            have a7 := Lib.cell_of_heap HA.out 7
            have d0 := Lib.frozen_of_heap HA.out 0
            have d1 := Lib.frozen_of_heap HA.out 1
            have d2 := Lib.frozen_of_heap HA.out 2
            have d3 := Lib.frozen_of_heap HA.out 3
            have d4 := Lib.frozen_of_heap HA.out 4
            have d5 := Lib.frozen_of_heap HA.out 5
            have d6 := Lib.frozen_of_heap HA.out 6
            have d7 := Lib.frozen_of_heap HA.out 7
            have b0 := Lib.cell_of_heap HF.out 0
            have b1 := Lib.cell_of_heap HF.out 1
            have f0 := Lib.frozen_of_heap HF.out 0
            have f1 := Lib.frozen_of_heap HF.out 1
            have HQ := Lib.hid (two_res w5 w.heap.size (w.heap.size + 1) (.int .i64 m.sw) (.int .i64 m.st) (.int .i64 m.sk) (.int .i64 m.order) (.int .i32 m.hyph) (.slice pc m.chars.length cc) (.slice pk m.kerns.length ck) (.slice pl m.ligs.length cl) (.int .i64 0) (.int .i64 0) HA.out HF.out (by omega))
            go_wp2
            obtain ⟨Wf, hWf⟩ : ∃ W, W = (((((((((w5.setCell ⟨w.heap.size, 0, none⟩ (.int .i64 m.sw)).setCell ⟨w.heap.size, 1, none⟩ (.int .i64 m.st)).setCell ⟨w.heap.size, 2, none⟩ (.int .i64 m.sk)).setCell ⟨w.heap.size, 3, none⟩ (.int .i64 m.order)).setCell ⟨w.heap.size, 4, none⟩ (.int .i32 m.hyph)).setCell ⟨w.heap.size, 5, none⟩ (.slice pc m.chars.length cc)).setCell ⟨w.heap.size, 6, none⟩ (.slice pk m.kerns.length ck)).setCell ⟨w.heap.size, 7, none⟩ (.slice pl m.ligs.length cl)).setCell ⟨w.heap.size + 1, 0, none⟩ (.int .i64 0)).setCell ⟨w.heap.size + 1, 1, none⟩ (.int .i64 0) := ⟨_, rfl⟩
            rw [← hWf] at HQ ⊢
            have HX1 := (show OwnR _ _ _ _ _ _ Wf by rw [hWf]; exact ((((((((((HO.out.1).set7 (by have := HPs.out; have := HPB2.out; omega)).set7 (by have := HPs.out; have := HPB2.out; omega)).set7 (by have := HPs.out; have := HPB2.out; omega)).set7 (by have := HPs.out; have := HPB2.out; omega)).set7 (by have := HPs.out; have := HPB2.out; omega)).set7 (by have := HPs.out; have := HPB2.out; omega)).set7 (by have := HPs.out; have := HPB2.out; omega)).set7 (by have := HPs.out; have := HPB2.out; omega)).set7 (by have := HPs.out; have := HPB2.out; omega)).set7 (by have := HPs.out; have := HPB2.out; omega))
            have HX2 := (show OwnR _ _ _ _ _ _ Wf by rw [hWf]; exact ((((((((((HO.out.2.1).set7 (by have := HPs.out; have := HPB2.out; omega)).set7 (by have := HPs.out; have := HPB2.out; omega)).set7 (by have := HPs.out; have := HPB2.out; omega)).set7 (by have := HPs.out; have := HPB2.out; omega)).set7 (by have := HPs.out; have := HPB2.out; omega)).set7 (by have := HPs.out; have := HPB2.out; omega)).set7 (by have := HPs.out; have := HPB2.out; omega)).set7 (by have := HPs.out; have := HPB2.out; omega)).set7 (by have := HPs.out; have := HPB2.out; omega)).set7 (by have := HPs.out; have := HPB2.out; omega))
            have HX3 := (show OwnR _ _ _ _ _ _ Wf by rw [hWf]; exact ((((((((((HO.out.2.2).set7 (by have := HPs.out; have := HPB2.out; omega)).set7 (by have := HPs.out; have := HPB2.out; omega)).set7 (by have := HPs.out; have := HPB2.out; omega)).set7 (by have := HPs.out; have := HPB2.out; omega)).set7 (by have := HPs.out; have := HPB2.out; omega)).set7 (by have := HPs.out; have := HPB2.out; omega)).set7 (by have := HPs.out; have := HPB2.out; omega)).set7 (by have := HPs.out; have := HPB2.out; omega)).set7 (by have := HPs.out; have := HPB2.out; omega)).set7 (by have := HPs.out; have := HPB2.out; omega))
            clear hWf
            have s0 := Lib.cell_of_heap HQ.out.1 0
            have s1 := Lib.cell_of_heap HQ.out.1 1
            have s2 := Lib.cell_of_heap HQ.out.1 2
            have s3 := Lib.cell_of_heap HQ.out.1 3
            have s4 := Lib.cell_of_heap HQ.out.1 4
            have s5 := Lib.cell_of_heap HQ.out.1 5
            have s6 := Lib.cell_of_heap HQ.out.1 6
            have s7 := Lib.cell_of_heap HQ.out.1 7
            have t0 := Lib.cell_of_heap HQ.out.2.1 0
            have t1 := Lib.cell_of_heap HQ.out.2.1 1
            have hBf : Below w.heap.size w5 Wf := HQ.out.2.2 _ (Nat.le_refl _) (Nat.le_succ _)
            exact bodyPost_ret (v := .tuple #[.agg #[.int .i64 m.sw, .int .i64 m.st, .int .i64 m.sk, .int .i64 m.order, .int .i32 m.hyph, .slice pc m.chars.length cc, .slice pk m.kerns.length ck, .slice pl m.ligs.length cl], .agg #[.int .i64 0, .int .i64 0]]) (by simp [results, Tryz.results9, go_sem, s0, s1, s2, s3, s4, s5, s6, s7, t0, t1]) rfl (by unfold ParsePost; rw [HPz.out]; exact ⟨_, rfl, ⟨_, _, _, rfl, HX1.at (fun _ => rfl), HX2.at (fun _ => rfl), HX3.at (fun _ => rfl)⟩, HBw.out.trans hBf⟩)
        · have HBad : Hid (Mt.read 0 0 {} ps = .inr N1) := Lib.hid (by rw [HRx.out, if_neg (fun h => h2 h.2)])
          have hn3 : (n : Int) < 3 := by have := HnN.out; omega
          have HPz : Hid (Mt.parse s.data.toList = .inr (70, (N1 : Int))) := Lib.hid (parse_read (by rw [← HPsp.out]; exact HBad.out))
          have e0 := Lib.cell_of_heap HN.out 0
          have e1 := Lib.cell_of_heap HN.out 1
          have e2 := Lib.cell_of_heap HN.out 2
          have e3 := Lib.cell_of_heap HN.out 3
          have e4 := Lib.cell_of_heap HN.out 4
          have e5 := Lib.cell_of_heap HN.out 5
          have e6 := Lib.cell_of_heap HN.out 6
          have e7 := Lib.cell_of_heap HN.out 7
          have a0 := Lib.cell_of_heap HA.out 0
          have a1 := Lib.cell_of_heap HA.out 1
          have a2 := Lib.cell_of_heap HA.out 2
          have a3 := Lib.cell_of_heap HA.out 3
          have a4 := Lib.cell_of_heap HA.out 4
          have a5 := Lib.cell_of_heap HA.out 5
          have a6 := Lib.cell_of_heap HA.out 6
          have a7 := Lib.cell_of_heap HA.out 7
          have d0 := Lib.frozen_of_heap HA.out 0
          have d1 := Lib.frozen_of_heap HA.out 1
          have d2 := Lib.frozen_of_heap HA.out 2
          have d3 := Lib.frozen_of_heap HA.out 3
          have d4 := Lib.frozen_of_heap HA.out 4
          have d5 := Lib.frozen_of_heap HA.out 5
          have d6 := Lib.frozen_of_heap HA.out 6
          have d7 := Lib.frozen_of_heap HA.out 7
          have b0 := Lib.cell_of_heap HF.out 0
          have b1 := Lib.cell_of_heap HF.out 1
          have f0 := Lib.frozen_of_heap HF.out 0
          have f1 := Lib.frozen_of_heap HF.out 1
          have HQ := Lib.hid (two_res wr w.heap.size (w.heap.size + 1) (.int .i64 0) (.int .i64 0) (.int .i64 0) (.int .i64 0) (.int .i32 0) (.slice none 0 0) (.slice none 0 0) (.slice none 0 0) (.int .i64 70) (.int .i64 (N1 : Int)) HA.out HF.out (by omega))
          go_wp2
          obtain ⟨Wf, hWf⟩ : ∃ W, W = (((((((((wr.setCell ⟨w.heap.size, 0, none⟩ (.int .i64 0)).setCell ⟨w.heap.size, 1, none⟩ (.int .i64 0)).setCell ⟨w.heap.size, 2, none⟩ (.int .i64 0)).setCell ⟨w.heap.size, 3, none⟩ (.int .i64 0)).setCell ⟨w.heap.size, 4, none⟩ (.int .i32 0)).setCell ⟨w.heap.size, 5, none⟩ (.slice none 0 0)).setCell ⟨w.heap.size, 6, none⟩ (.slice none 0 0)).setCell ⟨w.heap.size, 7, none⟩ (.slice none 0 0)).setCell ⟨w.heap.size + 1, 0, none⟩ (.int .i64 70)).setCell ⟨w.heap.size + 1, 1, none⟩ (.int .i64 (N1 : Int)) := ⟨_, rfl⟩
          rw [← hWf] at HQ ⊢
          clear hWf
          have s0 := Lib.cell_of_heap HQ.out.1 0
          have s1 := Lib.cell_of_heap HQ.out.1 1
          have s2 := Lib.cell_of_heap HQ.out.1 2
          have s3 := Lib.cell_of_heap HQ.out.1 3
          have s4 := Lib.cell_of_heap HQ.out.1 4
          have s5 := Lib.cell_of_heap HQ.out.1 5
          have s6 := Lib.cell_of_heap HQ.out.1 6
          have s7 := Lib.cell_of_heap HQ.out.1 7
          have t0 := Lib.cell_of_heap HQ.out.2.1 0
          have t1 := Lib.cell_of_heap HQ.out.2.1 1
          have hBf : Below w.heap.size wr Wf := HQ.out.2.2 _ (Nat.le_refl _) (Nat.le_succ _)
          exact bodyPost_ret (v := .tuple #[.agg #[.int .i64 0, .int .i64 0, .int .i64 0, .int .i64 0, .int .i32 0, .slice none 0 0, .slice none 0 0, .slice none 0 0], .agg #[.int .i64 70, .int .i64 (N1 : Int)]]) (by simp [results, Tryz.results9, go_sem, s0, s1, s2, s3, s4, s5, s6, s7, t0, t1]) rfl (parsePost_inr HPz.out (HBw.out.trans hBf))
      · have HBad : Hid (Mt.read 0 0 {} ps = .inr N1) := Lib.hid (by rw [HRx.out, if_neg (fun h => hl0 h.1)])
        have hxe : (str l).toList.isEmpty = false := by rw [Lib.toList_data, str_data]; exact List.isEmpty_eq_false_iff.2 hl0
        have HPz : Hid (Mt.parse s.data.toList = .inr (70, (N1 : Int))) := Lib.hid (parse_read (by rw [← HPsp.out]; exact HBad.out))
        have e0 := Lib.cell_of_heap HN.out 0
        have e1 := Lib.cell_of_heap HN.out 1
        have e2 := Lib.cell_of_heap HN.out 2
        have e3 := Lib.cell_of_heap HN.out 3
        have e4 := Lib.cell_of_heap HN.out 4
        have e5 := Lib.cell_of_heap HN.out 5
        have e6 := Lib.cell_of_heap HN.out 6
        have e7 := Lib.cell_of_heap HN.out 7
        have a0 := Lib.cell_of_heap HA.out 0
        have a1 := Lib.cell_of_heap HA.out 1
        have a2 := Lib.cell_of_heap HA.out 2
        have a3 := Lib.cell_of_heap HA.out 3
        have a4 := Lib.cell_of_heap HA.out 4
        have a5 := Lib.cell_of_heap HA.out 5
        have a6 := Lib.cell_of_heap HA.out 6
        have a7 := Lib.cell_of_heap HA.out 7
        have d0 := Lib.frozen_of_heap HA.out 0
        have d1 := Lib.frozen_of_heap HA.out 1
        have d2 := Lib.frozen_of_heap HA.out 2
        have d3 := Lib.frozen_of_heap HA.out 3
        have d4 := Lib.frozen_of_heap HA.out 4
        have d5 := Lib.frozen_of_heap HA.out 5
        have d6 := Lib.frozen_of_heap HA.out 6
        have d7 := Lib.frozen_of_heap HA.out 7
        have b0 := Lib.cell_of_heap HF.out 0
        have b1 := Lib.cell_of_heap HF.out 1
        have f0 := Lib.frozen_of_heap HF.out 0
        have f1 := Lib.frozen_of_heap HF.out 1
        have HQ := Lib.hid (two_res wr w.heap.size (w.heap.size + 1) (.int .i64 0) (.int .i64 0) (.int .i64 0) (.int .i64 0) (.int .i32 0) (.slice none 0 0) (.slice none 0 0) (.slice none 0 0) (.int .i64 70) (.int .i64 (N1 : Int)) HA.out HF.out (by omega))
        go_wp2
        obtain ⟨Wf, hWf⟩ : ∃ W, W = (((((((((wr.setCell ⟨w.heap.size, 0, none⟩ (.int .i64 0)).setCell ⟨w.heap.size, 1, none⟩ (.int .i64 0)).setCell ⟨w.heap.size, 2, none⟩ (.int .i64 0)).setCell ⟨w.heap.size, 3, none⟩ (.int .i64 0)).setCell ⟨w.heap.size, 4, none⟩ (.int .i32 0)).setCell ⟨w.heap.size, 5, none⟩ (.slice none 0 0)).setCell ⟨w.heap.size, 6, none⟩ (.slice none 0 0)).setCell ⟨w.heap.size, 7, none⟩ (.slice none 0 0)).setCell ⟨w.heap.size + 1, 0, none⟩ (.int .i64 70)).setCell ⟨w.heap.size + 1, 1, none⟩ (.int .i64 (N1 : Int)) := ⟨_, rfl⟩
        rw [← hWf] at HQ ⊢
        clear hWf
        have s0 := Lib.cell_of_heap HQ.out.1 0
        have s1 := Lib.cell_of_heap HQ.out.1 1
        have s2 := Lib.cell_of_heap HQ.out.1 2
        have s3 := Lib.cell_of_heap HQ.out.1 3
        have s4 := Lib.cell_of_heap HQ.out.1 4
        have s5 := Lib.cell_of_heap HQ.out.1 5
        have s6 := Lib.cell_of_heap HQ.out.1 6
        have s7 := Lib.cell_of_heap HQ.out.1 7
        have t0 := Lib.cell_of_heap HQ.out.2.1 0
        have t1 := Lib.cell_of_heap HQ.out.2.1 1
        have hBf : Below w.heap.size wr Wf := HQ.out.2.2 _ (Nat.le_refl _) (Nat.le_succ _)
        exact bodyPost_ret (v := .tuple #[.agg #[.int .i64 0, .int .i64 0, .int .i64 0, .int .i64 0, .int .i32 0, .slice none 0 0, .slice none 0 0, .slice none 0 0], .agg #[.int .i64 70, .int .i64 (N1 : Int)]]) (by simp [results, Tryz.results9, go_sem, s0, s1, s2, s3, s4, s5, s6, s7, t0, t1]) rfl (parsePost_inr HPz.out (HBw.out.trans hBf))
end Go.Proofs.YtmehldekebphfaaGreatDoor

namespace Go.Proofs.YtmehldekebphfaaGreatDoor
open Go.RowKit

theorem met_zero (w : World) : MetAt w (.agg #[.int .i64 0, .int .i64 0, .int .i64 0, .int .i64 0, .int .i32 0, .slice none 0 0, .slice none 0 0, .slice none 0 0]) {} := ⟨.slice none 0 0, .slice none 0 0, .slice none 0 0, rfl, slc_none _ _ _, slc_none _ _ _, slc_none _ _ _⟩
set_option maxHeartbeats 8000000 in
set_option maxRecDepth 100000 in
theorem lawParses7 {W0 : World} (C : MetW W0) (s : ByteArray) (hs : s.size ≤ 100000000) (w : World) (hw : Below W0.heap.size W0 w) : Calls Tryz.prog 3 #[.string s] w (Ret (.bool true) w) := by
  have HFx := Lib.hid (fun w' (hb : Below w.heap.size w w') => fixedW7 C w' (below_step hw hb))
  have cPs := Lib.hid (C.parse s w hw (by omega))
  have cRs := Lib.hid (fun w => refParse7_any s hs w)
  have hps : (∃ b, Mt.parse s.data.toList = .inl b) ∨ ∃ xc xa, Mt.parse s.data.toList = .inr (xc, xa) := by
    cases h : Mt.parse s.data.toList with
    | inl b => exact .inl ⟨b, rfl⟩
    | inr x => exact .inr ⟨x.1, x.2, rfl⟩
  clear C hw
  rcases hps with ⟨b, hb⟩ | ⟨xc, xa, hx⟩
  · have cPs := Lib.hid (cPs.out.mono fun e w2 h => parse_inl hb h)
    have cRs := Lib.hid (fun w => (cRs.out w).mono fun e w2 h => parse_inl hb h)
    have q1 : ∀ wx, (binOp .eql 31 (.agg #[.int .i64 0, .int .i64 0]) (.agg #[.int .i64 0, .int .i64 0])).run Tryz.prog wx = .ok (.bool true) wx := fun wx => by rw [eqFlt]; rfl
    clear hb
    go_enter Tryz.func3, Tryz.ntmps3
    go_wp2_with fail
    refine cPs.out.mono ?_
    rintro e w2 ⟨v1, rfl, hm1, hb2⟩
    obtain ⟨sw1, st1, sk1, so1, hy1, pc1, na1, cc1, pk1, nb1, ck1, pl1, nc1, cl1, rfl⟩ := met_open hm1
    have HB2 := Lib.hid hb2
    have HM1 := Lib.hid hm1
    clear hb2 hm1
    have hbs1 := below_two w2 (.cells #[.int .i64 sw1, .int .i64 st1, .int .i64 sk1, .int .i64 so1, .int .i32 hy1, .slice pc1 na1 cc1, .slice pk1 nb1 ck1, .slice pl1 nc1 cl1] 28) (.cells #[.int .i64 0, .int .i64 0] 31)
    have HL1 := Lib.hid (laid_two w2 #[.int .i64 sw1, .int .i64 st1, .int .i64 sk1, .int .i64 so1, .int .i32 hy1, .slice pc1 na1 cc1, .slice pk1 nb1 ck1, .slice pl1 nc1 cl1] 28 (.cells #[.int .i64 0, .int .i64 0] 31))
    have HF1 := Lib.hid (flt_two7 w2 (.cells #[.int .i64 sw1, .int .i64 st1, .int .i64 sk1, .int .i64 so1, .int .i32 hy1, .slice pc1 na1 cc1, .slice pk1 nb1 ck1, .slice pl1 nc1 cl1] 28) 0 0)
    have HB := Lib.hid (below_step HB2.out hbs1)
    have HM1 := Lib.hid (HM1.out.mono hbs1)
    clear hbs1
    go_wp2_with fail
    refine (cRs.out _).mono ?_
    rintro e w3 ⟨v2, rfl, hm2, hb3⟩
    obtain ⟨sw2, st2, sk2, so2, hy2, pc2, na2, cc2, pk2, nb2, ck2, pl2, nc2, cl2, rfl⟩ := met_open hm2
    have HB := Lib.hid (below_step HB.out hb3)
    have HM1 := Lib.hid (HM1.out.mono hb3)
    have HL1 := Lib.hid (HL1.out.mono hb3)
    have HF1 := Lib.hid (HF1.out.mono hb3)
    have HM2 := Lib.hid hm2
    clear hb3 hm2
    have hbs2 := below_two w3 (.cells #[.int .i64 sw2, .int .i64 st2, .int .i64 sk2, .int .i64 so2, .int .i32 hy2, .slice pc2 na2 cc2, .slice pk2 nb2 ck2, .slice pl2 nc2 cl2] 28) (.cells #[.int .i64 0, .int .i64 0] 31)
    have HL2 := Lib.hid (laid_two w3 #[.int .i64 sw2, .int .i64 st2, .int .i64 sk2, .int .i64 so2, .int .i32 hy2, .slice pc2 na2 cc2, .slice pk2 nb2 ck2, .slice pl2 nc2 cl2] 28 (.cells #[.int .i64 0, .int .i64 0] 31))
    have HF2 := Lib.hid (flt_two7 w3 (.cells #[.int .i64 sw2, .int .i64 st2, .int .i64 sk2, .int .i64 so2, .int .i32 hy2, .slice pc2 na2 cc2, .slice pk2 nb2 ck2, .slice pl2 nc2 cl2] 28) 0 0)
    have HB := Lib.hid (below_step HB.out hbs2)
    have HM1 := Lib.hid (HM1.out.mono hbs2)
    have HL1 := Lib.hid (HL1.out.mono hbs2)
    have HF1 := Lib.hid (HF1.out.mono hbs2)
    have HM2 := Lib.hid (HM2.out.mono hbs2)
    clear hbs2
    go_wp2_with fail
    refine (HFx.out _ HB.out).mono ?_
    rintro e w4 ⟨rfl, hb4⟩
    have HB := Lib.hid (below_step HB.out hb4)
    have HM1 := Lib.hid (HM1.out.mono hb4)
    have HL1 := Lib.hid (HL1.out.mono hb4)
    have HF1 := Lib.hid (HF1.out.mono hb4)
    have HM2 := Lib.hid (HM2.out.mono hb4)
    have HL2 := Lib.hid (HL2.out.mono hb4)
    have HF2 := Lib.hid (HF2.out.mono hb4)
    clear hb4
    have y0 := HL1.out.at_ 0 _ rfl
    have z0 := HL2.out.at_ 0 _ rfl
    have y1 := HL1.out.at_ 1 _ rfl
    have z1 := HL2.out.at_ 1 _ rfl
    have y2 := HL1.out.at_ 2 _ rfl
    have z2 := HL2.out.at_ 2 _ rfl
    have y3 := HL1.out.at_ 3 _ rfl
    have z3 := HL2.out.at_ 3 _ rfl
    have y4 := HL1.out.at_ 4 _ rfl
    have z4 := HL2.out.at_ 4 _ rfl
    have y5 := HL1.out.at_ 5 _ rfl
    have z5 := HL2.out.at_ 5 _ rfl
    have y6 := HL1.out.at_ 6 _ rfl
    have z6 := HL2.out.at_ 6 _ rfl
    have y7 := HL1.out.at_ 7 _ rfl
    have z7 := HL2.out.at_ 7 _ rfl
    go_wp2_with fail
    refine (is_self _ _ _ _ HM1.out HM2.out).mono ?_
    rintro e w5 ⟨rfl, hb5⟩
    have HB := Lib.hid (below_step HB.out hb5)
    have HF1 := Lib.hid (HF1.out.mono hb5)
    have HF2 := Lib.hid (HF2.out.mono hb5)
    clear hb5
    clear y0 z0 y1 z1 y2 z2 y3 z3 y4 z4 y5 z5 y6 z6 y7 z7
    have f0 := HF1.out.c0
    have f1 := HF1.out.c1
    have g0 := HF2.out.c0
    have g1 := HF2.out.c1
    go_wp2
    go_ret
    exact ⟨rfl, HB.out⟩
  · have cPs := Lib.hid (cPs.out.mono fun e w2 h => parse_inr hx h)
    have cRs := Lib.hid (fun w => (cRs.out w).mono fun e w2 h => parse_inr hx h)
    unfold zeroM at cPs cRs
    have q1 : ∀ wx, (binOp .eql 31 (.agg #[.int .i64 xc, .int .i64 xa]) (.agg #[.int .i64 xc, .int .i64 xa])).run Tryz.prog wx = .ok (.bool true) wx := fun wx => by rw [eqFlt]; simp
    clear hx
    go_enter Tryz.func3, Tryz.ntmps3
    go_wp2_with fail
    refine cPs.out.mono ?_
    rintro e w2 ⟨rfl, hb2⟩
    have HB2 := Lib.hid hb2
    clear hb2
    have hbs1 := below_two w2 (.cells #[.int .i64 0, .int .i64 0, .int .i64 0, .int .i64 0, .int .i32 0, .slice none 0 0, .slice none 0 0, .slice none 0 0] 28) (.cells #[.int .i64 xc, .int .i64 xa] 31)
    have HL1 := Lib.hid (laid_two w2 #[.int .i64 0, .int .i64 0, .int .i64 0, .int .i64 0, .int .i32 0, .slice none 0 0, .slice none 0 0, .slice none 0 0] 28 (.cells #[.int .i64 xc, .int .i64 xa] 31))
    have HF1 := Lib.hid (flt_two7 w2 (.cells #[.int .i64 0, .int .i64 0, .int .i64 0, .int .i64 0, .int .i32 0, .slice none 0 0, .slice none 0 0, .slice none 0 0] 28) xc xa)
    have HB := Lib.hid (below_step HB2.out hbs1)
    have HM1 := Lib.hid (met_zero w2)
    have HM1 := Lib.hid (HM1.out.mono hbs1)
    clear hbs1
    go_wp2_with fail
    refine (cRs.out _).mono ?_
    rintro e w3 ⟨rfl, hb3⟩
    have HB := Lib.hid (below_step HB.out hb3)
    have HM1 := Lib.hid (HM1.out.mono hb3)
    have HL1 := Lib.hid (HL1.out.mono hb3)
    have HF1 := Lib.hid (HF1.out.mono hb3)
    clear hb3
    have hbs2 := below_two w3 (.cells #[.int .i64 0, .int .i64 0, .int .i64 0, .int .i64 0, .int .i32 0, .slice none 0 0, .slice none 0 0, .slice none 0 0] 28) (.cells #[.int .i64 xc, .int .i64 xa] 31)
    have HL2 := Lib.hid (laid_two w3 #[.int .i64 0, .int .i64 0, .int .i64 0, .int .i64 0, .int .i32 0, .slice none 0 0, .slice none 0 0, .slice none 0 0] 28 (.cells #[.int .i64 xc, .int .i64 xa] 31))
    have HF2 := Lib.hid (flt_two7 w3 (.cells #[.int .i64 0, .int .i64 0, .int .i64 0, .int .i64 0, .int .i32 0, .slice none 0 0, .slice none 0 0, .slice none 0 0] 28) xc xa)
    have HB := Lib.hid (below_step HB.out hbs2)
    have HM1 := Lib.hid (HM1.out.mono hbs2)
    have HL1 := Lib.hid (HL1.out.mono hbs2)
    have HF1 := Lib.hid (HF1.out.mono hbs2)
    have HM2 := Lib.hid (met_zero w3)
    have HM2 := Lib.hid (HM2.out.mono hbs2)
    clear hbs2
    go_wp2_with fail
    refine (HFx.out _ HB.out).mono ?_
    rintro e w4 ⟨rfl, hb4⟩
    have HB := Lib.hid (below_step HB.out hb4)
    have HM1 := Lib.hid (HM1.out.mono hb4)
    have HL1 := Lib.hid (HL1.out.mono hb4)
    have HF1 := Lib.hid (HF1.out.mono hb4)
    have HM2 := Lib.hid (HM2.out.mono hb4)
    have HL2 := Lib.hid (HL2.out.mono hb4)
    have HF2 := Lib.hid (HF2.out.mono hb4)
    clear hb4
    have y0 := HL1.out.at_ 0 _ rfl
    have z0 := HL2.out.at_ 0 _ rfl
    have y1 := HL1.out.at_ 1 _ rfl
    have z1 := HL2.out.at_ 1 _ rfl
    have y2 := HL1.out.at_ 2 _ rfl
    have z2 := HL2.out.at_ 2 _ rfl
    have y3 := HL1.out.at_ 3 _ rfl
    have z3 := HL2.out.at_ 3 _ rfl
    have y4 := HL1.out.at_ 4 _ rfl
    have z4 := HL2.out.at_ 4 _ rfl
    have y5 := HL1.out.at_ 5 _ rfl
    have z5 := HL2.out.at_ 5 _ rfl
    have y6 := HL1.out.at_ 6 _ rfl
    have z6 := HL2.out.at_ 6 _ rfl
    have y7 := HL1.out.at_ 7 _ rfl
    have z7 := HL2.out.at_ 7 _ rfl
    go_wp2_with fail
    refine (is_self _ _ _ _ HM1.out HM2.out).mono ?_
    rintro e w5 ⟨rfl, hb5⟩
    have HB := Lib.hid (below_step HB.out hb5)
    have HF1 := Lib.hid (HF1.out.mono hb5)
    have HF2 := Lib.hid (HF2.out.mono hb5)
    clear hb5
    clear y0 z0 y1 z1 y2 z2 y3 z3 y4 z4 y5 z5 y6 z6 y7 z7
    have f0 := HF1.out.c0
    have f1 := HF1.out.c1
    have g0 := HF2.out.c0
    have g1 := HF2.out.c1
    go_wp2
    go_ret
    exact ⟨rfl, HB.out⟩
end Go.Proofs.YtmehldekebphfaaGreatDoor

namespace Go.Proofs.YtmehldekebphfaaGreatDoor
open Go.ChangeShapes Go.WideShapes Go.ChangeAt Go.RowKit

set_option maxRecDepth 100000 in
/-- WHAT THE WALK GIVES, FOR EVERY ARGUMENT OF SUCH A BULK AND EVERY WORLD. -/
theorem metricParses_contract (H : Type) (enc : TypeId × Value → H) (W : World) (base : Nat) (args : Array Value) (ds gs : List (DataW H)) (before : List MemPlace)
    (hval : ∀ (j : Nat) t v, Tryz.f3.params[j]? = some t → args[j]? = some v → Value.okWide Tryz.prog W .any base t v)
    (hW : DataW.Whole enc Tryz.prog Tryz.f3.params.toList Rows.metricParsesSpec.vars false W args.toList ds gs before) (hk : Rows.uptoSmall H (ds ++ gs) = true) (C : MetW W) :
    Calls Tryz.prog 3 args W fun e W' => ∃ v, e = .returned v ∧ Rows.metricParsesSpec.post enc Tryz.prog Tryz.f3 false true false false W args v W' := by
  have hW' := hW
  have hlt : ∀ x ∈ before, x.block < W.heap.size := fun x hx => hW'.lt x hx
  obtain ⟨p, q, hA0, hV, hbe, hfz, hnd⟩ := hW
  have hA : DataW.TrodAll enc Tryz.prog W 0 (fun _ => true) true Tryz.f3.params.toList args.toList ds p := hA0
  rw [Tryz.params3] at hA hval
  have hAk := hA
  obtain ⟨v0, vs0, d0, ds0, p0, q0, hargs, rfl, rfl, h0, r0⟩ := trodAll_cons hA
  obtain ⟨rfl, rfl, rfl⟩ := trodAll_nil r0
  obtain rfl : args = #[v0] := by cases args; simp_all
  obtain ⟨rfl, rfl⟩ := trodVars_none hV
  have hb : Rows.uptoBulkAll ([d0] ++ []) ≤ 1048576 := of_decide_eq_true hk
  simp only [List.append_nil, Rows.uptoBulkAll] at hb
  obtain ⟨x0, rfl, rfl, _, _⟩ := Go.ChangeMaps.open_string Tryz.underlying9 (hval 0 _ v0 rfl rfl) h0
  have hsz0 := Lib.size_eq x0
  try simp only [Rows.uptoBulk] at hb
  refine (lawParses7 C x0 (by omega) W (Below.refl _ _)).mono fun e W' ⟨he, hb⟩ => ?_
  subst he
  obtain ⟨D0, hD0⟩ : ∃ D, D = (DataW.lit (H := H) (.string x0.data.toList)) := ⟨_, rfl⟩
  rw [← hD0] at hAk hW'
  have e1 : Rows.metricParsesSpec.fn H ([D0] ++ []) = { results := [.lit (.bool true)], args := [D0] } := rfl
  refine ⟨_, rfl, [D0], [], before, [], p0 ++ [], [], hW', ?_, ?_, ?_, hb.frame _, fun h => by cases h⟩
  · rw [e1]; exact trodAll_mk1 (shut_bool Tryz.underlying4 true)
  · rw [e1, Tryz.params3]
    exact args_kept laidOut hb _ _ _ _ (by
      intro t ht
      have : t = 9 := by simpa using ht
      rcases this with rfl
      all_goals exact ⟨by kernel_rfl, of_decide_eq_true (by kernel_rfl)⟩) hAk (fun x hx => hlt x (by rw [hbe]; exact List.mem_append_left _ hx))
  · rw [e1]; rfl

theorem metricParses_laid_met (os : Os) : laidMet Tryz.prog Rows.metricParsesRow.laid ((World.laidAll Tryz.prog os laidList).forCall (fun _ _ => 0) ⟨#[], #[.string ByteArray.empty], []⟩).memory :=
  laidMet_laidAll _ (by kernel_rfl) (by kernel_rfl)
theorem metricParses_reads (os : Os) {H : Type} (enc : TypeId × Value → H) : ∃ places, DataW.whole enc Tryz.prog ((World.laidAll Tryz.prog os laidList).forCall (fun _ _ => 0) ⟨#[], #[.string ByteArray.empty], []⟩).memory Tryz.f3.params.toList Rows.metricParsesSpec.vars false #[Value.string ByteArray.empty].toList 8 = some ([.lit (.string [])], [], places) :=
  ⟨[], by kernel_rfl⟩

set_option maxRecDepth 100000 in
theorem metricParses_lifted (os : Os) (started : os.Started) (H : Type) (enc : TypeId × Value → H) (F : Stop.Interp) :
    ReturnsInHanded {} Tryz.checked os 3 .any ((Rows.OpenSpec.upto Rows.metricParsesSpec).preRow enc Tryz.prog Tryz.f3 Rows.metricParsesUptoRow.domain false Rows.metricParsesUptoRow.laid) (((Rows.OpenSpec.upto Rows.metricParsesSpec).at F).post enc Tryz.prog Tryz.f3 false true false false) := by
  obtain ⟨places, hx⟩ := metricParses_reads os enc
  refine returnsInHanded_of_row (C := Tryz.checked) (s := Rows.OpenSpec.upto Rows.metricParsesSpec) own started (by kernel_rfl) Tryz.func3
    (witness_row_atRef (enc := enc) (C := Tryz.checked) false (World.laidAll Tryz.prog os laidList) #[.string ByteArray.empty] (World.laidAll_os _ _ _) (by kernel_rfl) (by kernel_rfl) (by kernel_rfl)
      (OpenSpec.preRow_of_cond 8 hx (by kernel_rfl) (fun k hk => by cases hk; kernel_rfl) (by kernel_rfl) (metricParses_laid_met os))) ?_
  intro W base args ds gs before hval hW _ hcond _ hL hsh _
  exact metricParses_contract H enc W base args ds gs before hval hW (hcond _ rfl) (metW_of_laid hL hsh)

theorem metricParses_upto_said : Rows.MetricParsesUptoSaid :=
  OpenClaim.holds_of_cond 3 Tryz.f3 rfl rfl rfl rfl rfl rfl rfl ⟨rfl, rfl, rfl, rfl, rfl⟩ rfl rfl rfl rfl rfl (by kernel_rfl) Tryz.func3 (by kernel_rfl)
    (of_decide_eq_true (by kernel_rfl)) (by unfold Func.isWrapper; first | (rw [if_pos (by decide +kernel)]; kernel_rfl) | (rw [if_neg (by decide +kernel)]; exact ⟨rfl, rfl⟩))
    (fun os started H enc _ F => by rw [OpenClaim.pre_eq_preRow]; exact metricParses_lifted os started H enc F)

/-- No parameter wants a stand-in; what the program's own reckoning says of looks: what the card asks. -/
theorem metricParses_plain (f : FuncId) (fn : Func) (hf : Tryz.pinned.checked.prog.funcNamed "variorum/variorumlaw07.MetricParses" = some f) (hfn : Tryz.pinned.checked.prog.funcs[f]? = some fn) :
    true = Tryz.pinned.checked.prog.looks [] ∧ ∀ (j : Nat) t, fn.params[j]? = some t → Tryz.pinned.checked.prog.wantsStandIn t = false := by
  obtain rfl : f = 3 := Option.some.inj ((show Tryz.prog.funcNamed "variorum/variorumlaw07.MetricParses" = some 3 by kernel_rfl).symm.trans hf) |>.symm
  obtain rfl : fn = Tryz.f3 := (Option.some.inj (Tryz.func3.symm.trans hfn)).symm
  refine ⟨by kernel_rfl, fun j t ht => ?_⟩
  rw [Tryz.params3] at ht
  have : t = 9 := by simpa using Array.mem_of_getElem? ht
  rcases this with rfl
  · exact (show Tryz.prog.wantsStandIn 9 = false by kernel_rfl)

/-- THE CARD. -/
theorem metricParses_upto_card : Rows.MetricParsesUptoCardSaid :=
  Claim7.holds_tied_plain_at .later [] _ _ _ _ metricParses_upto_said (fun _ h => by cases h) (by kernel_rfl) (fun _ h => by cases h) metricParsesUpto_row_tie rfl ⟨rfl, rfl⟩ (by kernel_rfl) rfl metricParses_plain (by kernel_rfl)
end Go.Proofs.YtmehldekebphfaaGreatDoor
