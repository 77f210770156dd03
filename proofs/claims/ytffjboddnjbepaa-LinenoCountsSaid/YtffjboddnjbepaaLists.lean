/-
  Slices of numbers: how they lie in memory, a call's own and others.
-/
import Derived.Test.YtffjboddnjbepaaBase
set_option linter.unusedVariables false
set_option linter.unusedSimpArgs false
namespace Go.Proofs.Ytffjboddnjbepaa
open Go.RowKit

/-- v is a slice of the numbers xs of kind k -/
def IntsAt (k : IntKind) (w : World) (v : Value) (xs : List Int) : Prop :=
  (∃ a cap, v = .slice a xs.length cap ∧ xs.length ≤ cap) ∧ xs.length ≤ maxLen ∧ (0 < xs.length → ∃ b o cap, v = .slice (some ⟨b, o, none⟩) xs.length cap ∧ ∀ i x, xs[i]? = some x → w.cell? ⟨b, o + i, none⟩ = some (.int k x))
theorem IntsAt.mono {k : IntKind} {w w' : World} {v : Value} {xs : List Int} (hb : Below w.heap.size w w') (h : IntsAt k w v xs) : IntsAt k w' v xs := by
  obtain ⟨h1, h2, h3⟩ := h
  refine ⟨h1, h2, fun hp => ?_⟩
  obtain ⟨b, o, cap, e, hc⟩ := h3 hp
  exact ⟨b, o, cap, e, fun i s hs => cell_below hb (hc i s hs)⟩
theorem ints_none (k : IntKind) (w : World) : IntsAt k w (.slice none 0 0) [] := ⟨⟨none, 0, rfl, Nat.le_refl _⟩, by unfold maxLen; simp, fun h => by simp at h⟩
/-- v is a slice of the call's own, of the numbers xs -/
def OwnI (k : IntKind) (E : TypeId) (B : Nat) (v : Value) (xs : List Int) (w : World) : Prop := w.ownsRow B E 1 v xs.length (xs.map (Value.int k))
theorem OwnI.kept {k : IntKind} {E : TypeId} {B : Nat} {v : Value} {xs : List Int} {w w' : World} (h : OwnI k E B v xs w) (hb : Below w.heap.size w w') : OwnI k E B v xs w' :=
  World.ownsRow.kept h (row := none) ⟨hb.os, hb.tape, hb.output, hb.size, fun i hi _ => hb.block i hi⟩ (by cases v.ownBlock <;> simp)
theorem OwnI.mono {k : IntKind} {E : TypeId} {B : Nat} {v : Value} {xs : List Int} {w w' : World} (h : OwnI k E B v xs w) (hb : Below w.heap.size w w') : OwnI k E B v xs w' := h.kept hb
theorem OwnI.base {k : IntKind} {E : TypeId} {B B' : Nat} {v : Value} {xs : List Int} {w : World} (h : OwnI k E B v xs w) (hB : B' ≤ B) : OwnI k E B' v xs w := by
  refine ⟨h.1, ?_⟩
  rcases h.2 with h2 | ⟨g, cap, cur, e, hg, rest⟩
  · exact .inl h2
  · exact .inr ⟨g, cap, cur, e, Nat.le_trans hB hg, rest⟩
theorem OwnI.set {k : IntKind} {E : TypeId} {B p i : Nat} {v y : Value} {xs : List Int} {w : World} (h : OwnI k E B v xs w) (hp : p < B) : OwnI k E B v xs (w.setCell ⟨p, i, none⟩ y) := by
  refine World.ownsRow.kept h (row := some p) ?_ ?_
  · have hb : Below 0 w (w.setCell ⟨p, i, none⟩ y) := (Below.refl 0 w).setCell (p := ⟨p, i, none⟩) (Nat.zero_le _) y
    refine ⟨hb.os, hb.tape, hb.output, hb.size, fun j hj hne => ?_⟩
    exact Below.heap_setCell w ⟨p, i, none⟩ y j (fun e => hne (by rw [e]))
  · exact .inr fun e => by
      have := (World.ownsRow.lt h p e).1
      omega
theorem add_none (b o i : Nat) : (⟨b, o, none⟩ : Addr).add i = ⟨b, o + i, none⟩ := by unfold Addr.add; split <;> simp_all
theorem OwnI.at {k : IntKind} {E : TypeId} {B : Nat} {v : Value} {xs : List Int} {w : World} (h : OwnI k E B v xs w) : IntsAt k w v xs := by
  have h0 := h
  rcases h.2 with ⟨rfl, hn⟩ | ⟨g, cap, cur, rfl, _, hg, hcap, hmax, hsz, htake⟩
  · refine ⟨⟨none, 0, by rw [hn], by omega⟩, by omega, fun hp => by omega⟩
  · refine ⟨⟨_, _, rfl, hcap⟩, by omega, fun hp => ⟨g, 0, cap, rfl, fun i s hs => ?_⟩⟩
    have hc := World.ownsRow.cells h0 (g := g) rfl i (.int k s) (by rw [List.getElem?_map, hs]; rfl)
    rw [add_none] at hc
    exact hc
theorem ownI_nil (k : IntKind) (E : TypeId) (w : World) (B : Nat) : OwnI k E B (.slice none 0 0) [] w := World.ownsRow_nil _ _ _ _
theorem ownI_snoc {k : IntKind} {E : TypeId} {B : Nat} {v : Value} {xs : List Int} {x : Int} {w : World} (h : w.ownsRow B E 1 v (xs.length + 1) (xs.map (Value.int k) ++ [Value.int k x])) : Hid (OwnI k E B v (xs ++ [x]) w) := by
  show World.ownsRow _ _ _ _ _ _ _
  rw [List.length_append, List.map_append]
  exact h
theorem own_ne {w : World} {B bt : Nat} {e : TypeId} {size : Nat} {v : Value} {n : Nat} {xs : List Value} (h : w.ownsRow B e size v n xs) (hb : bt < B) : some bt ≠ v.ownBlock := by
  intro hk
  have := (World.ownsRow.lt h bt hk.symm).1
  omega

end Go.Proofs.Ytffjboddnjbepaa
