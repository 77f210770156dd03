/-
  The rows that grow while a source is made out: what stands where one of them grows, or is finished.
  The reference's Key, Name, Find.
  The landed Find: slices.IndexFunc with the closure that compares keys.
  The landed maker: what it holds in memory, its contexts and their rules; faults as errors; one node, taken in a context.
-/
import Derived.Lib.Strings
import Derived.Shelf.Abstract
import Derived.Laws.EntriesVeiled
import Derived.Test.YtfjplhgajoehfaaGreatDoorQApp13
set_option linter.unusedVariables false
set_option linter.unusedSimpArgs false
namespace Go.Proofs.YtfjplhgajoehfaaGreatDoor
open Go.RowKit

structure Dyn where
  vs : Value
  vl : Value
  vc : Value
  vw : Value
  vn : Value
  vp : Value
  ve : Value
  vt : Value
def Dyn.none : Dyn := ⟨.slice Option.none 0 0, .slice Option.none 0 0, .slice Option.none 0 0, .slice Option.none 0 0, .slice Option.none 0 0, .slice Option.none 0 0, .slice Option.none 0 0, .slice Option.none 0 0⟩
/-- the rows of a state, those that are in use d contexts deep -/
structure Rows14 (B d : Nat) (s : El.St) (K X : Nat → Prop) (y : Dyn) (w : World) : Prop where
  Klt : ∀ b, X b → b < w.heap.size
  KX : ∀ b, K b → X b
  few : s.words.length ≤ 5000
  sides : OwnE kSd B K X y.vs s.sides w
  labels : OwnE kLa B K X y.vl s.labels w
  chunks : 1 ≤ d → OwnE kCh B K X y.vc s.chunks w
  words : 1 ≤ d → OwnE kTx B K X y.vw s.words w
  notes : 1 ≤ d → OwnE kNo B K X y.vn s.notes w
  paras : 2 ≤ d → OwnE kPa B K X y.vp s.paras w
  ends : 3 ≤ d → OwnE kEn B K X y.ve s.ends w
  said : 4 ≤ d → OwnE kSa B K X y.vt s.said w

section
variable {B d : Nat} {s : El.St} {K X : Nat → Prop} {y : Dyn} {w w' : World}
theorem Rows14.none (B : Nat) (K X : Nat → Prop) (w : World) (hX : ∀ b, X b → b < w.heap.size) (hK : ∀ b, K b → X b) : Rows14 B 0 El.St.none K X Dyn.none w where
  Klt := hX
  KX := hK
  few := Nat.zero_le _
  sides := ownE_nil _ _ _ _ _
  labels := ownE_nil _ _ _ _ _
  chunks := fun _ => ownE_nil _ _ _ _ _
  words := fun _ => ownE_nil _ _ _ _ _
  notes := fun _ => ownE_nil _ _ _ _ _
  paras := fun _ => ownE_nil _ _ _ _ _
  ends := fun _ => ownE_nil _ _ _ _ _
  said := fun _ => ownE_nil _ _ _ _ _
theorem Rows14.kept {row : Option Nat} (h : Rows14 B d s K X y w) (hg : w.grownBy w' row) (hK : ∀ b, X b → some b ≠ row) (hr : ∀ b, row = some b → b < B ∨ ∃ o, w.heap[b]? = some o ∧ ∀ T cs fr, o = .cells cs T fr → T ≠ 41 ∧ T ≠ 57 ∧ T ≠ 51 ∧ T ≠ 9 ∧ T ≠ 44 ∧ T ≠ 54 ∧ T ≠ 3 ∧ T ≠ 60) : Rows14 B d s K X y w' := by
  have hne : ∀ {ρ α : Type} {κ : Knd ρ α} {v : Value} {l : List α}, OwnE κ B K X v l w → (∀ T, (T ≠ 41 ∧ T ≠ 57 ∧ T ≠ 51 ∧ T ≠ 9 ∧ T ≠ 44 ∧ T ≠ 54 ∧ T ≠ 3 ∧ T ≠ 60) → T ≠ κ.T) → v.ownBlock = Option.none ∨ v.ownBlock ≠ row := by
    intro ρ α κ v l ho hT
    cases hv : v.ownBlock with
    | none => exact .inl rfl
    | some g =>
      right
      intro e
      rcases hr g e.symm with h1 | ⟨ob, h1, h2⟩
      · have := (ho.lt hv).1
        omega
      · obtain ⟨rs, h3, _⟩ := ho.row
        rcases h3.2 with ⟨rfl, _⟩ | ⟨g', cap, cur, rfl, _, hg', _⟩
        · cases hv
        · simp [Value.ownBlock] at hv
          subst hv
          rw [h1] at hg'
          injection hg' with hg'
          exact hT _ (h2 _ _ _ hg') rfl
  exact {
    Klt := fun b hb => Nat.lt_of_lt_of_le (h.Klt b hb) hg.size
    KX := h.KX
    few := h.few
    sides := h.sides.kept okSd hg (hne h.sides (fun _ T => T.1)) (fun b hb => h.Klt b (h.KX b hb)) (fun b hb => hK b (h.KX b hb))
    labels := h.labels.kept okLa hg (hne h.labels (fun _ T => T.2.1)) (fun b hb => h.Klt b (h.KX b hb)) (fun b hb => hK b (h.KX b hb))
    chunks := fun hd => (h.chunks hd).kept okCh hg (hne (h.chunks hd) (fun _ T => T.2.2.1)) (fun b hb => h.Klt b (h.KX b hb)) (fun b hb => hK b (h.KX b hb))
    words := fun hd => (h.words hd).kept okTx hg (hne (h.words hd) (fun _ T => T.2.2.2.1)) (fun b hb => h.Klt b (h.KX b hb)) (fun b hb => hK b (h.KX b hb))
    notes := fun hd => (h.notes hd).kept okNo hg (hne (h.notes hd) (fun _ T => T.2.2.2.2.1)) (fun b hb => h.Klt b (h.KX b hb)) (fun b hb => hK b (h.KX b hb))
    paras := fun hd => (h.paras hd).kept okPa hg (hne (h.paras hd) (fun _ T => T.2.2.2.2.2.1)) (fun b hb => h.Klt b (h.KX b hb)) (fun b hb => hK b (h.KX b hb))
    ends := fun hd => (h.ends hd).kept okEn hg (hne (h.ends hd) (fun _ T => T.2.2.2.2.2.2.1)) (fun b hb => h.Klt b (h.KX b hb)) (fun b hb => hK b (h.KX b hb))
    said := fun hd => (h.said hd).kept okSa hg (hne (h.said hd) (fun _ T => T.2.2.2.2.2.2.2)) (fun b hb => h.Klt b (h.KX b hb)) (fun b hb => hK b (h.KX b hb))
  }
theorem Rows14.mono (h : Rows14 B d s K X y w) (hb : Below w.heap.size w w') : Rows14 B d s K X y w' :=
  h.kept (grown_of_below hb) (fun _ _ => by simp) (fun _ e => by cases e)
theorem Rows14.setp {p i : Nat} {v : Value} {cs : Array Value} {T : TypeId} {fr : Nat × Nat} (h : Rows14 B d s K X y w) (hp : w.heap[p]? = some (.cells cs T fr)) (hT : T ≠ 41 ∧ T ≠ 57 ∧ T ≠ 51 ∧ T ≠ 9 ∧ T ≠ 44 ∧ T ≠ 54 ∧ T ≠ 3 ∧ T ≠ 60) (hK : ¬ X p) : Rows14 B d s K X y (w.setCell ⟨p, i, Option.none⟩ v) := by
  have hb : Below 0 w (w.setCell ⟨p, i, Option.none⟩ v) := (Below.refl 0 w).setCell (p := ⟨p, i, Option.none⟩) (Nat.zero_le _) v
  refine h.kept (row := some p) ⟨hb.os, hb.tape, hb.output, hb.size, fun j hj hne => Below.heap_setCell w ⟨p, i, Option.none⟩ v j (fun e => hne (by rw [e]))⟩ (fun b hb e => ?_) (fun b e => .inr ⟨.cells cs T fr, by rw [← Option.some.inj e]; exact hp, fun T' cs' fr' e' => by injection e' with _ e2 _; rw [← e2]; exact hT⟩)
  cases e
  exact hK hb
theorem Rows14.less {X' : Nat → Prop} (h : Rows14 B d s K X y w) (hX : ∀ b, X' b → X b) (hK : ∀ b, K b → X' b) : Rows14 B d s K X' y w where
  Klt := fun b hb => h.Klt b (hX b hb)
  KX := hK
  few := h.few
  sides := h.sides.less hX
  labels := h.labels.less hX
  chunks := fun hd => (h.chunks hd).less hX
  words := fun hd => (h.words hd).less hX
  notes := fun hd => (h.notes hd).less hX
  paras := fun hd => (h.paras hd).less hX
  ends := fun hd => (h.ends hd).less hX
  said := fun hd => (h.said hd).less hX
theorem Rows14.plus {X' : Nat → Prop} (h : Rows14 B d s K X y w) (hb : Below w.heap.size w w') (hX : ∀ b, X' b → X b ∨ w.heap.size ≤ b) (hlt : ∀ b, X' b → b < w'.heap.size) (hK : ∀ b, K b → X' b) : Rows14 B d s K X' y w' where
  Klt := hlt
  KX := hK
  few := h.few
  sides := ((h.sides.mono okSd hb (fun b hb => h.Klt b (h.KX b hb))).more okSd (fun _ h => h) (fun b hb e => (hX b hb).elim (fun h1 => h.sides.ne b h1 e) (fun h1 => by have := (h.sides.lt e).2; omega)))
  labels := ((h.labels.mono okLa hb (fun b hb => h.Klt b (h.KX b hb))).more okLa (fun _ h => h) (fun b hb e => (hX b hb).elim (fun h1 => h.labels.ne b h1 e) (fun h1 => by have := (h.labels.lt e).2; omega)))
  chunks := fun hd => (((h.chunks hd).mono okCh hb (fun b hb => h.Klt b (h.KX b hb))).more okCh (fun _ h => h) (fun b hb e => (hX b hb).elim (fun h1 => (h.chunks hd).ne b h1 e) (fun h1 => by have := ((h.chunks hd).lt e).2; omega)))
  words := fun hd => (((h.words hd).mono okTx hb (fun b hb => h.Klt b (h.KX b hb))).more okTx (fun _ h => h) (fun b hb e => (hX b hb).elim (fun h1 => (h.words hd).ne b h1 e) (fun h1 => by have := ((h.words hd).lt e).2; omega)))
  notes := fun hd => (((h.notes hd).mono okNo hb (fun b hb => h.Klt b (h.KX b hb))).more okNo (fun _ h => h) (fun b hb e => (hX b hb).elim (fun h1 => (h.notes hd).ne b h1 e) (fun h1 => by have := ((h.notes hd).lt e).2; omega)))
  paras := fun hd => (((h.paras hd).mono okPa hb (fun b hb => h.Klt b (h.KX b hb))).more okPa (fun _ h => h) (fun b hb e => (hX b hb).elim (fun h1 => (h.paras hd).ne b h1 e) (fun h1 => by have := ((h.paras hd).lt e).2; omega)))
  ends := fun hd => (((h.ends hd).mono okEn hb (fun b hb => h.Klt b (h.KX b hb))).more okEn (fun _ h => h) (fun b hb e => (hX b hb).elim (fun h1 => (h.ends hd).ne b h1 e) (fun h1 => by have := ((h.ends hd).lt e).2; omega)))
  said := fun hd => (((h.said hd).mono okSa hb (fun b hb => h.Klt b (h.KX b hb))).more okSa (fun _ h => h) (fun b hb e => (hX b hb).elim (fun h1 => (h.said hd).ne b h1 e) (fun h1 => by have := ((h.said hd).lt e).2; omega)))
/-- another block of X is written -/
theorem Rows14.write {b : Nat} (h : Rows14 B d s K X y w) (hg : w.grownBy w' (some b)) (hX : X b) (hK : ¬ K b) : Rows14 B d s K (fun x => X x ∧ x ≠ b) y w' where
  Klt := fun x hx => Nat.lt_of_lt_of_le (h.Klt x hx.1) hg.size
  KX := fun x hx => ⟨h.KX x hx, fun e => hK (e ▸ hx)⟩
  few := h.few
  sides := (h.sides.kept okSd hg (.inr (h.sides.ne b hX)) (fun b hb => h.Klt b (h.KX b hb)) (fun x hx e => hK (Option.some.inj e ▸ hx))).less (fun x hx => hx.1)
  labels := (h.labels.kept okLa hg (.inr (h.labels.ne b hX)) (fun b hb => h.Klt b (h.KX b hb)) (fun x hx e => hK (Option.some.inj e ▸ hx))).less (fun x hx => hx.1)
  chunks := fun hd => ((h.chunks hd).kept okCh hg (.inr ((h.chunks hd).ne b hX)) (fun b hb => h.Klt b (h.KX b hb)) (fun x hx e => hK (Option.some.inj e ▸ hx))).less (fun x hx => hx.1)
  words := fun hd => ((h.words hd).kept okTx hg (.inr ((h.words hd).ne b hX)) (fun b hb => h.Klt b (h.KX b hb)) (fun x hx e => hK (Option.some.inj e ▸ hx))).less (fun x hx => hx.1)
  notes := fun hd => ((h.notes hd).kept okNo hg (.inr ((h.notes hd).ne b hX)) (fun b hb => h.Klt b (h.KX b hb)) (fun x hx e => hK (Option.some.inj e ▸ hx))).less (fun x hx => hx.1)
  paras := fun hd => ((h.paras hd).kept okPa hg (.inr ((h.paras hd).ne b hX)) (fun b hb => h.Klt b (h.KX b hb)) (fun x hx e => hK (Option.some.inj e ▸ hx))).less (fun x hx => hx.1)
  ends := fun hd => ((h.ends hd).kept okEn hg (.inr ((h.ends hd).ne b hX)) (fun b hb => h.Klt b (h.KX b hb)) (fun x hx e => hK (Option.some.inj e ▸ hx))).less (fun x hx => hx.1)
  said := fun hd => ((h.said hd).kept okSa hg (.inr ((h.said hd).ne b hX)) (fun b hb => h.Klt b (h.KX b hb)) (fun x hx e => hK (Option.some.inj e ▸ hx))).less (fun x hx => hx.1)
theorem Rows14.down {d' : Nat} (h : Rows14 B d s K X y w) (hd : d' ≤ d) : Rows14 B d' s K X y w where
  Klt := h.Klt
  KX := h.KX
  few := h.few
  sides := h.sides
  labels := h.labels
  chunks := fun h1 => h.chunks (by omega)
  words := fun h1 => h.words (by omega)
  notes := fun h1 => h.notes (by omega)
  paras := fun h1 => h.paras (by omega)
  ends := fun h1 => h.ends (by omega)
  said := fun h1 => h.said (by omega)
theorem Rows14.push_sides (h : Rows14 B d s K X y w) {v' : Value} {x : _} (hg : w.grownBy w' y.vs.ownBlock) (hn : OwnE kSd B K X v' (s.sides ++ [x]) w') : Rows14 B d { s with sides := s.sides ++ [x] } K X { y with vs := v' } w' where
  Klt := fun b hb => Nat.lt_of_lt_of_le (h.Klt b hb) hg.size
  KX := h.KX
  few := h.few
  sides := hn
  labels := h.labels.kept okLa hg (own_apart14 h.labels h.sides (by decide)) (fun b hb => h.Klt b (h.KX b hb)) (fun b hb e => h.sides.ne b (h.KX b hb) e.symm)
  chunks := fun h1 => (h.chunks h1).kept okCh hg (own_apart14 (h.chunks h1) h.sides (by decide)) (fun b hb => h.Klt b (h.KX b hb)) (fun b hb e => h.sides.ne b (h.KX b hb) e.symm)
  words := fun h1 => (h.words h1).kept okTx hg (own_apart14 (h.words h1) h.sides (by decide)) (fun b hb => h.Klt b (h.KX b hb)) (fun b hb e => h.sides.ne b (h.KX b hb) e.symm)
  notes := fun h1 => (h.notes h1).kept okNo hg (own_apart14 (h.notes h1) h.sides (by decide)) (fun b hb => h.Klt b (h.KX b hb)) (fun b hb e => h.sides.ne b (h.KX b hb) e.symm)
  paras := fun h1 => (h.paras h1).kept okPa hg (own_apart14 (h.paras h1) h.sides (by decide)) (fun b hb => h.Klt b (h.KX b hb)) (fun b hb e => h.sides.ne b (h.KX b hb) e.symm)
  ends := fun h1 => (h.ends h1).kept okEn hg (own_apart14 (h.ends h1) h.sides (by decide)) (fun b hb => h.Klt b (h.KX b hb)) (fun b hb e => h.sides.ne b (h.KX b hb) e.symm)
  said := fun h1 => (h.said h1).kept okSa hg (own_apart14 (h.said h1) h.sides (by decide)) (fun b hb => h.Klt b (h.KX b hb)) (fun b hb e => h.sides.ne b (h.KX b hb) e.symm)
theorem Rows14.push_labels (h : Rows14 B d s K X y w) {v' : Value} {x : _} (hg : w.grownBy w' y.vl.ownBlock) (hn : OwnE kLa B K X v' (s.labels ++ [x]) w') : Rows14 B d { s with labels := s.labels ++ [x] } K X { y with vl := v' } w' where
  Klt := fun b hb => Nat.lt_of_lt_of_le (h.Klt b hb) hg.size
  KX := h.KX
  few := h.few
  sides := h.sides.kept okSd hg (own_apart14 h.sides h.labels (by decide)) (fun b hb => h.Klt b (h.KX b hb)) (fun b hb e => h.labels.ne b (h.KX b hb) e.symm)
  labels := hn
  chunks := fun h1 => (h.chunks h1).kept okCh hg (own_apart14 (h.chunks h1) h.labels (by decide)) (fun b hb => h.Klt b (h.KX b hb)) (fun b hb e => h.labels.ne b (h.KX b hb) e.symm)
  words := fun h1 => (h.words h1).kept okTx hg (own_apart14 (h.words h1) h.labels (by decide)) (fun b hb => h.Klt b (h.KX b hb)) (fun b hb e => h.labels.ne b (h.KX b hb) e.symm)
  notes := fun h1 => (h.notes h1).kept okNo hg (own_apart14 (h.notes h1) h.labels (by decide)) (fun b hb => h.Klt b (h.KX b hb)) (fun b hb e => h.labels.ne b (h.KX b hb) e.symm)
  paras := fun h1 => (h.paras h1).kept okPa hg (own_apart14 (h.paras h1) h.labels (by decide)) (fun b hb => h.Klt b (h.KX b hb)) (fun b hb e => h.labels.ne b (h.KX b hb) e.symm)
  ends := fun h1 => (h.ends h1).kept okEn hg (own_apart14 (h.ends h1) h.labels (by decide)) (fun b hb => h.Klt b (h.KX b hb)) (fun b hb e => h.labels.ne b (h.KX b hb) e.symm)
  said := fun h1 => (h.said h1).kept okSa hg (own_apart14 (h.said h1) h.labels (by decide)) (fun b hb => h.Klt b (h.KX b hb)) (fun b hb e => h.labels.ne b (h.KX b hb) e.symm)
theorem Rows14.push_chunks (h : Rows14 B d s K X y w) (hd : 1 ≤ d) {v' : Value} {x : _} (hg : w.grownBy w' y.vc.ownBlock) (hn : OwnE kCh B K X v' (s.chunks ++ [x]) w') : Rows14 B d { s with chunks := s.chunks ++ [x] } K X { y with vc := v' } w' where
  Klt := fun b hb => Nat.lt_of_lt_of_le (h.Klt b hb) hg.size
  KX := h.KX
  few := h.few
  sides := h.sides.kept okSd hg (own_apart14 h.sides (h.chunks hd) (by decide)) (fun b hb => h.Klt b (h.KX b hb)) (fun b hb e => (h.chunks hd).ne b (h.KX b hb) e.symm)
  labels := h.labels.kept okLa hg (own_apart14 h.labels (h.chunks hd) (by decide)) (fun b hb => h.Klt b (h.KX b hb)) (fun b hb e => (h.chunks hd).ne b (h.KX b hb) e.symm)
  chunks := fun _ => hn
  words := fun h1 => (h.words h1).kept okTx hg (own_apart14 (h.words h1) (h.chunks hd) (by decide)) (fun b hb => h.Klt b (h.KX b hb)) (fun b hb e => (h.chunks hd).ne b (h.KX b hb) e.symm)
  notes := fun h1 => (h.notes h1).kept okNo hg (own_apart14 (h.notes h1) (h.chunks hd) (by decide)) (fun b hb => h.Klt b (h.KX b hb)) (fun b hb e => (h.chunks hd).ne b (h.KX b hb) e.symm)
  paras := fun h1 => (h.paras h1).kept okPa hg (own_apart14 (h.paras h1) (h.chunks hd) (by decide)) (fun b hb => h.Klt b (h.KX b hb)) (fun b hb e => (h.chunks hd).ne b (h.KX b hb) e.symm)
  ends := fun h1 => (h.ends h1).kept okEn hg (own_apart14 (h.ends h1) (h.chunks hd) (by decide)) (fun b hb => h.Klt b (h.KX b hb)) (fun b hb e => (h.chunks hd).ne b (h.KX b hb) e.symm)
  said := fun h1 => (h.said h1).kept okSa hg (own_apart14 (h.said h1) (h.chunks hd) (by decide)) (fun b hb => h.Klt b (h.KX b hb)) (fun b hb e => (h.chunks hd).ne b (h.KX b hb) e.symm)
theorem Rows14.push_words (h : Rows14 B d s K X y w) (hd : 1 ≤ d) {v' : Value} {x : _} (hf : (s.words ++ [x]).length ≤ 5000) (hg : w.grownBy w' y.vw.ownBlock) (hn : OwnE kTx B K X v' (s.words ++ [x]) w') : Rows14 B d { s with words := s.words ++ [x] } K X { y with vw := v' } w' where
  Klt := fun b hb => Nat.lt_of_lt_of_le (h.Klt b hb) hg.size
  KX := h.KX
  few := hf
  sides := h.sides.kept okSd hg (own_apart14 h.sides (h.words hd) (by decide)) (fun b hb => h.Klt b (h.KX b hb)) (fun b hb e => (h.words hd).ne b (h.KX b hb) e.symm)
  labels := h.labels.kept okLa hg (own_apart14 h.labels (h.words hd) (by decide)) (fun b hb => h.Klt b (h.KX b hb)) (fun b hb e => (h.words hd).ne b (h.KX b hb) e.symm)
  chunks := fun h1 => (h.chunks h1).kept okCh hg (own_apart14 (h.chunks h1) (h.words hd) (by decide)) (fun b hb => h.Klt b (h.KX b hb)) (fun b hb e => (h.words hd).ne b (h.KX b hb) e.symm)
  words := fun _ => hn
  notes := fun h1 => (h.notes h1).kept okNo hg (own_apart14 (h.notes h1) (h.words hd) (by decide)) (fun b hb => h.Klt b (h.KX b hb)) (fun b hb e => (h.words hd).ne b (h.KX b hb) e.symm)
  paras := fun h1 => (h.paras h1).kept okPa hg (own_apart14 (h.paras h1) (h.words hd) (by decide)) (fun b hb => h.Klt b (h.KX b hb)) (fun b hb e => (h.words hd).ne b (h.KX b hb) e.symm)
  ends := fun h1 => (h.ends h1).kept okEn hg (own_apart14 (h.ends h1) (h.words hd) (by decide)) (fun b hb => h.Klt b (h.KX b hb)) (fun b hb e => (h.words hd).ne b (h.KX b hb) e.symm)
  said := fun h1 => (h.said h1).kept okSa hg (own_apart14 (h.said h1) (h.words hd) (by decide)) (fun b hb => h.Klt b (h.KX b hb)) (fun b hb e => (h.words hd).ne b (h.KX b hb) e.symm)
theorem Rows14.push_notes (h : Rows14 B d s K X y w) (hd : 1 ≤ d) {v' : Value} {x : _} (hg : w.grownBy w' y.vn.ownBlock) (hn : OwnE kNo B K X v' (s.notes ++ [x]) w') : Rows14 B d { s with notes := s.notes ++ [x] } K X { y with vn := v' } w' where
  Klt := fun b hb => Nat.lt_of_lt_of_le (h.Klt b hb) hg.size
  KX := h.KX
  few := h.few
  sides := h.sides.kept okSd hg (own_apart14 h.sides (h.notes hd) (by decide)) (fun b hb => h.Klt b (h.KX b hb)) (fun b hb e => (h.notes hd).ne b (h.KX b hb) e.symm)
  labels := h.labels.kept okLa hg (own_apart14 h.labels (h.notes hd) (by decide)) (fun b hb => h.Klt b (h.KX b hb)) (fun b hb e => (h.notes hd).ne b (h.KX b hb) e.symm)
  chunks := fun h1 => (h.chunks h1).kept okCh hg (own_apart14 (h.chunks h1) (h.notes hd) (by decide)) (fun b hb => h.Klt b (h.KX b hb)) (fun b hb e => (h.notes hd).ne b (h.KX b hb) e.symm)
  words := fun h1 => (h.words h1).kept okTx hg (own_apart14 (h.words h1) (h.notes hd) (by decide)) (fun b hb => h.Klt b (h.KX b hb)) (fun b hb e => (h.notes hd).ne b (h.KX b hb) e.symm)
  notes := fun _ => hn
  paras := fun h1 => (h.paras h1).kept okPa hg (own_apart14 (h.paras h1) (h.notes hd) (by decide)) (fun b hb => h.Klt b (h.KX b hb)) (fun b hb e => (h.notes hd).ne b (h.KX b hb) e.symm)
  ends := fun h1 => (h.ends h1).kept okEn hg (own_apart14 (h.ends h1) (h.notes hd) (by decide)) (fun b hb => h.Klt b (h.KX b hb)) (fun b hb e => (h.notes hd).ne b (h.KX b hb) e.symm)
  said := fun h1 => (h.said h1).kept okSa hg (own_apart14 (h.said h1) (h.notes hd) (by decide)) (fun b hb => h.Klt b (h.KX b hb)) (fun b hb e => (h.notes hd).ne b (h.KX b hb) e.symm)
theorem Rows14.push_paras (h : Rows14 B d s K X y w) (hd : 2 ≤ d) {v' : Value} {x : _} (hg : w.grownBy w' y.vp.ownBlock) (hn : OwnE kPa B K X v' (s.paras ++ [x]) w') : Rows14 B d { s with paras := s.paras ++ [x] } K X { y with vp := v' } w' where
  Klt := fun b hb => Nat.lt_of_lt_of_le (h.Klt b hb) hg.size
  KX := h.KX
  few := h.few
  sides := h.sides.kept okSd hg (own_apart14 h.sides (h.paras hd) (by decide)) (fun b hb => h.Klt b (h.KX b hb)) (fun b hb e => (h.paras hd).ne b (h.KX b hb) e.symm)
  labels := h.labels.kept okLa hg (own_apart14 h.labels (h.paras hd) (by decide)) (fun b hb => h.Klt b (h.KX b hb)) (fun b hb e => (h.paras hd).ne b (h.KX b hb) e.symm)
  chunks := fun h1 => (h.chunks h1).kept okCh hg (own_apart14 (h.chunks h1) (h.paras hd) (by decide)) (fun b hb => h.Klt b (h.KX b hb)) (fun b hb e => (h.paras hd).ne b (h.KX b hb) e.symm)
  words := fun h1 => (h.words h1).kept okTx hg (own_apart14 (h.words h1) (h.paras hd) (by decide)) (fun b hb => h.Klt b (h.KX b hb)) (fun b hb e => (h.paras hd).ne b (h.KX b hb) e.symm)
  notes := fun h1 => (h.notes h1).kept okNo hg (own_apart14 (h.notes h1) (h.paras hd) (by decide)) (fun b hb => h.Klt b (h.KX b hb)) (fun b hb e => (h.paras hd).ne b (h.KX b hb) e.symm)
  paras := fun _ => hn
  ends := fun h1 => (h.ends h1).kept okEn hg (own_apart14 (h.ends h1) (h.paras hd) (by decide)) (fun b hb => h.Klt b (h.KX b hb)) (fun b hb e => (h.paras hd).ne b (h.KX b hb) e.symm)
  said := fun h1 => (h.said h1).kept okSa hg (own_apart14 (h.said h1) (h.paras hd) (by decide)) (fun b hb => h.Klt b (h.KX b hb)) (fun b hb e => (h.paras hd).ne b (h.KX b hb) e.symm)
theorem Rows14.push_ends (h : Rows14 B d s K X y w) (hd : 3 ≤ d) {v' : Value} {x : _} (hg : w.grownBy w' y.ve.ownBlock) (hn : OwnE kEn B K X v' (s.ends ++ [x]) w') : Rows14 B d { s with ends := s.ends ++ [x] } K X { y with ve := v' } w' where
  Klt := fun b hb => Nat.lt_of_lt_of_le (h.Klt b hb) hg.size
  KX := h.KX
  few := h.few
  sides := h.sides.kept okSd hg (own_apart14 h.sides (h.ends hd) (by decide)) (fun b hb => h.Klt b (h.KX b hb)) (fun b hb e => (h.ends hd).ne b (h.KX b hb) e.symm)
  labels := h.labels.kept okLa hg (own_apart14 h.labels (h.ends hd) (by decide)) (fun b hb => h.Klt b (h.KX b hb)) (fun b hb e => (h.ends hd).ne b (h.KX b hb) e.symm)
  chunks := fun h1 => (h.chunks h1).kept okCh hg (own_apart14 (h.chunks h1) (h.ends hd) (by decide)) (fun b hb => h.Klt b (h.KX b hb)) (fun b hb e => (h.ends hd).ne b (h.KX b hb) e.symm)
  words := fun h1 => (h.words h1).kept okTx hg (own_apart14 (h.words h1) (h.ends hd) (by decide)) (fun b hb => h.Klt b (h.KX b hb)) (fun b hb e => (h.ends hd).ne b (h.KX b hb) e.symm)
  notes := fun h1 => (h.notes h1).kept okNo hg (own_apart14 (h.notes h1) (h.ends hd) (by decide)) (fun b hb => h.Klt b (h.KX b hb)) (fun b hb e => (h.ends hd).ne b (h.KX b hb) e.symm)
  paras := fun h1 => (h.paras h1).kept okPa hg (own_apart14 (h.paras h1) (h.ends hd) (by decide)) (fun b hb => h.Klt b (h.KX b hb)) (fun b hb e => (h.ends hd).ne b (h.KX b hb) e.symm)
  ends := fun _ => hn
  said := fun h1 => (h.said h1).kept okSa hg (own_apart14 (h.said h1) (h.ends hd) (by decide)) (fun b hb => h.Klt b (h.KX b hb)) (fun b hb e => (h.ends hd).ne b (h.KX b hb) e.symm)
theorem Rows14.push_said (h : Rows14 B d s K X y w) (hd : 4 ≤ d) {v' : Value} {x : _} (hg : w.grownBy w' y.vt.ownBlock) (hn : OwnE kSa B K X v' (s.said ++ [x]) w') : Rows14 B d { s with said := s.said ++ [x] } K X { y with vt := v' } w' where
  Klt := fun b hb => Nat.lt_of_lt_of_le (h.Klt b hb) hg.size
  KX := h.KX
  few := h.few
  sides := h.sides.kept okSd hg (own_apart14 h.sides (h.said hd) (by decide)) (fun b hb => h.Klt b (h.KX b hb)) (fun b hb e => (h.said hd).ne b (h.KX b hb) e.symm)
  labels := h.labels.kept okLa hg (own_apart14 h.labels (h.said hd) (by decide)) (fun b hb => h.Klt b (h.KX b hb)) (fun b hb e => (h.said hd).ne b (h.KX b hb) e.symm)
  chunks := fun h1 => (h.chunks h1).kept okCh hg (own_apart14 (h.chunks h1) (h.said hd) (by decide)) (fun b hb => h.Klt b (h.KX b hb)) (fun b hb e => (h.said hd).ne b (h.KX b hb) e.symm)
  words := fun h1 => (h.words h1).kept okTx hg (own_apart14 (h.words h1) (h.said hd) (by decide)) (fun b hb => h.Klt b (h.KX b hb)) (fun b hb e => (h.said hd).ne b (h.KX b hb) e.symm)
  notes := fun h1 => (h.notes h1).kept okNo hg (own_apart14 (h.notes h1) (h.said hd) (by decide)) (fun b hb => h.Klt b (h.KX b hb)) (fun b hb e => (h.said hd).ne b (h.KX b hb) e.symm)
  paras := fun h1 => (h.paras h1).kept okPa hg (own_apart14 (h.paras h1) (h.said hd) (by decide)) (fun b hb => h.Klt b (h.KX b hb)) (fun b hb e => (h.said hd).ne b (h.KX b hb) e.symm)
  ends := fun h1 => (h.ends h1).kept okEn hg (own_apart14 (h.ends h1) (h.said hd) (by decide)) (fun b hb => h.Klt b (h.KX b hb)) (fun b hb e => (h.said hd).ne b (h.KX b hb) e.symm)
  said := fun _ => hn
theorem Rows14.fin_said (h : Rows14 B 4 s K X y w) : Rows14 B 3 s (fun b => K b ∨ y.vt.ownBlock = some b) (fun b => X b ∨ y.vt.ownBlock = some b) y w where
  KX := fun b hb => hb.imp (h.KX b) id
  Klt := fun b hb => by
    rcases hb with hb | hb
    · exact h.Klt b hb
    · exact ((h.said (by omega)).lt hb).2
  few := h.few
  sides := h.sides.more okSd (fun _ hb => .inl hb) (fun b hb => by
    rcases hb with hb | hb
    · exact h.sides.ne b hb
    · rcases own_apart14 h.sides (h.said (by omega)) (by decide) with h1 | h1
      · rw [h1]; simp
      · rw [← hb]; exact h1)
  labels := h.labels.more okLa (fun _ hb => .inl hb) (fun b hb => by
    rcases hb with hb | hb
    · exact h.labels.ne b hb
    · rcases own_apart14 h.labels (h.said (by omega)) (by decide) with h1 | h1
      · rw [h1]; simp
      · rw [← hb]; exact h1)
  chunks := fun h1 => (h.chunks (by omega)).more okCh (fun _ hb => .inl hb) (fun b hb => by
    rcases hb with hb | hb
    · exact (h.chunks (by omega)).ne b hb
    · rcases own_apart14 (h.chunks (by omega)) (h.said (by omega)) (by decide) with h1 | h1
      · rw [h1]; simp
      · rw [← hb]; exact h1)
  words := fun h1 => (h.words (by omega)).more okTx (fun _ hb => .inl hb) (fun b hb => by
    rcases hb with hb | hb
    · exact (h.words (by omega)).ne b hb
    · rcases own_apart14 (h.words (by omega)) (h.said (by omega)) (by decide) with h1 | h1
      · rw [h1]; simp
      · rw [← hb]; exact h1)
  notes := fun h1 => (h.notes (by omega)).more okNo (fun _ hb => .inl hb) (fun b hb => by
    rcases hb with hb | hb
    · exact (h.notes (by omega)).ne b hb
    · rcases own_apart14 (h.notes (by omega)) (h.said (by omega)) (by decide) with h1 | h1
      · rw [h1]; simp
      · rw [← hb]; exact h1)
  paras := fun h1 => (h.paras (by omega)).more okPa (fun _ hb => .inl hb) (fun b hb => by
    rcases hb with hb | hb
    · exact (h.paras (by omega)).ne b hb
    · rcases own_apart14 (h.paras (by omega)) (h.said (by omega)) (by decide) with h1 | h1
      · rw [h1]; simp
      · rw [← hb]; exact h1)
  ends := fun h1 => (h.ends (by omega)).more okEn (fun _ hb => .inl hb) (fun b hb => by
    rcases hb with hb | hb
    · exact (h.ends (by omega)).ne b hb
    · rcases own_apart14 (h.ends (by omega)) (h.said (by omega)) (by decide) with h1 | h1
      · rw [h1]; simp
      · rw [← hb]; exact h1)
  said := fun h1 => by omega
theorem Rows14.fin_ends (h : Rows14 B 3 s K X y w) : Rows14 B 2 s (fun b => K b ∨ y.ve.ownBlock = some b) (fun b => X b ∨ y.ve.ownBlock = some b) y w where
  KX := fun b hb => hb.imp (h.KX b) id
  Klt := fun b hb => by
    rcases hb with hb | hb
    · exact h.Klt b hb
    · exact ((h.ends (by omega)).lt hb).2
  few := h.few
  sides := h.sides.more okSd (fun _ hb => .inl hb) (fun b hb => by
    rcases hb with hb | hb
    · exact h.sides.ne b hb
    · rcases own_apart14 h.sides (h.ends (by omega)) (by decide) with h1 | h1
      · rw [h1]; simp
      · rw [← hb]; exact h1)
  labels := h.labels.more okLa (fun _ hb => .inl hb) (fun b hb => by
    rcases hb with hb | hb
    · exact h.labels.ne b hb
    · rcases own_apart14 h.labels (h.ends (by omega)) (by decide) with h1 | h1
      · rw [h1]; simp
      · rw [← hb]; exact h1)
  chunks := fun h1 => (h.chunks (by omega)).more okCh (fun _ hb => .inl hb) (fun b hb => by
    rcases hb with hb | hb
    · exact (h.chunks (by omega)).ne b hb
    · rcases own_apart14 (h.chunks (by omega)) (h.ends (by omega)) (by decide) with h1 | h1
      · rw [h1]; simp
      · rw [← hb]; exact h1)
  words := fun h1 => (h.words (by omega)).more okTx (fun _ hb => .inl hb) (fun b hb => by
    rcases hb with hb | hb
    · exact (h.words (by omega)).ne b hb
    · rcases own_apart14 (h.words (by omega)) (h.ends (by omega)) (by decide) with h1 | h1
      · rw [h1]; simp
      · rw [← hb]; exact h1)
  notes := fun h1 => (h.notes (by omega)).more okNo (fun _ hb => .inl hb) (fun b hb => by
    rcases hb with hb | hb
    · exact (h.notes (by omega)).ne b hb
    · rcases own_apart14 (h.notes (by omega)) (h.ends (by omega)) (by decide) with h1 | h1
      · rw [h1]; simp
      · rw [← hb]; exact h1)
  paras := fun h1 => (h.paras (by omega)).more okPa (fun _ hb => .inl hb) (fun b hb => by
    rcases hb with hb | hb
    · exact (h.paras (by omega)).ne b hb
    · rcases own_apart14 (h.paras (by omega)) (h.ends (by omega)) (by decide) with h1 | h1
      · rw [h1]; simp
      · rw [← hb]; exact h1)
  ends := fun h1 => by omega
  said := fun h1 => by omega
theorem Rows14.fin_paras (h : Rows14 B 2 s K X y w) : Rows14 B 1 s (fun b => K b ∨ y.vp.ownBlock = some b) (fun b => X b ∨ y.vp.ownBlock = some b) y w where
  KX := fun b hb => hb.imp (h.KX b) id
  Klt := fun b hb => by
    rcases hb with hb | hb
    · exact h.Klt b hb
    · exact ((h.paras (by omega)).lt hb).2
  few := h.few
  sides := h.sides.more okSd (fun _ hb => .inl hb) (fun b hb => by
    rcases hb with hb | hb
    · exact h.sides.ne b hb
    · rcases own_apart14 h.sides (h.paras (by omega)) (by decide) with h1 | h1
      · rw [h1]; simp
      · rw [← hb]; exact h1)
  labels := h.labels.more okLa (fun _ hb => .inl hb) (fun b hb => by
    rcases hb with hb | hb
    · exact h.labels.ne b hb
    · rcases own_apart14 h.labels (h.paras (by omega)) (by decide) with h1 | h1
      · rw [h1]; simp
      · rw [← hb]; exact h1)
  chunks := fun h1 => (h.chunks (by omega)).more okCh (fun _ hb => .inl hb) (fun b hb => by
    rcases hb with hb | hb
    · exact (h.chunks (by omega)).ne b hb
    · rcases own_apart14 (h.chunks (by omega)) (h.paras (by omega)) (by decide) with h1 | h1
      · rw [h1]; simp
      · rw [← hb]; exact h1)
  words := fun h1 => (h.words (by omega)).more okTx (fun _ hb => .inl hb) (fun b hb => by
    rcases hb with hb | hb
    · exact (h.words (by omega)).ne b hb
    · rcases own_apart14 (h.words (by omega)) (h.paras (by omega)) (by decide) with h1 | h1
      · rw [h1]; simp
      · rw [← hb]; exact h1)
  notes := fun h1 => (h.notes (by omega)).more okNo (fun _ hb => .inl hb) (fun b hb => by
    rcases hb with hb | hb
    · exact (h.notes (by omega)).ne b hb
    · rcases own_apart14 (h.notes (by omega)) (h.paras (by omega)) (by decide) with h1 | h1
      · rw [h1]; simp
      · rw [← hb]; exact h1)
  paras := fun h1 => by omega
  ends := fun h1 => by omega
  said := fun h1 => by omega
theorem Rows14.fin_side (h : Rows14 B 1 s K X y w) : Rows14 B 0 s (fun b => K b ∨ y.vc.ownBlock = some b ∨ y.vw.ownBlock = some b ∨ y.vn.ownBlock = some b) (fun b => X b ∨ y.vc.ownBlock = some b ∨ y.vw.ownBlock = some b ∨ y.vn.ownBlock = some b) y w where
  KX := fun b hb => hb.imp (h.KX b) id
  Klt := fun b hb => by
    rcases hb with hb | hb | hb | hb
    · exact h.Klt b hb
    · exact ((h.chunks (by omega)).lt hb).2
    · exact ((h.words (by omega)).lt hb).2
    · exact ((h.notes (by omega)).lt hb).2
  few := h.few
  sides := h.sides.more okSd (fun _ hb => .inl hb) (fun b hb => by
    rcases hb with hb | hb | hb | hb
    · exact h.sides.ne b hb
    · rcases own_apart14 h.sides (h.chunks (by omega)) (by decide) with h1 | h1
      · rw [h1]; simp
      · rw [← hb]; exact h1
    · rcases own_apart14 h.sides (h.words (by omega)) (by decide) with h1 | h1
      · rw [h1]; simp
      · rw [← hb]; exact h1
    · rcases own_apart14 h.sides (h.notes (by omega)) (by decide) with h1 | h1
      · rw [h1]; simp
      · rw [← hb]; exact h1)
  labels := h.labels.more okLa (fun _ hb => .inl hb) (fun b hb => by
    rcases hb with hb | hb | hb | hb
    · exact h.labels.ne b hb
    · rcases own_apart14 h.labels (h.chunks (by omega)) (by decide) with h1 | h1
      · rw [h1]; simp
      · rw [← hb]; exact h1
    · rcases own_apart14 h.labels (h.words (by omega)) (by decide) with h1 | h1
      · rw [h1]; simp
      · rw [← hb]; exact h1
    · rcases own_apart14 h.labels (h.notes (by omega)) (by decide) with h1 | h1
      · rw [h1]; simp
      · rw [← hb]; exact h1)
  chunks := fun h1 => by omega
  words := fun h1 => by omega
  notes := fun h1 => by omega
  paras := fun h1 => by omega
  ends := fun h1 => by omega
  said := fun h1 => by omega
end

/-! ### what is finished -/
theorem OwnE.slcK {ρ α : Type} {κ : Knd ρ α} (hok : κ.Ok) {B : Nat} {K X K' : Nat → Prop} {v : Value} {l : List α} {w : World} (h : OwnE κ B K X v l w) (hK : ∀ b, K b → K' b) (hv : ∀ b, v.ownBlock = some b → K' b) : ∃ rs, SlcK κ.f κ.k K' w v rs ∧ Each (κ.R K' w) rs l := by
  obtain ⟨rs, h1, h2⟩ := h.row
  exact ⟨rs, h1.slcK hok.hf hv, h2.imp fun r x hr => hok.mv _ _ _ _ _ _ (fun b hb o u h => h) hK hr⟩

end Go.Proofs.YtfjplhgajoehfaaGreatDoor

set_option linter.unusedVariables false
set_option linter.unusedSimpArgs false
namespace Go.Proofs.YtfjplhgajoehfaaGreatDoor
open Go.RowKit

theorem all_take {p : UInt8 → Bool} {l : List UInt8} {k : Nat} {c : UInt8} (hk : l[k]? = some c) (h : (l.take k).all p = true) : (p c = true → (l.take (k + 1)).all p = true) ∧ (p c = false → l.all p = false) := by
  constructor
  · intro hc
    rw [List.take_add_one, hk, List.all_append, h]
    simp [hc]
  · intro hc
    cases e : l.all p with
    | false => rfl
    | true =>
      rw [List.all_eq_true.1 e c (List.mem_of_getElem? hk)] at hc
      cases hc
theorem toL_no13 {a b : List UInt8} (h : a ≠ b) : ((str a).toList == (str b).toList) = false := beq_eq_false_iff_ne.2 fun e => h (by rw [Lib.toList_data, Lib.toList_data, str_data, str_data] at e; exact e)
/-- the first key, from a place on -/
theorem find_here {t : List Sg.Sig} {k : Nat} {x : Sg.Sig} {key : List UInt8} (hx : t[k]? = some x) (h : ∀ y ∈ t.take k, y.k ≠ key) (he : x.k = key) : Sg.find t key = (k : Int) := by
  obtain ⟨hk, hx'⟩ := List.getElem?_eq_some_iff.1 hx
  have hf : t.findIdx (fun y => decide (y.k = key)) = k := by
    rw [List.findIdx_eq hk]
    refine ⟨by simp [hx', he], fun j hj => ?_⟩
    simp only [decide_eq_false_iff_not]
    exact h _ (List.mem_of_getElem? (i := j) (by rw [List.getElem?_take_of_lt hj]; exact List.getElem?_eq_getElem (by omega)))
  unfold Sg.find
  rw [if_pos (by rw [hf]; exact hk), hf]
theorem find_miss {t : List Sg.Sig} {key : List UInt8} (h : ∀ y ∈ t, y.k ≠ key) : Sg.find t key = -1 := Sg.find_no (fun hm => by
  unfold Sg.keys at hm
  obtain ⟨x, hx, he⟩ := List.mem_map.1 hm
  exact h x hx he)
set_option maxHeartbeats 4000000 in
set_option maxRecDepth 100000 in
theorem refFind_any (v : Value) (t : List Sg.Sig) (key : List UInt8) (w : World) (h : SgsAt w v t) : Calls Tryz.prog 23 #[v, .string (str key)] w (Is (.int .i64 (Sg.find t key)) w) := by
  have HA := Lib.hid h
  obtain ⟨⟨a, cp, rfl, hcap⟩, hm, _⟩ := h
  have hza : t.length ≤ 9223372036854775807 := by unfold maxLen at hm; omega
  obtain ⟨n, hn⟩ : ∃ n, n = t.length := ⟨_, rfl⟩
  have Hn := Lib.hid hn
  obtain ⟨q, hq⟩ : ∃ q, q = Sg.find t key := ⟨_, rfl⟩
  have HQ := Lib.hid hq
  rw [← hn] at hza ⊢
  rw [← hq]
  clear hn hm hcap hq
  have H0 : Hid (∀ y ∈ t.take 0, y.k ≠ key) := Lib.hid (by simp)
  go_enter Tryz.func23, Tryz.ntmps23
  go_wp2_with fail
  go_loopw [5] (fun iv wr => ∃ k : Nat, k ≤ n ∧ iv = .int .i64 k ∧ Hid (∀ y ∈ t.take k, y.k ≠ key) ∧ wr = w) (fun iv _ => n - (intOf iv).toNat)
  case atStart => exact ⟨0, Nat.zero_le _, rfl, H0, rfl⟩
  case round =>
    obtain ⟨k, hk, rfl, HT, rfl⟩ := hrel
    clear H0
    by_cases hlt : k < n
    · obtain ⟨b1, o1, d1, e1, r1⟩ := HA.out.2.2 (by rw [← Hn.out]; omega)
      obtain ⟨rfl, rfl⟩ : a = some ⟨b1, o1, none⟩ ∧ cp = d1 := by injection e1 with a1 a2 a3; exact ⟨a1, a3⟩
      obtain ⟨x, hx⟩ : ∃ x, t[k]? = some x := ⟨_, List.getElem?_eq_getElem (by rw [← Hn.out]; exact hlt)⟩
      obtain ⟨y0, y1⟩ := sg_cells (r1 k x hx)
      have k0 : (0 : Int) ≤ (k : Int) := by omega
      have kl : (k : Int) < (n : Int) := by omega
      by_cases he : x.k = key
      · have HE : Hid (q = (k : Int)) := Lib.hid (HQ.out.trans (find_here hx HT.out he))
        rw [he] at y0
        clear r1 e1 hx he
        go_wp2
        go_ret
        rw [HE.out]
        exact ⟨rfl, rfl⟩
      · have HN : Hid (∀ y ∈ t.take (k + 1), y.k ≠ key) := Lib.hid (fun y hy => by
          rw [It.take_snoc hx] at hy
          rcases List.mem_append.1 hy with hy | hy
          · exact HT.out y hy
          · simp at hy; subst hy; exact he)
        have hb := toL_no13 he
        clear r1 e1 hx he
        go_wp2
        go_roundw
        case rel => exact ⟨k + 1, by omega, by go_num, HN, trivial⟩
        case measure => simp [intOf]; omega
    · have HE : Hid (q = -1) := Lib.hid (HQ.out.trans (find_miss (by have := HT.out; rwa [List.take_of_length_le (by rw [← Hn.out]; omega)] at this)))
      go_wp2
      go_ret
      rw [HE.out]
      exact ⟨rfl, rfl⟩
end Go.Proofs.YtfjplhgajoehfaaGreatDoor

set_option linter.unusedVariables false
set_option linter.unusedSimpArgs false
namespace Go.Proofs.YtfjplhgajoehfaaGreatDoor
open Go.RowKit

theorem lay_one13 (w : World) (p : Nat) (hp : w.heap.size = p) (v : Value) (T : TypeId) : (w.alloc (.cells #[v] T)).cell? ⟨p, 0, none⟩ = some v := by subst hp; exact cell_lay w #[v] T 0 v rfl
theorem mkf13 (fn : Fn) (first cap : Array Value) (w : World) : (Instr.makeFunc fn first cap).run Tryz.prog w = .ok (.func fn first cap) w := rfl
set_option maxHeartbeats 1000000 in
set_option maxRecDepth 100000 in
theorem cloFind_any (p : Nat) (key : List UInt8) (x : Sg.Sig) (w : World) (h : w.cell? ⟨p, 0, none⟩ = some (.string (str key))) :
    Calls Tryz.prog 95 #[.agg #[.string (str x.k), .string (str x.n)], .pointer (some ⟨p, 0, none⟩)] w (Ret (.bool (decide (x.k = key))) w) := by
  have hlt := block_lt_of_cell h
  by_cases he : x.k = key
  · rw [decide_eq_true he, he]
    clear he
    go_enter Tryz.func95, Tryz.ntmps95
    go_wp2
    go_ret
    exact ⟨rfl, below_alloc _ _⟩
  · have hb := toL_no13 he
    rw [decide_eq_false he]
    clear he
    go_enter Tryz.func95, Tryz.ntmps95
    go_wp2
    go_ret
    exact ⟨rfl, below_alloc _ _⟩
theorem egFind13 : ∀ args w, (callFunc 95 args).run Tryz.prog w = .ok (.enter 95 args) w := enters_of Tryz.func95 (by kernel_rfl) rfl

set_option maxHeartbeats 4000000 in
set_option maxRecDepth 100000 in
theorem idxFind_any (p : Nat) (key : List UInt8) (v : Value) (t : List Sg.Sig) (w0 w : World) (hb0 : Below w0.heap.size w0 w) (h : SgsAt w v t)
    (hclo : ∀ x : Sg.Sig, ∀ w1, Below w0.heap.size w0 w1 → Calls Tryz.prog 95 #[.agg #[.string (str x.k), .string (str x.n)], .pointer (some ⟨p, 0, none⟩)] w1 (Ret (.bool (decide (x.k = key))) w1)) :
    Calls Tryz.prog 94 #[v, .func (.func 95) #[] #[.pointer (some ⟨p, 0, none⟩)]] w (Ret (.int .i64 (Sg.find t key)) w) := by
  have HA := Lib.hid h
  obtain ⟨⟨a, cp, rfl, _⟩, hm, _⟩ := h
  have hza : t.length ≤ 9223372036854775807 := by unfold maxLen at hm; omega
  obtain ⟨na, hna⟩ : ∃ n, n = t.length := ⟨_, rfl⟩
  have Hna := Lib.hid hna
  obtain ⟨q, hq⟩ : ∃ q, q = Sg.find t key := ⟨_, rfl⟩
  have HQ := Lib.hid hq
  rw [← hna] at hza ⊢
  rw [← hq]
  have eg := egFind13
  have HM : Hid (∀ y ∈ t.take 0, y.k ≠ key) := Lib.hid (by simp)
  have HC := Lib.hid hclo
  have HB0 := Lib.hid hb0
  clear hm hna hq hclo hb0
  go_enter Tryz.func94, Tryz.ntmps94
  go_wp2_with fail
  go_loopw [8] (fun iv wr => ∃ k : Nat, k ≤ na ∧ iv = .int .i64 k ∧ Hid (Below w.heap.size w wr) ∧ Hid (∀ y ∈ t.take k, y.k ≠ key)) (fun iv _ => na - (intOf iv).toNat)
  case atStart => exact ⟨0, Nat.zero_le _, rfl, Lib.hid (Below.refl _ _), HM⟩
  case round =>
    obtain ⟨k, hk, rfl, HB, HT⟩ := hrel
    clear HM
    by_cases hlt : k < na
    · obtain ⟨b1, o1, d1, e1, r1⟩ := HA.out.2.2 (by rw [← Hna.out]; omega)
      obtain ⟨rfl, rfl⟩ : a = some ⟨b1, o1, none⟩ ∧ cp = d1 := by injection e1 with a1 a2 a3; exact ⟨a1, a3⟩
      obtain ⟨x, hx⟩ : ∃ x, t[k]? = some x := ⟨_, List.getElem?_eq_getElem (by rw [← Hna.out]; exact hlt)⟩
      obtain ⟨y0, y1⟩ := sg_cells ((r1 k x hx).mono HB.out)
      have k0 : (0 : Int) ≤ (k : Int) := by omega
      have kl : (k : Int) < (na : Int) := by omega
      have HCx := Lib.hid (fun w1 h => HC.out x w1 h)
      by_cases he : x.k = key
      · have HE : Hid (q = (k : Int)) := Lib.hid (HQ.out.trans (find_here hx HT.out he))
        rw [decide_eq_true he] at HCx
        clear r1 e1 hx he
        go_wp2_with fail
        refine (HCx.out _ (below_step HB0.out HB.out)).mono ?_
        rintro e w1 ⟨rfl, hb1⟩
        have HB1 := Lib.hid (below_step HB.out hb1)
        clear hb1 y0 y1 HCx
        go_wp2
        go_ret
        rw [HE.out]
        exact ⟨rfl, HB1.out⟩
      · have HN : Hid (∀ y ∈ t.take (k + 1), y.k ≠ key) := Lib.hid (fun y hy => by
          rw [It.take_snoc hx] at hy
          rcases List.mem_append.1 hy with hy | hy
          · exact HT.out y hy
          · simp at hy; subst hy; exact he)
        rw [decide_eq_false he] at HCx
        clear r1 e1 hx he
        go_wp2_with fail
        refine (HCx.out _ (below_step HB0.out HB.out)).mono ?_
        rintro e w1 ⟨rfl, hb1⟩
        have HB1 := Lib.hid (below_step HB.out hb1)
        clear hb1 y0 y1 HCx
        go_wp2
        go_roundw
        case rel => exact ⟨k + 1, by omega, by go_num, HB1, HN⟩
        case measure => simp [intOf]; omega
    · have HE : Hid (q = -1) := Lib.hid (HQ.out.trans (find_miss (by have := HT.out; rwa [List.take_of_length_le (by rw [← Hna.out]; omega)] at this)))
      go_wp2
      go_ret
      rw [HE.out]
      exact ⟨rfl, HB.out⟩

set_option maxHeartbeats 4000000 in
set_option maxRecDepth 100000 in
theorem find_any (v : Value) (t : List Sg.Sig) (key : List UInt8) (w : World) (h : SgsAt w v t) : Calls Tryz.prog 88 #[v, .string (str key)] w (Ret (.int .i64 (Sg.find t key)) w) := by
  have hb1 := below_alloc w (.cells #[.string (str key)] 9)
  have hc1 := lay_one13 w w.heap.size rfl (.string (str key)) 9
  have HG := Lib.hid (idxFind_any w.heap.size key v t _ _ (Below.refl _ (w.alloc (.cells #[.string (str key)] 9))) (h.mono hb1) (fun x w1 hw1 => cloFind_any w.heap.size key x w1 (cell_below hw1 hc1)))
  obtain ⟨⟨a, cp, rfl, _⟩, hm, _⟩ := h
  generalize t.length = n at *
  have HB := Lib.hid hb1
  have hmf := mkf13
  generalize Sg.find t key = q at *
  clear hb1 hc1 hm
  go_enter Tryz.func88, Tryz.ntmps88
  go_wp2_with fail
  refine HG.out.mono ?_
  rintro e w1 ⟨rfl, hb1⟩
  have HB1 := Lib.hid (below_step HB.out hb1)
  clear hb1 HG HB
  go_wp2
  go_ret
  exact ⟨rfl, HB1.out⟩
end Go.Proofs.YtfjplhgajoehfaaGreatDoor

set_option linter.unusedVariables false
set_option linter.unusedSimpArgs false
namespace Go.Proofs.YtfjplhgajoehfaaGreatDoor
open Go.RowKit

/-- a fault, in the contexts ns -/
def ErrAt : List (List UInt8) → Int → Int → Value → Prop
  | [], c, a, v => v = .iface 69 (.agg #[.int .i64 c, .int .i64 a])
  | x :: r, c, a, v => ∃ u, v = .iface 134 (.agg #[.string (str x), u]) ∧ ErrAt r c a u

set_option maxHeartbeats 1000000 in
set_option maxRecDepth 100000 in
theorem fail_any (c a : Int) (w : World) : Calls Tryz.prog 71 #[.int .i64 c, .int .i64 a] w (Ret (.iface 69 (.agg #[.int .i64 c, .int .i64 a])) w) := by
  go_enter Tryz.func71, Tryz.ntmps71
  go_wp2
  go_ret
  exact ⟨rfl, Below.refl _ _⟩
/-- a node, as a value -/
def ndV (n : El.Nd) (va : Value) : Value := .agg #[.bool (El.isCmd n), .string (str (El.text n)), va, .int .i64 (El.loc n)]
def ctxV (nm : List UInt8) (wf cm : Value) : Value := .agg #[.string (str nm), wf, cm]
def Same (v : Value) (w : World) (e : Ending) (w' : World) : Prop := e = .returned v ∧ Below w.heap.size w w'

theorem nilF_nil (w : World) : (binOp .eql 75 .nilFunc .nilFunc).run Tryz.prog w = .ok (.bool true) w := by kernel_rfl
theorem func_nil (fn : Fn) (x y : Array Value) (w : World) : (binOp .eql 75 (.func fn x y) .nilFunc).run Tryz.prog w = .ok (.bool false) w := by kernel_rfl
theorem err_nil (w : World) : (binOp .neq 72 .nilIface .nilIface).run Tryz.prog w = .ok (.bool false) w := by kernel_rfl
theorem err_some (T : TypeId) (x : Value) (w : World) : (binOp .neq 72 (.iface T x) .nilIface).run Tryz.prog w = .ok (.bool true) w := by kernel_rfl
set_option maxHeartbeats 1000000 in
set_option maxRecDepth 100000 in
theorem take_noWord (nm x : List UInt8) (cm va : Value) (a : Int) (w : World) : Calls Tryz.prog 70 #[.agg #[.string (str nm), .nilFunc, cm], .agg #[.bool false, .string (str x), va, .int .i64 a]] w (Ret (.iface 69 (.agg #[.int .i64 141, .int .i64 a])) w) := by
  have HF := Lib.hid (fun w => fail_any 141 a w)
  have q1 := nilF_nil
  have hb := (below_alloc w (.cells #[.string (str nm), .nilFunc, cm] 78))
  have hb2 := Lib.hid (below_step hb (below_alloc _ (.cells #[.bool false, .string (str x), va, .int .i64 a] 89)))
  clear hb
  go_enter Tryz.func70, Tryz.ntmps70
  go_wp2_with fail
  refine (HF.out _).mono ?_
  rintro e w1 ⟨rfl, hb1⟩
  have HB1 := Lib.hid (below_step hb2.out hb1)
  clear hb1 hb2
  go_wp2
  go_ret
  exact ⟨rfl, HB1.out⟩
set_option maxHeartbeats 1000000 in
set_option maxRecDepth 100000 in
theorem take_word (k : Nat) (hk : ∀ args w, (callFunc k args).run Tryz.prog w = .ok (.enter k args) w) (nm x : List UInt8) (cm va m : Value) (a : Int) (w : World) (Q : Ending → World → Prop) (hQ : ∀ e w', Q e w' → ∃ v, e = .returned v)
    (HC : ∀ w1, Below w.heap.size w w1 → Calls Tryz.prog k #[m, .agg #[.bool false, .string (str x), va, .int .i64 a]] w1 Q) : Calls Tryz.prog 70 #[.agg #[.string (str nm), .func (.func k) #[m] #[], cm], .agg #[.bool false, .string (str x), va, .int .i64 a]] w Q := by
  have hb := (below_alloc w (.cells #[.string (str nm), .func (.func k) #[m] #[], cm] 78))
  have hb2 := Lib.hid (below_step hb (below_alloc _ (.cells #[.bool false, .string (str x), va, .int .i64 a] 89)))
  have HC2 := Lib.hid (HC _ hb2.out)
  have q1 := func_nil
  clear hb HC
  go_enter Tryz.func70, Tryz.ntmps70
  go_wp2_with fail
  refine HC2.out.mono ?_
  intro e w' hq
  obtain ⟨v, rfl⟩ := hQ e w' hq
  go_wp2
  exact hq
set_option maxHeartbeats 1000000 in
set_option maxRecDepth 100000 in
theorem take_wordF (k : Nat) (hk : ∀ args w, (callFunc k args).run Tryz.prog w = .ok (.enter k args) w) (nm x : List UInt8) (cm va : Value) (a : Int) (w : World) (Q : Ending → World → Prop) (hQ : ∀ e w', Q e w' → ∃ v, e = .returned v)
    (HC : ∀ w1, Below w.heap.size w w1 → Calls Tryz.prog k #[.agg #[.bool false, .string (str x), va, .int .i64 a]] w1 Q) : Calls Tryz.prog 70 #[.agg #[.string (str nm), .func (.func k) #[] #[], cm], .agg #[.bool false, .string (str x), va, .int .i64 a]] w Q := by
  have hb := (below_alloc w (.cells #[.string (str nm), .func (.func k) #[] #[], cm] 78))
  have hb2 := Lib.hid (below_step hb (below_alloc _ (.cells #[.bool false, .string (str x), va, .int .i64 a] 89)))
  have HC2 := Lib.hid (HC _ hb2.out)
  have q1 := func_nil
  clear hb HC
  go_enter Tryz.func70, Tryz.ntmps70
  go_wp2_with fail
  refine HC2.out.mono ?_
  intro e w' hq
  obtain ⟨v, rfl⟩ := hQ e w' hq
  go_wp2
  exact hq

set_option maxHeartbeats 1000000 in
set_option maxRecDepth 100000 in
theorem take_wordC (k : Nat) (hk : ∀ args w, (callFunc k args).run Tryz.prog w = .ok (.enter k args) w) (nm x : List UInt8) (cm va p1 p2 : Value) (a : Int) (w : World) (Q : Ending → World → Prop) (hQ : ∀ e w', Q e w' → ∃ v, e = .returned v)
    (HC : ∀ w1, Below w.heap.size w w1 → Calls Tryz.prog k #[.agg #[.bool false, .string (str x), va, .int .i64 a], p1, p2] w1 Q) : Calls Tryz.prog 70 #[.agg #[.string (str nm), .func (.func k) #[] #[p1, p2], cm], .agg #[.bool false, .string (str x), va, .int .i64 a]] w Q := by
  have hb := (below_alloc w (.cells #[.string (str nm), .func (.func k) #[] #[p1, p2], cm] 78))
  have hb2 := Lib.hid (below_step hb (below_alloc _ (.cells #[.bool false, .string (str x), va, .int .i64 a] 89)))
  have HC2 := Lib.hid (HC _ hb2.out)
  have q1 := func_nil
  clear hb HC
  go_enter Tryz.func70, Tryz.ntmps70
  go_wp2_with fail
  refine HC2.out.mono ?_
  intro e w' hq
  obtain ⟨v, rfl⟩ := hQ e w' hq
  go_wp2
  exact hq

theorem zeroRule (w : World) : (zeroValue 117).run Tryz.prog w = .ok (.agg #[.int .i64 0, .nilFunc]) w := by kernel_rfl
/-- the two boxes of take -/
abbrev tk2 (w : World) (nm x : List UInt8) (wf cm va : Value) (a : Int) : World := (w.alloc (.cells #[.string (str nm), wf, cm] 78)).alloc (.cells #[.bool true, .string (str x), va, .int .i64 a] 89)
theorem tk2_below (w : World) (nm x : List UInt8) (wf cm va : Value) (a : Int) : Below w.heap.size w (tk2 w nm x wf cm va a) := below_step (below_alloc _ _) (below_alloc _ _)
set_option maxHeartbeats 1000000 in
set_option maxRecDepth 100000 in
theorem take_noRule (nm x : List UInt8) (wf va : Value) (b : Nat) (l : List (List UInt8 × Value)) (a : Int) (w : World) (hm : Map14 w b l) (hl : look x l = none) : Calls Tryz.prog 70 #[.agg #[.string (str nm), wf, .map (some b)], .agg #[.bool true, .string (str x), va, .int .i64 a]] w (Ret (.iface 69 (.agg #[.int .i64 142, .int .i64 a])) w) := by
  have HF := Lib.hid (fun w => fail_any 142 a w)
  have hb2 := tk2_below w nm x wf (.map (some b)) va a
  have HM := Lib.hid (hm.mono hb2)
  have HB2 := Lib.hid hb2
  clear hb2 hm
  go_enter Tryz.func70, Tryz.ntmps70
  go_wp2_with (first | (at_lookup; refine wpList_look14 _ rfl _ _ 76 rfl Tryz.underlying76 (zeroRule _) b l rfl HM.out x rfl ?_; rw [hl]; simp only [Option.getD_none, Option.isSome_none]) | fail)
  have HB3 := Lib.hid (below_step HB2.out (below_alloc _ (.cells #[.int .i64 0, .nilFunc] 117)))
  refine (HF.out _).mono ?_
  rintro e w1 ⟨rfl, hb1⟩
  have HB1 := Lib.hid (below_step HB3.out hb1)
  clear hb1
  go_wp2
  go_ret
  exact ⟨rfl, HB1.out⟩
set_option maxHeartbeats 1000000 in
set_option maxRecDepth 100000 in
theorem take_nilRule (nm x : List UInt8) (wf va : Value) (a : Int) (w : World) : Calls Tryz.prog 70 #[.agg #[.string (str nm), wf, .map none], .agg #[.bool true, .string (str x), va, .int .i64 a]] w (Ret (.iface 69 (.agg #[.int .i64 142, .int .i64 a])) w) := by
  have HF := Lib.hid (fun w => fail_any 142 a w)
  have HB2 := Lib.hid (tk2_below w nm x wf (.map none) va a)
  go_enter Tryz.func70, Tryz.ntmps70
  go_wp2_with (first | (at_lookup; refine wpList_look_nil14 _ rfl _ _ 76 rfl Tryz.underlying76 (zeroRule _) rfl x rfl ?_) | fail)
  have HB3 := Lib.hid (below_step HB2.out (below_alloc _ (.cells #[.int .i64 0, .nilFunc] 117)))
  refine (HF.out _).mono ?_
  rintro e w1 ⟨rfl, hb1⟩
  have HB1 := Lib.hid (below_step HB3.out hb1)
  clear hb1
  go_wp2
  go_ret
  exact ⟨rfl, HB1.out⟩
set_option maxHeartbeats 1000000 in
set_option maxRecDepth 100000 in
theorem take_args (nm x : List UInt8) (wf : Value) (fn : Fn) (fs cs : Array Value) (b n c k : Nat) (ad : Option Addr) (l : List (List UInt8 × Value)) (a : Int) (w : World) (hm : Map14 w b l) (hl : look x l = some (.agg #[.int .i64 k, .func fn fs cs])) (hne : ¬ (n : Int) = (k : Int)) : Calls Tryz.prog 70 #[.agg #[.string (str nm), wf, .map (some b)], .agg #[.bool true, .string (str x), .slice ad n c, .int .i64 a]] w (Ret (.iface 69 (.agg #[.int .i64 143, .int .i64 a])) w) := by
  have HF := Lib.hid (fun w => fail_any 143 a w)
  have hb2 := tk2_below w nm x wf (.map (some b)) (.slice ad n c) a
  have HM := Lib.hid (hm.mono hb2)
  have HB2 := Lib.hid hb2
  have hne2 : ((n : Int) == (k : Int)) = false := by simp [hne]
  clear hb2 hm
  go_enter Tryz.func70, Tryz.ntmps70
  go_wp2_with (first | (at_lookup; refine wpList_look14 _ rfl _ _ 76 rfl Tryz.underlying76 (zeroRule _) b l rfl HM.out x rfl ?_; rw [hl]; simp only [Option.getD_some, Option.isSome_some]) | fail)
  have HB3 := Lib.hid (below_step HB2.out (below_alloc _ (.cells #[.int .i64 k, .func fn fs cs] 117)))
  refine (HF.out _).mono ?_
  rintro e w1 ⟨rfl, hb1⟩
  have HB1 := Lib.hid (below_step HB3.out hb1)
  clear hb1
  go_wp2
  go_ret
  exact ⟨rfl, HB1.out⟩
set_option maxHeartbeats 1000000 in
set_option maxRecDepth 100000 in
theorem take_do (k : Nat) (hk : ∀ args w, (callFunc k args).run Tryz.prog w = .ok (.enter k args) w) (nm x : List UInt8) (wf m : Value) (b n c : Nat) (ad : Option Addr) (l : List (List UInt8 × Value)) (a : Int) (w : World) (hm : Map14 w b l) (hl : look x l = some (.agg #[.int .i64 n, .func (.func k) #[m] #[]]))
    (Q : Ending → World → Prop) (hQ : ∀ e w', Q e w' → ∃ v, e = .returned v) (HC : ∀ w1, Below w.heap.size w w1 → Calls Tryz.prog k #[m, .agg #[.bool true, .string (str x), .slice ad n c, .int .i64 a]] w1 Q) : Calls Tryz.prog 70 #[.agg #[.string (str nm), wf, .map (some b)], .agg #[.bool true, .string (str x), .slice ad n c, .int .i64 a]] w Q := by
  have hb2 := tk2_below w nm x wf (.map (some b)) (.slice ad n c) a
  have HM := Lib.hid (hm.mono hb2)
  have HC3 := Lib.hid (HC _ (below_step hb2 (below_alloc _ (.cells #[.int .i64 n, .func (.func k) #[m] #[]] 117))))
  clear hb2 hm HC
  go_enter Tryz.func70, Tryz.ntmps70
  go_wp2_with (first | (at_lookup; refine wpList_look14 _ rfl _ _ 76 rfl Tryz.underlying76 (zeroRule _) b l rfl HM.out x rfl ?_; rw [hl]; simp only [Option.getD_some, Option.isSome_some]) | fail)
  refine HC3.out.mono ?_
  intro e w' hq
  obtain ⟨v, rfl⟩ := hQ e w' hq
  go_wp2
  exact hq
set_option maxHeartbeats 1000000 in
set_option maxRecDepth 100000 in
theorem take_doC (k : Nat) (hk : ∀ args w, (callFunc k args).run Tryz.prog w = .ok (.enter k args) w) (nm x : List UInt8) (wf p1 p2 : Value) (b n c : Nat) (ad : Option Addr) (l : List (List UInt8 × Value)) (a : Int) (w : World) (hm : Map14 w b l) (hl : look x l = some (.agg #[.int .i64 n, .func (.func k) #[] #[p1, p2]]))
    (Q : Ending → World → Prop) (hQ : ∀ e w', Q e w' → ∃ v, e = .returned v) (HC : ∀ w1, Below w.heap.size w w1 → Calls Tryz.prog k #[.agg #[.bool true, .string (str x), .slice ad n c, .int .i64 a], p1, p2] w1 Q) : Calls Tryz.prog 70 #[.agg #[.string (str nm), wf, .map (some b)], .agg #[.bool true, .string (str x), .slice ad n c, .int .i64 a]] w Q := by
  have hb2 := tk2_below w nm x wf (.map (some b)) (.slice ad n c) a
  have HM := Lib.hid (hm.mono hb2)
  have HC3 := Lib.hid (HC _ (below_step hb2 (below_alloc _ (.cells #[.int .i64 n, .func (.func k) #[] #[p1, p2]] 117))))
  clear hb2 hm HC
  go_enter Tryz.func70, Tryz.ntmps70
  go_wp2_with (first | (at_lookup; refine wpList_look14 _ rfl _ _ 76 rfl Tryz.underlying76 (zeroRule _) b l rfl HM.out x rfl ?_; rw [hl]; simp only [Option.getD_some, Option.isSome_some]) | fail)
  refine HC3.out.mono ?_
  intro e w' hq
  obtain ⟨v, rfl⟩ := hQ e w' hq
  go_wp2
  exact hq
set_option maxHeartbeats 1000000 in
set_option maxRecDepth 100000 in
theorem take_doF (k : Nat) (hk : ∀ args w, (callFunc k args).run Tryz.prog w = .ok (.enter k args) w) (nm x : List UInt8) (wf : Value) (b n c : Nat) (ad : Option Addr) (l : List (List UInt8 × Value)) (a : Int) (w : World) (hm : Map14 w b l) (hl : look x l = some (.agg #[.int .i64 n, .func (.func k) #[] #[]]))
    (Q : Ending → World → Prop) (hQ : ∀ e w', Q e w' → ∃ v, e = .returned v) (HC : ∀ w1, Below w.heap.size w w1 → Calls Tryz.prog k #[.agg #[.bool true, .string (str x), .slice ad n c, .int .i64 a]] w1 Q) : Calls Tryz.prog 70 #[.agg #[.string (str nm), wf, .map (some b)], .agg #[.bool true, .string (str x), .slice ad n c, .int .i64 a]] w Q := by
  have hb2 := tk2_below w nm x wf (.map (some b)) (.slice ad n c) a
  have HM := Lib.hid (hm.mono hb2)
  have HC3 := Lib.hid (HC _ (below_step hb2 (below_alloc _ (.cells #[.int .i64 n, .func (.func k) #[] #[]] 117))))
  clear hb2 hm HC
  go_enter Tryz.func70, Tryz.ntmps70
  go_wp2_with (first | (at_lookup; refine wpList_look14 _ rfl _ _ 76 rfl Tryz.underlying76 (zeroRule _) b l rfl HM.out x rfl ?_; rw [hl]; simp only [Option.getD_some, Option.isSome_some]) | fail)
  refine HC3.out.mono ?_
  intro e w' hq
  obtain ⟨v, rfl⟩ := hQ e w' hq
  go_wp2
  exact hq
end Go.Proofs.YtfjplhgajoehfaaGreatDoor
