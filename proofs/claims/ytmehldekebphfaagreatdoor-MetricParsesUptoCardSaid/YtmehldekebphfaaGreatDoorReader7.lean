/-
  The landed reader in memory, and laws on a region's operations.
-/
import Derived.Test.YtmehldekebphfaaGreatDoorReadLine7
import Derived.Deep.AppendLies
import Derived.Deep.RegionHeld
set_option linter.unusedVariables false
set_option linter.unusedSimpArgs false
namespace Go.Proofs.YtmehldekebphfaaGreatDoor
open Go.RowKit

/-- the reader at RB: how many lines, which kind the last one was, the table so far -/
def ReaderIs (w : World) (RB : Nat) (i last : Int) (m : Mt.Tab) : Prop := ∃ cv kv lv, w.heap[RB]? = some (.cells #[.int .i64 i, .int .i64 last, .int .i64 m.sw, .int .i64 m.st, .int .i64 m.sk, .int .i64 m.order, .int .i32 m.hyph, cv, kv, lv] 57 (0, 0)) ∧
  OwnR 38 chC 4 (RB + 1) cv m.chars w ∧ OwnR 52 knC 3 (RB + 1) kv m.kerns w ∧ OwnR 54 lgC 3 (RB + 1) lv m.ligs w
/-- nothing but the reader and rows of records has changed -/
def KeptT (w w' : World) : Prop := ∀ (b : Nat) (c : Array Value) (T : TypeId) (fr : Nat × Nat), w.heap[b]? = some (.cells c T fr) → T ≠ 57 → T ≠ 38 → T ≠ 52 → T ≠ 54 → w'.heap[b]? = some (.cells c T fr)
def AddPost (RB : Nat) (i last : Int) (m : Mt.Tab) (w : World) (e : Ending) (w' : World) : Prop := e = .returned (.tuple #[]) ∧ ReaderIs w' RB i last m ∧ KeptT w w' ∧ Below RB w w'
theorem KeptT.below {w w' : World} (h : Below w.heap.size w w') : KeptT w w' := fun b c T fr hb _ _ _ _ => obj_kept h hb
theorem KeptT.trans {w w1 w2 : World} (h : KeptT w w1) (k : KeptT w1 w2) : KeptT w w2 := fun b c T fr hb h1 h2 h3 h4 => k b c T fr (h b c T fr hb h1 h2 h3 h4) h1 h2 h3 h4
theorem KeptT.set {w w1 : World} {RB i : Nat} {v : Value} {cs : Array Value} (h : KeptT w w1) (hr : w.heap[RB]? = some (.cells cs 57 (0, 0))) : KeptT w (w1.setCell ⟨RB, i, none⟩ v) := fun b c T fr hb h1 h2 h3 h4 => by
  refine obj_set (h b c T fr hb h1 h2 h3 h4) (fun e => h1 ?_)
  subst e
  rw [hr] at hb
  injection hb with hb
  injection hb with _ hb _
  exact hb.symm
theorem OwnR.set7 {α : Type} {T : TypeId} {f : α → List Value} {k B p i : Nat} {v y : Value} {l : List α} {w : World} (h : OwnR T f k B v l w) (hp : p < B) : OwnR T f k B v l (w.setCell ⟨p, i, none⟩ y) := by
  refine World.ownsRow.kept h (row := some p) ?_ ?_
  · have hb : Below 0 w (w.setCell ⟨p, i, none⟩ y) := (Below.refl 0 w).setCell (p := ⟨p, i, none⟩) (Nat.zero_le _) y
    refine ⟨hb.os, hb.tape, hb.output, hb.size, fun j hj hne => ?_⟩
    exact Below.heap_setCell w ⟨p, i, none⟩ y j (fun e => hne (by rw [e]))
  · exact .inr fun e => by
      have := (World.ownsRow.lt h p e).1
      omega

theorem own_off7 {w : World} {B F s n b : Nat} {u : Value} {ys : List Value} {cs : Array Value} {T : TypeId} {fr : Nat × Nat} (h : w.ownsRow B F s u n ys) (hb : w.heap[b]? = some (.cells cs T fr)) (hT : T ≠ F) : some b ≠ u.ownBlock := fun hq => by
  rcases h.2 with ⟨hv0, _⟩ | ⟨gg, cp, cu, hv0, _, hgb, _⟩
  · rw [hv0] at hq; cases hq
  · rw [hv0] at hq
    simp [Value.ownBlock] at hq
    subst hq
    rw [hb] at hgb
    injection hgb with hgb
    injection hgb with _ hgb _
    exact hT hgb
theorem own_ne_i {k : IntKind} {E F : TypeId} {B B' s n b o l d : Nat} {u : Value} {xs : List Int} {ys : List Value} {w : World} (h : OwnI k E B (.slice (some ⟨b, o, none⟩) l d) xs w) (ho : w.ownsRow B' F s u n ys) (hE : E ≠ F) : some b ≠ u.ownBlock := by
  rcases own_apart h ho hE with hn | hn
  · cases hn
  · exact hn
/-- an operation that yields where S holds may be taken first: what it is, said apart -/
theorem take_op {P : Program} {md : Region.Mode} {ops : Array Oper} {Q : Exit → Act → World → Prop} {S : World → Prop} {i : Nat} {d : Tmp} {op : Op} {ty : TypeId} {v : Value} {fuel : Nat} {listed : Array Bool} {a : Act} {w : World}
    (hi : (ops[i]?).map (fun o => (o.dst, o.op, o.type)) = some (some d, op, ty)) (hg : (ops[i]?).map (fun o => o.guard) = some none)
    (hs : Region.noSelect ops = true) (hf : Region.free md ops listed i = true) (hr : (Region.ready md ops listed).contains i = true)
    (hQ : ∀ c a w, Q (.panic c) (a.put (some d) v) w → Q (.panic c) a w)
    (hy : ∀ w, S w → (execOp a.eval { dst := some d, op := op, type := ty, pos := "", after := #[], guard := none }).run P w = .ok (.value v) w) (hS : S w)
    (h : wpAnyH P md ops Q S fuel (listed.setIfInBounds i true) (a.put (some d) v) w) : wpAnyH P md ops Q S (fuel + 1) listed a w := by
  cases ho : ops[i]? with
  | none => rw [ho] at hi; cases hi
  | some o =>
    rw [ho] at hi hg
    obtain ⟨dst, op', ty', pos, aft, gd⟩ := o
    simp only [Option.map_some, Option.some.injEq, Prod.mk.injEq] at hi hg
    obtain ⟨rfl, rfl, rfl⟩ := hi
    subst hg
    exact wpAnyH_take ho hs hf hr hQ (.inl ⟨by simp [Region.wanted], hy⟩) hS h

theorem infoChr : (Tryz.prog.info? 38).map (fun i => (i.zero, i.size, i.bytes)) = some (some (.agg #[.int .i32 0, .int .i64 0, .int .i64 0, .int .i64 0]), 4, 32) := by kernel_rfl
theorem infoKrn : (Tryz.prog.info? 52).map (fun i => (i.zero, i.size, i.bytes)) = some (some (.agg #[.int .i32 0, .int .i32 0, .int .i64 0]), 3, 16) := by kernel_rfl
theorem infoLig : (Tryz.prog.info? 54).map (fun i => (i.zero, i.size, i.bytes)) = some (some (.agg #[.int .i32 0, .int .i32 0, .int .i32 0]), 3, 12) := by kernel_rfl
end Go.Proofs.YtmehldekebphfaaGreatDoor
