/-
  A loop over an iterator that keeps what is left in a box of its own: what the iterator promises, and what the loop may then say.
-/
import Derived.Test.YtlgfmkmpopcciaaDoorDenoted13
import Derived.RangeFuncBound
import Derived.RangeFuncCalls
import Derived.RangeFuncLeaves
import Derived.RangeFuncWrites
import Derived.Shelf.Abstract
import Derived.OwnWalkIn
import Derived.TacticsInMore
import Derived.LoopNIn
import Derived.LoopIn
set_option linter.unusedVariables false
set_option linter.unusedSimpArgs false
namespace Go.Proofs.YtlgfmkmpopcciaaDoor
open Go.RowKit Go.Shelf

/-- the three boxes of an iterator stand as they stood -/
def BoxesKept (b : Nat) (W W' : World) : Prop := ∀ k, b ≤ k → k < b + 3 → W'.heap[k]? = W.heap[k]?
/-- what is said of a world outlives whatever turns block b alone -/
def Outlives {β : Type} (b : Nat) (J : β → World → Prop) : Prop := ∀ s A A', J s A → A.grownBy A' (some b) → J s A'
/-- an iterator over the list xs, what is left kept in box b: it calls the rounds in the list's order, till one says that no more is wanted -/
def SeqBox {α : Type} (P : Program) (n gf : Nat) (lb : Array Value) (encs : α → Array Value) (b : Nat) (xs : List α) (w : World) : Prop :=
  ∀ (l : Nat) (J Jx : List α → World → Prop) (W : World), Below w.heap.size w W → Outlives b J → Outlives b Jx →
    (∀ pre x post W1, xs = pre ++ x :: post → J pre W1 → YieldAt Fence.wide (n - 1) P l (encs x) W1 fun e W' =>
      (e = .returned (.bool true) ∧ J (pre ++ [x]) W' ∧ BoxesKept b W1 W') ∨ (e = .returned (.bool false) ∧ Jx (pre ++ [x]) W')) →
    J [] W → CallsIn Fence.wide n P gf (#[.func (.yield l) #[] #[]] ++ lb) W fun e W' => (∃ v, e = .returned v) ∧ (J xs W' ∨ ∃ pre, Jx pre W')
/-- how the body of a round may end: it goes on, or it returns -/
def RoundEnds {α : Type} (B b : Nat) (I Ix : List α → World → Prop) (pre : List α) (W : World) : Exit → Act → World → Prop
  | .normal, _, W' => KeepsFrom B W W' ∧ BoxesKept b W W' ∧ I pre W'
  | .ret, _, W' => KeepsFrom B W W' ∧ Ix pre W'
  | .exit _, _, _ => False
  | .goto _, _, _ => False
  | .panic _, _, _ => False
  | .outgrown, _, _ => False
theorem kept_other {W W' : World} {b k : Nat} {o : Obj} (hg : W.grownBy W' (some b)) (h : W.heap[k]? = some o) (hne : k ≠ b) : W'.heap[k]? = some o :=
  (hg.block k (lt_of_obj h) (fun e => hne (by injection e))).trans h
theorem boxes_put {b l : Nat} (W : World) (o : Obj) (h : b + 3 ≤ l) : BoxesKept b W (W.putObj l o) := fun k _ hk => World.putObj_heap_other (by omega)
theorem BoxesKept.trans {b : Nat} {X Y Z : World} (h : BoxesKept b X Y) (k : BoxesKept b Y Z) : BoxesKept b X Z := fun i h0 h1 => (k i h0 h1).trans (h i h0 h1)
/-- the loop: I holds between two rounds; Ix behind a round that has returned -/
theorem wpIn_range_box {α : Type} {P : Program} {n : Nat} {g : Operand} {ps : Array Tmp} {assign body : Code} {Q : Exit → Act → World → Prop} {a : Act} {w : World}
    {gf : Nat} {lb : Array Value} (hg : a.eval g = .func (.func gf) #[] lb) (eg : ∀ args w, (callFunc gf args).run P w = .ok (.enter gf args) w)
    {encs : α → Array Value} {b : Nat} (hb : b + 3 ≤ w.heap.size) {xs : List α} (hseq : SeqBox P (n - 1) gf lb encs b xs w) (hps : ∀ x, (encs x).size = ps.size)
    (I Ix : List α → World → Prop) (hI : OwnFrom w.heap.size I) (hIx : OwnFrom w.heap.size Ix) (hIo : Outlives b I) (hIxo : Outlives b Ix) (h0 : I [] w) (a₁ : α → Act)
    (hassign : ∀ (l : Nat) (x : α) (W : World) (K : Act → World → Prop), K (a₁ x) W →
      assign.wpIn (Fence.wide.inRound l) (n - 1 - 1) P (Exit.then K (fun _ _ _ => False)) { tmps := (ps.zip (encs x)).foldl (fun t (p, v) => t.setIfInBounds p v) a.tmps, defers := [] } W)
    (hbody : ∀ (l : Nat) (pre : List α) (x : α) (post : List α) (W : World), xs = pre ++ x :: post → I pre W → body.wpIn (Fence.wide.inRound l) (n - 1 - 1) P (RoundEnds w.heap.size b I Ix (pre ++ [x]) W) (a₁ x) W)
    (hdone : ∀ (D : Nat) (W : World), w.heap.size ≤ D → I xs W → W.heap[D]? = some (.deferred (some [])) → Q .normal { a with defers := { target := .collected D, args := #[] } :: a.defers } W)
    (hstop : ∀ (D : Nat) (pre : List α) (W : World), w.heap.size ≤ D → Ix pre W → W.heap[D]? = some (.deferred (some [])) → Code.ret.wpIn Fence.wide n P Q { a with defers := { target := .collected D, args := #[] } :: a.defers } W) :
    (Code.rangeFunc g ps assign body).wpIn Fence.wide n P Q a w := by
  refine wpIn_rangeFunc fun fn hfn => ?_
  -- the block for deferred calls lies at D, the loop's record at D + 1
  obtain ⟨D, hD⟩ : ∃ D, D = w.heap.size := ⟨_, rfl⟩
  obtain ⟨R, hR⟩ : ∃ R : LoopState → Option Code → Obj, R = fun st pe => .loop { state := st, pending := pe, fn, tmps := a.tmps, params := ps, assign, body, defers := D } := ⟨_, rfl⟩
  obtain ⟨V, hV⟩ : ∃ V, V = (w.alloc (.deferred (some []))).alloc (R .ready none) := ⟨_, rfl⟩
  have vD : V.heap[D]? = some (.deferred (some [])) := by
    rw [hV, hD]; exact (Below.heap_alloc _ _ _ (by simp)).trans (World.alloc_heap_new w _)
  have vR : V.heap[D + 1]? = some (R .ready none) := by
    have h := World.alloc_heap_new (w.alloc (.deferred (some []))) (R .ready none)
    rw [World.size_alloc] at h
    rw [hV, hD]; exact h
  have vB : Below w.heap.size w V := by rw [hV]; exact below_step (below_alloc _ _) (below_alloc _ _)
  have vI : I [] V := by rw [hV]; exact hI.alloc _ (hI.alloc _ h0)
  have tell : ∀ (st : LoopState) (pe : Option Code), (R st pe).isCells = false := fun st pe => by rw [hR]; rfl
  -- what holds between two rounds, and behind the last one
  let J : List α → World → Prop := fun pre W => I pre W ∧ W.heap[D + 1]? = some (R .ready none) ∧ W.heap[D]? = some (.deferred (some []))
  let Jx : List α → World → Prop := fun pre W => Ix pre W ∧ W.heap[D + 1]? = some (R .done (some .ret)) ∧ W.heap[D]? = some (.deferred (some []))
  have hJ : Outlives b J := fun s A A' h hg' => ⟨hIo s A A' h.1 hg', kept_other hg' h.2.1 (by omega), kept_other hg' h.2.2 (by omega)⟩
  have hJx : Outlives b Jx := fun s A A' h hg' => ⟨hIxo s A A' h.1 hg', kept_other hg' h.2.1 (by omega), kept_other hg' h.2.2 (by omega)⟩
  have shut : ∀ {I' : List α → World → Prop} (hI' : OwnFrom w.heap.size I') {st st' : LoopState} {pe pe' : Option Code} {pre : List α} {W : World}, I' pre W → W.heap[D + 1]? = some (R st pe) → W.heap[D]? = some (.deferred (some [])) →
      I' pre (W.putObj (D + 1) (R st' pe')) ∧ (W.putObj (D + 1) (R st' pe')).heap[D + 1]? = some (R st' pe') ∧ (W.putObj (D + 1) (R st' pe')).heap[D]? = some (.deferred (some [])) :=
    fun hI' _ _ _ _ _ _ h1 h2 h3 => ⟨hI'.putObj _ h1 (by omega) h2 (tell _ _), World.putObj_heap_same (lt_of_obj h2), (World.putObj_heap_other (by omega)).trans h3⟩
  refine ⟨D + 1, [{ target := .collected D, args := #[] }], V, { target := .fn (.func gf) lb, args := #[.func (.yield (D + 1)) #[] #[]] }, V, gf, #[.func (.yield (D + 1)) #[] #[]] ++ lb, V, ?_, ?_, ?_, ?_, fun h => Bool.noConfusion h, ?_⟩
  · rw [hV, hR, hD]; exact run_enterLoop_outer _ _ _ _ _
  · simp only [resolve, hg]
    simp [go_sem]
  · intro f' _; trivial
  · simp [invoke, go_sem, eg]
  · refine (hseq (D + 1) J Jx V vB hJ hJx (fun pre x post W hx hW => ?_) ⟨vI, vR, vD⟩).mono ?_
    · obtain ⟨hi, hl, hk⟩ := hW
      have hl' := hl
      rw [hR] at hl'
      have hy := run_yield (P := P) (args := encs x) hl' (hps x)
      have hbeg := run_beginRound (P := P) hl' rfl
      have hbusy : ({ state := .busy, pending := none, fn, tmps := a.tmps, params := ps, assign, body, defers := D } : Loop) = { ({ state := .ready, pending := none, fn, tmps := a.tmps, params := ps, assign, body, defers := D } : Loop) with state := .busy } := rfl
      rw [← hbusy] at hbeg
      have hRb : Obj.loop { state := .busy, pending := none, fn, tmps := a.tmps, params := ps, assign, body, defers := D } = R .busy none := by rw [hR]
      rw [hRb] at hbeg
      obtain ⟨i2, l2, k2⟩ := shut hI (st' := .busy) (pe' := none) hi hl hk
      refine ⟨fn, _, assign, body, hy, roundIn_of_wpIn hfn (hassign _ x W _ ⟨_, hbeg, ?_⟩)⟩
      refine wpIn_mono (hbody _ pre x post _ hx i2) ?_
      have fin : ∀ (jump : Option Code) (W3 : World), KeepsFrom w.heap.size (W.putObj (D + 1) (R .busy none)) W3 → (Instr.endRound (D + 1) jump).run P W3 = .ok (.bool jump.isNone) (W3.putObj (D + 1) (R (if jump.isNone then .ready else .done) jump)) ∧ W3.heap[D + 1]? = some (R .busy none) ∧ W3.heap[D]? = some (.deferred (some [])) := fun jump W3 hk3 => by
        have h1 := hk3.same _ _ (by omega) l2 (tell _ _)
        have h2 := hk3.same _ _ (by omega) k2 rfl
        have h3 := h1
        rw [← hRb] at h3
        have h4 := run_endRound (P := P) jump h3
        refine ⟨?_, h1, h2⟩
        rw [h4, hR]
      rintro e a3 W3 hp
      cases e with
      | normal =>
        obtain ⟨hk3, hb3, hi3⟩ := hp
        obtain ⟨hr, hl3, hd3⟩ := fin none W3 hk3
        refine ⟨_, _, hr, .inl ⟨rfl, shut hI hi3 hl3 hd3, ?_⟩⟩
        exact ((boxes_put W _ (by omega)).trans hb3).trans (boxes_put W3 _ (by omega))
      | ret =>
        obtain ⟨hk3, hi3⟩ := hp
        obtain ⟨hr, hl3, hd3⟩ := fin (some .ret) W3 hk3
        exact ⟨_, _, hr, .inr ⟨rfl, shut hIx hi3 hl3 hd3⟩⟩
      | exit id => exact hp.elim
      | goto t => exact hp.elim
      | panic ch => exact hp.elim
      | outgrown => exact hp.elim
    · rintro e W2 ⟨⟨v, rfl⟩, (⟨hi, hl, hk⟩ | ⟨pre, hi, hl, hk⟩)⟩
      · have hl' := hl
        rw [hR] at hl'
        have he := run_endLoop (P := P) hl' (by simp)
        refine ⟨none, _, he, ?_⟩
        have hex : Obj.loop { ({ state := .ready, pending := none, fn, tmps := a.tmps, params := ps, assign, body, defers := D } : Loop) with state := .exhausted } = R .exhausted none := by rw [hR]
        rw [hex]
        obtain ⟨i4, l4, k4⟩ := shut hI (st' := .exhausted) (pe' := none) hi hl hk
        exact hdone D _ (by omega) i4 k4
      · have hl' := hl
        rw [hR] at hl'
        have he := run_endLoop (P := P) hl' (by simp)
        refine ⟨some .ret, _, he, ?_⟩
        have hex : Obj.loop { ({ state := .done, pending := some .ret, fn, tmps := a.tmps, params := ps, assign, body, defers := D } : Loop) with state := .exhausted } = R .exhausted (some .ret) := by rw [hR]
        rw [hex]
        obtain ⟨i4, l4, k4⟩ := shut hIx (st' := .exhausted) (pe' := some .ret) hi hl hk
        exact hstop D pre _ (by omega) i4 k4
end Go.Proofs.YtlgfmkmpopcciaaDoor
