/-
  The landed maker in memory: its contexts, its rows; a list visited in a context.
-/
import Derived.Test.YtfjplhgajoehfaaGreatDoorQMk14
set_option linter.unusedVariables false
set_option linter.unusedSimpArgs false
namespace Go.Proofs.YtfjplhgajoehfaaGreatDoor
open Go.RowKit

/-- where a maker lies: its block, its map of labels, its maps of rules, the variables that its closures hold; the table; the world ahead of it -/
structure Env14 where
  p : Nat
  bl : Nat
  bs : Nat
  bd : Nat
  bc : Nat
  bt : Nat
  bx : Nat
  bn : Nat
  bo : Nat
  pm : Nat
  q : Nat → Nat
  tv : Value
  t : List Sg.Sig
  w0 : World
def Env14.m (E : Env14) : Value := .pointer (some ⟨E.p, 0, none⟩)
def Env14.mf (E : Env14) (k : Nat) : Value := .func (.func k) #[E.m] #[]
def ruleV (n : Nat) (f : Value) : Value := .agg #[.int .i64 n, f]
def nmSource : List UInt8 := [115, 111, 117, 114, 99, 101]
def nmSide : List UInt8 := [115, 105, 100, 101]
def nmStanza : List UInt8 := [115, 116, 97, 110, 122, 97]
def nmNotes : List UInt8 := [110, 111, 116, 101, 115]
def nmNote : List UInt8 := [110, 111, 116, 101]
def nmKeys : List UInt8 := [107, 101, 121, 115]
def nmName : List UInt8 := [110, 97, 109, 101]
def Env14.mSource (E : Env14) : List (List UInt8 × Value) := [(El.tText, ruleV 1 (E.mf 51)), (El.tLeft, ruleV 1 (E.mf 51)), (El.tRight, ruleV 1 (E.mf 51))]
def Env14.mSide (E : Env14) : List (List UInt8 × Value) := [(El.tChunk, ruleV 1 (E.mf 54))]
def Env14.mChunk (E : Env14) : List (List UInt8 × Value) := [(El.tP, ruleV 1 (E.mf 55)), (El.tVerse, ruleV 1 (E.mf 56)), (El.tSet, ruleV 1 (E.mf 57))]
def Env14.mStanza (E : Env14) : List (List UInt8 × Value) := [(El.tL, ruleV 1 (E.mf 58))]
def Env14.mText (E : Env14) : List (List UInt8 × Value) := [(El.tEd, ruleV 2 (E.mf 60)), (El.tLabel, ruleV 1 (E.mf 61))]
def Env14.foot (E : Env14) (i : Nat) : Value := ruleV 1 (.func (.func 52) #[] #[.pointer (some ⟨E.pm, 0, none⟩), .pointer (some ⟨E.q i, 0, none⟩)])
def Env14.mNotes (E : Env14) (k : Nat) : List (List UInt8 × Value) := (List.range k).map fun i => (El.seriesL.getD i [], E.foot i)
def Env14.mNote (E : Env14) : List (List UInt8 × Value) := [(El.tSig, ruleV 1 (E.mf 63)), (El.tRef, ruleV 1 (E.mf 64))]

/-- the maker's cells -/
def Env14.cells (E : Env14) (y : Dyn) (lev : Nat) (s : El.St) : Array Value :=
  #[.string (str nmSource), .nilFunc, .map (some E.bs), .string (str nmSide), .nilFunc, .map (some E.bd), .string (str El.tChunk), .nilFunc, .map (some E.bc), .string (str nmStanza), .nilFunc, .map (some E.bt),
    .string (str El.tText), E.mf 59, .map (some E.bx), .string (str nmNotes), .nilFunc, .map (some E.bn), .string (str nmNote), E.mf 62, .map (some E.bo),
    .string (str nmKeys), E.mf 65, .map none, .string (str nmName), .func (.func 66) #[] #[], .map none,
    E.tv, y.vs, y.vl, .map (some E.bl), y.vc, y.vw, y.vn, y.vp, y.ve, .int .i64 s.num, .int .i64 lev, .int .i64 0, .int .i64 s.fr, .int .i64 s.til, .slice none 0 0, .int .i64 0, y.vt]

/-- what never changes: the blocks of S stand as in w1 -/
structure Stat14 (E : Env14) (S : Nat → Prop) (w1 : World) : Prop where
  s0 : ∀ b, S b → E.w0.heap.size ≤ b
  ms : Map14 w1 E.bs E.mSource ∧ S E.bs
  md : Map14 w1 E.bd E.mSide ∧ S E.bd
  mc : Map14 w1 E.bc E.mChunk ∧ S E.bc
  mt : Map14 w1 E.bt E.mStanza ∧ S E.bt
  mx : Map14 w1 E.bx E.mText ∧ S E.bx
  mn : Map14 w1 E.bn (E.mNotes 11) ∧ S E.bn
  mo : Map14 w1 E.bo E.mNote ∧ S E.bo
  pm : w1.heap[E.pm]? = some (.cells #[E.m] 66 (0, 0)) ∧ S E.pm
  q : ∀ i, i < 11 → w1.heap[E.q i]? = some (.cells #[.int .i64 i] 3 (0, 0)) ∧ S (E.q i)
  tab : SgsAt E.w0 E.tv E.t
theorem Map14.same {w w' : World} {b : Nat} {l : List (List UInt8 × Value)} (h : Map14 w b l) (e : w'.heap[b]? = w.heap[b]?) : Map14 w' b l := by
  obtain ⟨es, clock, h1, he⟩ := h
  exact ⟨es, clock, by rw [e]; exact h1, he⟩
theorem Stat14.move {E : Env14} {S S' : Nat → Prop} {w1 w1' : World} (h : Stat14 E S w1) (hS : ∀ b, S b → S' b) (hw : ∀ b, S b → w1'.heap[b]? = w1.heap[b]?) (h0 : ∀ b, S' b → E.w0.heap.size ≤ b) : Stat14 E S' w1' where
  s0 := h0
  ms := ⟨h.ms.1.same (hw _ h.ms.2), hS _ h.ms.2⟩
  md := ⟨h.md.1.same (hw _ h.md.2), hS _ h.md.2⟩
  mc := ⟨h.mc.1.same (hw _ h.mc.2), hS _ h.mc.2⟩
  mt := ⟨h.mt.1.same (hw _ h.mt.2), hS _ h.mt.2⟩
  mx := ⟨h.mx.1.same (hw _ h.mx.2), hS _ h.mx.2⟩
  mn := ⟨h.mn.1.same (hw _ h.mn.2), hS _ h.mn.2⟩
  mo := ⟨h.mo.1.same (hw _ h.mo.2), hS _ h.mo.2⟩
  pm := ⟨(hw _ h.pm.2).trans h.pm.1, hS _ h.pm.2⟩
  q := fun i hi => ⟨(hw _ (h.q i hi).2).trans (h.q i hi).1, hS _ (h.q i hi).2⟩
  tab := h.tab

/-- the maker with the state s, lev lemmas open, d contexts deep -/
structure MkP (E : Env14) (S : Nat → Prop) (w1 : World) (lev d : Nat) (s : El.St) (K : Nat → Prop) (y : Dyn) (w : World) : Prop where
  obj : w.heap[E.p]? = some (.cells (E.cells y lev s) 83 (0, 0))
  lab : Map14 w E.bl (s.labels.map fun x => (x.name, Value.agg #[]))
  below : Below E.w0.heap.size E.w0 w
  keep : ∀ b, S b → w.heap[b]? = w1.heap[b]?
  KS : ∀ b, S b → ¬ K b
  Kp : ¬ K E.p
  Kl : ¬ K E.bl
  Sp : ¬ S E.p
  Sl : ¬ S E.bl
  hp : E.w0.heap.size ≤ E.p
  hl : E.w0.heap.size ≤ E.bl
  rows : Rows14 E.w0.heap.size d s K (fun b => K b ∨ S b) y w
def MK (E : Env14) (S : Nat → Prop) (w1 : World) (lev d : Nat) (s : El.St) (w : World) : Prop := ∃ K y, MkP E S w1 lev d s K y w
section
variable {E : Env14} {S S' : Nat → Prop} {w1 w1' : World} {lev d : Nat} {s : El.St} {K : Nat → Prop} {y : Dyn} {w w' : World}
theorem MkP.ppl (h : MkP E S w1 lev d s K y w) : E.p ≠ E.bl := fun e => by
  obtain ⟨es, clock, h1, _⟩ := h.lab
  have h2 := h.obj
  rw [e, h1] at h2
  cases h2
theorem MkP.p_lt (h : MkP E S w1 lev d s K y w) : E.p < w.heap.size := lt_of_obj h.obj
theorem MkP.l_lt (h : MkP E S w1 lev d s K y w) : E.bl < w.heap.size := h.lab.lt
theorem MkP.Slt (h : MkP E S w1 lev d s K y w) {b : Nat} (hb : S b) : b < w.heap.size := h.rows.Klt b (.inr hb)
theorem MkP.Klt (h : MkP E S w1 lev d s K y w) {b : Nat} (hb : K b) : b < w.heap.size := h.rows.Klt b (.inl hb)
theorem MkP.mono (h : MkP E S w1 lev d s K y w) (hb : Below w.heap.size w w') : MkP E S w1 lev d s K y w' where
  obj := obj_kept hb h.obj
  lab := h.lab.mono hb
  below := h.below.trans (hb.mono h.below.size)
  keep := fun b hb' => (hb.block b (h.Slt hb')).trans (h.keep b hb')
  KS := h.KS
  Kp := h.Kp
  Kl := h.Kl
  Sp := h.Sp
  Sl := h.Sl
  hp := h.hp
  hl := h.hl
  rows := h.rows.mono hb
theorem MK.mono (h : MK E S w1 lev d s w) (hb : Below w.heap.size w w') : MK E S w1 lev d s w' := by
  obtain ⟨K, y, h⟩ := h
  exact ⟨K, y, h.mono hb⟩
theorem MK.below (h : MK E S w1 lev d s w) : Below E.w0.heap.size E.w0 w := by
  obtain ⟨K, y, h⟩ := h
  exact h.below
theorem MkP.down {d' : Nat} (h : MkP E S w1 lev d s K y w) (hd : d' ≤ d) : MkP E S w1 lev d' s K y w := ⟨h.obj, h.lab, h.below, h.keep, h.KS, h.Kp, h.Kl, h.Sp, h.Sl, h.hp, h.hl, h.rows.down hd⟩
theorem MK.down {d' : Nat} (h : MK E S w1 lev d s w) (hd : d' ≤ d) : MK E S w1 lev d' s w := by
  obtain ⟨K, y, h⟩ := h
  exact ⟨K, y, h.down hd⟩
/-- all new blocks are kept as they stand in w' -/
def Plus (S : Nat → Prop) (w w' : World) (b : Nat) : Prop := S b ∨ (w.heap.size ≤ b ∧ b < w'.heap.size)
theorem MkP.enter (h : MkP E S w1 lev d s K y w) (hb : Below w.heap.size w w') : MkP E (Plus S w w') w' lev d s K y w' where
  obj := obj_kept hb h.obj
  lab := h.lab.mono hb
  below := h.below.trans (hb.mono h.below.size)
  keep := fun b _ => rfl
  KS := fun b hb' hk => hb'.elim (fun h1 => h.KS b h1 hk) (fun h2 => by have := h.Klt hk; omega)
  Kp := h.Kp
  Kl := h.Kl
  Sp := fun hk => hk.elim h.Sp (fun h2 => by have := h.p_lt; omega)
  Sl := fun hk => hk.elim h.Sl (fun h2 => by have := h.l_lt; omega)
  hp := h.hp
  hl := h.hl
  rows := h.rows.plus hb (fun b hb' => hb'.elim (fun h1 => .inl (.inl h1)) (fun h1 => h1.elim (fun h2 => .inl (.inr h2)) (fun h2 => .inr h2.1)))
    (fun b hb' => hb'.elim (fun h1 => Nat.lt_of_lt_of_le (h.Klt h1) hb.size) (fun h1 => h1.elim (fun h2 => Nat.lt_of_lt_of_le (h.Slt h2) hb.size) (fun h2 => h2.2))) (fun b hb' => .inl hb')
theorem MK.enter (h : MK E S w1 lev d s w) (hb : Below w.heap.size w w') : MK E (Plus S w w') w' lev d s w' := by
  obtain ⟨K, y, h⟩ := h
  exact ⟨_, y, h.enter hb⟩
theorem MkP.leave (h : MkP E S' w1' lev d s K y w) (hS : ∀ b, S b → S' b) (hk : ∀ b, S b → w1'.heap[b]? = w1.heap[b]?) : MkP E S w1 lev d s K y w :=
  ⟨h.obj, h.lab, h.below, fun b hb => (h.keep b (hS b hb)).trans (hk b hb), fun b hb => h.KS b (hS b hb), h.Kp, h.Kl, fun hb => h.Sp (hS _ hb), fun hb => h.Sl (hS _ hb), h.hp, h.hl, h.rows.less (fun b hb => hb.imp id (hS b)) (fun b hb => .inl hb)⟩
theorem MK.leave (h : MK E S' w1' lev d s w) (hS : ∀ b, S b → S' b) (hk : ∀ b, S b → w1'.heap[b]? = w1.heap[b]?) : MK E S w1 lev d s w := by
  obtain ⟨K, y, h⟩ := h
  exact ⟨K, y, h.leave hS hk⟩
/-- .. behind a call that was made with the new blocks kept -/
theorem MK.back {w2 : World} {d' lev' : Nat} {s' : El.St} (h : MK E S w1 lev d s w) (hb : Below w.heap.size w w') (h2 : MK E (Plus S w w') w' lev' d' s' w2) : MK E S w1 lev' d' s' w2 := by
  obtain ⟨K, y, h⟩ := h
  exact h2.leave (fun b hb => .inl hb) (fun b hb' => (hb.block b (h.Slt hb')).trans (h.keep b hb'))
/-- a kept block is written -/
theorem MkP.write {b : Nat} (h : MkP E S w1 lev d s K y w) (hg : w.grownBy w' (some b)) (hb : S b) (hb0 : E.w0.heap.size ≤ b) : MkP E (fun x => S x ∧ x ≠ b) w1 lev d s K y w' where
  obj := obj_far h.obj hg (fun e => h.Sp (Option.some.inj e ▸ hb))
  lab := h.lab.kept hg (fun e => h.Sl (Option.some.inj e ▸ hb))
  below := h.below.grown hg h.below.size (fun q hq => by cases hq; exact hb0)
  keep := fun x hx => (hg.block x (h.Slt hx.1) (fun e => hx.2 (Option.some.inj e))).trans (h.keep x hx.1)
  KS := fun x hx => h.KS x hx.1
  Kp := h.Kp
  Kl := h.Kl
  Sp := fun hx => h.Sp hx.1
  Sl := fun hx => h.Sl hx.1
  hp := h.hp
  hl := h.hl
  rows := (h.rows.write hg (.inr hb) (h.KS b hb)).less (fun x hx => hx.elim (fun h1 => ⟨.inl h1, fun e => h.KS b hb (e ▸ h1)⟩) (fun h1 => ⟨.inr h1.1, h1.2⟩)) (fun x hx => .inl hx)
/-- .. a new block is written, behind a call -/
theorem MK.backW {w2 w3 : World} {d' lev' b : Nat} {s' : El.St} (h : MK E S w1 lev d s w) (hb : Below w.heap.size w w') (h2 : MK E (Plus S w w') w' lev' d' s' w2) (hg : w2.grownBy w3 (some b)) (h1 : w.heap.size ≤ b) (h3 : b < w'.heap.size) : MK E S w1 lev' d' s' w3 := by
  obtain ⟨K, y, h⟩ := h
  obtain ⟨K2, y2, h2⟩ := h2
  refine ⟨K2, y2, (h2.write hg (.inr ⟨h1, h3⟩) (Nat.le_trans h.below.size h1)).leave (fun x hx => ⟨.inl hx, fun e => ?_⟩) (fun x hx => (hb.block x (h.Slt hx)).trans (h.keep x hx))⟩
  have := h.Slt hx
  omega
theorem Stat14.enter (hs : Stat14 E S w1) (h : MK E S w1 lev d s w) (hb : Below w.heap.size w w') : Stat14 E (Plus S w w') w' := by
  obtain ⟨K, y, h⟩ := h
  refine hs.move (fun b hb => .inl hb) (fun b hb' => (hb.block b (h.Slt hb')).trans (h.keep b hb')) (fun b hb' => ?_)
  rcases hb' with h1 | h1
  · exact hs.s0 b h1
  · have := h.below.size; omega
/-- a kept block stands as it stood -/
theorem MK.kept {b : Nat} {o : Obj} (h : MK E S w1 lev d s w) (hS : S b) (ho : w1.heap[b]? = some o) : w.heap[b]? = some o := by
  obtain ⟨K, y, h⟩ := h
  rw [h.keep b hS]
  exact ho
end
theorem mcell {w : World} {p : Nat} {cs : Array Value} {T : TypeId} {fr : Nat × Nat} (h : w.heap[p]? = some (.cells cs T fr)) (i : Nat) {v : Value} (hi : cs[i]? = some v) : w.cell? ⟨p, i, none⟩ = some v := by rw [Lib.cell_of_heap h]; exact hi

/-- how much a state holds -/
def El.sz (s : El.St) : Nat := s.sides.length + s.labels.length + s.chunks.length + s.words.length + s.notes.length + s.paras.length + s.ends.length + s.said.length
def Grows (op : El.Op) : Prop := ∀ s n s', op s n = .ok s' → El.sz s' ≤ El.sz s + El.sizeN n
def lim14 : Nat := 4194304
/-- what a visit leaves -/
def Out14 (E : Env14) (S : Nat → Prop) (w1 : World) (lev d : Nat) (r : El.Res) (e : Ending) (w' : World) : Prop := match r with
  | .ok s => e = .returned .nilIface ∧ MK E S w1 lev d s w'
  | .bad c a => ∃ ns v s, e = .returned v ∧ ErrAt ns c a v ∧ MK E S w1 lev 0 s w'
theorem Out14.ret {E : Env14} {S : Nat → Prop} {w1 : World} {lev d : Nat} {r : El.Res} : ∀ e w', Out14 E S w1 lev d r e w' → ∃ v, e = .returned v := by
  intro e w' h
  cases r with
  | ok s => exact ⟨_, h.1⟩
  | bad c a => obtain ⟨ns, v, s, h1, _⟩ := h; exact ⟨v, h1⟩
/-- function k, called on the maker and a node, does what op says -/
def OpC (E : Env14) (lev d : Nat) (k : Nat) (op : El.Op) : Prop := ∀ (S : Nat → Prop) (w1 : World), Stat14 E S w1 → ∀ (n : El.Nd) (va : Value) (s : El.St) (w : World), ArgsAt E.w0 (fun _ => True) va (El.args n) → El.sz s + El.sizeN n ≤ lim14 → MK E S w1 lev d s w →
  Calls Tryz.prog k #[E.m, ndV n va] w (Out14 E S w1 lev d (op s n))
/-- a context, as a value: its take does what op says -/
def TakeC (E : Env14) (lev d : Nat) (cv : Value) (op : El.Op) : Prop := ∀ (S : Nat → Prop) (w1 : World), Stat14 E S w1 → ∀ (n : El.Nd) (va : Value) (s : El.St) (w : World), ArgsAt E.w0 (fun _ => True) va (El.args n) → El.sz s + El.sizeN n ≤ lim14 → MK E S w1 lev d s w →
  Calls Tryz.prog 70 #[cv, ndV n va] w (Out14 E S w1 lev d (op s n))
def VisitC (E : Env14) (lev d : Nat) (cv : Value) (op : El.Op) : Prop := ∀ (S : Nat → Prop) (w1 : World), Stat14 E S w1 → ∀ (l : List El.Nd) (v : Value) (s : El.St) (w : World), NodesAt E.w0 (fun _ => True) v l → El.sz s + El.sizeL l ≤ lim14 → MK E S w1 lev d s w →
  Calls Tryz.prog 42 #[cv, v] w (Out14 E S w1 lev d (El.visit op s l))
end Go.Proofs.YtfjplhgajoehfaaGreatDoor
