/-
  Appending records to a row of a call's own (tpl11's App9, its general part); witnesses and texts in memory.
  Plain mathematics of package elab: what nodes say, or what is wrong with them first. No code in it.
  Nodes in memory: how a slice of nodes lies there, with all that it reaches; what stays as it was where the blocks that are read do.
  A map whose keys are texts, whatever its elements are: what it holds, entry by entry; a lookup, a new entry.
  An append to a row of the call's own: the row's block is the one that it was, or a new one.
  What elab makes, in memory: sides, chunks, paragraphs, notes, labels; what is finished (in blocks of K, that stay as they stand) and what grows (rows of the call's own).
-/
import Derived.Laws.OwnMore
import Derived.Test.YtfjplhgajoehfaaGreatDoorProg
import Derived.Maps.OwnOps
import Derived.Maps.OwnSet
import Derived.Deep.DeepAppendRoom
import Derived.Test.YtfjplhgajoehfaaGreatDoorQMem9
set_option linter.unusedVariables false
set_option linter.unusedSimpArgs false
namespace Go.Proofs.YtfjplhgajoehfaaGreatDoor
open Go.RowKit

theorem append_none_any {w : World} (base : Nat) (t ty e : TypeId) (i : TypeInfo) (size : Nat) (ht : Tryz.prog.underlying t = some (.slice e)) (hi : Tryz.prog.info? e = some i)
    (v : Value) (n : Nat) (xs : List Value) (hown : w.ownsRow base e size v n xs) (c : Nat) :
    (Builtin.append_ #[t, t] ty #[v, .slice none 0 c]).run Tryz.prog w = .ok v w := by
  rcases hown.2 with ⟨rfl, rfl⟩ | ⟨g, cap, cur, rfl, _, _, hnc, _⟩
  · simp [Builtin.append_, run_underlying ht, sizeOf, typeInfo, hi, Builtin.lenOf, Builtin.firstCells]
  · simp [Builtin.append_, run_underlying ht, sizeOf, typeInfo, hi, Builtin.lenOf, Builtin.firstCells, hnc, storeCells]
set_option maxRecDepth 100000 in
/-- a slice of records, appended to a row of the call's own -/
theorem wpList_append_slc {α : Type} {f : α → List Value} {k bytes : Nat} {T S : TypeId} {z : Value} (hS : Tryz.prog.underlying S = some (.slice T)) (hT : (Tryz.prog.info? T).map (fun i => (i.zero, i.size, i.bytes)) = some (some z, k, bytes)) (hzk : z.cells.size = k) (hk : 0 < k)
    (hf : ∀ x, (f x).length = k) (h1 : ∀ l : List α, ∀ u ∈ l.flatMap f, u.oneCell' = true)
    {w : World} {ops : Array Oper} {rest : List Oper} {o : Oper} {a : Act} {Q : Exit → Act → World → Prop} (hw : Region.wanted o (yielded ops a.tmps) = true) (s x : Operand)
    (ho : o.op = .call { callee := .builtin .append, args := #[s, x], argTypes := #[S, S] })
    (base : Nat) (v u : Value) (xs ys : List α) (hs : a.eval s = v) (hown : OwnR T f k base v xs w) (hx : a.eval x = u) (hsrc : SlcAt f k w u ys) (hlen : (xs.length + ys.length) * bytes ≤ 140737488355328) (hmax : xs.length + ys.length ≤ maxLen) (hbase : base ≤ w.heap.size)
    (h : ∀ v' w', OwnR T f k base v' (xs ++ ys) w' → w.grownBy w' v.ownBlock → wpList Tryz.prog ops Q rest (a.put o.dst v') w') : wpList Tryz.prog ops Q (o :: rest) a w := by
  obtain ⟨i0, hi, hz0, hz1, hz2⟩ := info_parts hT
  obtain ⟨⟨p, cap, rfl, hcap⟩, hm, hkk⟩ := hsrc
  refine wpList_step fun K hK => ?_
  rw [if_pos hw]
  cases p with
  | none =>
    have hn : ys = [] := by
      rcases Nat.eq_zero_or_pos ys.length with h0 | h0
      · exact List.eq_nil_of_length_eq_zero h0
      · obtain ⟨b, o', c', e, _⟩ := hkk h0
        injection e with e1
        cases e1
    subst hn
    have hrun := append_none_any base S o.type T i0 k hS hi v xs.length _ hown cap
    simp only [List.length_nil] at hx
    unfold Oper.wp
    simp [execOp, ho, resolve, invoke, builtin, hs, hx, hrun, Result.andThen]
    exact hK _ _ (h v w (by rw [List.append_nil]; exact hown) ⟨rfl, rfl, rfl, Nat.le_refl _, fun _ _ _ => rfl⟩)
  | some ad =>
    refine wp_append_own w s x _ ho base T i0 _ k bytes hS hi hz0 hz1 hz2 hzk hk v xs.length _ hs hown ad ys.length cap (ys.flatMap f) hx (flat_len hf ys) (fun j u hu => ?_) (h1 ys) hmax hlen hbase fun v' w' h1 h2 _ => hK _ _ (h v' w' ?_ h2)
    · have hp : 0 < ys.length := by
        rcases Nat.eq_zero_or_pos ys.length with h0 | h0
        · obtain rfl := List.eq_nil_of_length_eq_zero h0
          simp at hu
        · exact h0
      obtain ⟨b, o', c', e, hc⟩ := hkk hp
      injection e with e1
      injection e1 with e1
      subst e1
      rw [add_none]
      exact flat_cells hf hc j u hu
    · unfold OwnR
      rw [List.length_append, List.flatMap_append]
      exact h1
/-- records that are laid in a new block -/
theorem slc_new {α : Type} {f : α → List Value} {k : Nat} (hf : ∀ x, (f x).length = k) (w : World) (p : Nat) (hp : w.heap.size = p) (l : List α) (T : TypeId) (hl : l.length ≤ 100000) (cs : Array Value) (hcs : cs.toList = l.flatMap f) : SlcAt f k (w.alloc (.cells cs T)) (.slice (some ⟨p, 0, none⟩) l.length l.length) l := by
  subst hp
  refine ⟨⟨_, _, rfl, Nat.le_refl _⟩, by unfold maxLen; omega, fun _ => ⟨w.heap.size, 0, _, rfl, fun i x hi j u hj => ?_⟩⟩
  have h := flat_at hf l i x hi j u hj
  rw [Nat.zero_add]
  refine cell_lay w _ _ _ _ ?_
  rw [← Array.getElem?_toList, hcs]
  exact h
theorem OwnR.grown {α : Type} {T : TypeId} {f : α → List Value} {k B : Nat} {v : Value} {l : List α} {w w' : World} {row : Option Nat} (h : OwnR T f k B v l w) (hg : w.grownBy w' row) (hne : v.ownBlock = none ∨ v.ownBlock ≠ row) : OwnR T f k B v l w' := World.ownsRow.kept h hg hne
theorem below_app {B : Nat} {w0 w w' : World} {v : Value} {e : TypeId} {size n : Nat} {xs : List Value} (h : Below B w0 w) (hg : w.grownBy w' v.ownBlock) (hown : w.ownsRow B e size v n xs) (hB : B ≤ w.heap.size) : Below B w0 w' :=
  h.grown hg hB (fun q hq => (World.ownsRow.lt hown q hq).1)
theorem below_grow {B : Nat} {w0 w : World} (h : Below B w0 w) (o : Obj) (hB : B ≤ w.heap.size) : Below B w0 (w.alloc o) := h.trans ((below_alloc w o).mono hB)
theorem own_empty {α : Type} (T : TypeId) (f : α → List Value) (k : Nat) (w : World) : OwnR T f k w.heap.size (.slice (some ⟨w.heap.size, 0, none⟩) 0 0) [] (w.alloc (.cells #[] T)) := World.ownsRow_made w #[] 0 (Nat.le_refl _) (by unfold maxLen; omega) (by simp)


/-! ### witnesses and texts -/
def sgC (x : Sg.Sig) : List Value := [.string (str x.k), .string (str x.n)]
def txC (s : List UInt8) : List Value := [.string (str s)]
abbrev SgsAt (w : World) (v : Value) (l : List Sg.Sig) : Prop := SlcAt sgC 2 w v l
abbrev TxsAt (w : World) (v : Value) (l : List (List UInt8)) : Prop := SlcAt txC 1 w v l
abbrev OwnSg (B : Nat) (v : Value) (l : List Sg.Sig) (w : World) : Prop := OwnR 96 sgC 2 B v l w
abbrev OwnTx (B : Nat) (v : Value) (l : List (List UInt8)) (w : World) : Prop := OwnR 9 txC 1 B v l w
theorem sgC_len (x : Sg.Sig) : (sgC x).length = 2 := rfl
theorem txC_len (x : List UInt8) : (txC x).length = 1 := rfl
theorem infoSg13 : (Tryz.prog.info? 96).map (fun i => (i.zero, i.size, i.bytes)) = some (some (.agg #[.string ByteArray.empty, .string ByteArray.empty]), 2, 32) := by kernel_rfl
theorem infoTx13 : (Tryz.prog.info? 9).map (fun i => (i.zero, i.size, i.bytes)) = some (some (.string ByteArray.empty), 1, 16) := by kernel_rfl
theorem sgC_cell (l : List Sg.Sig) : ∀ u ∈ l.flatMap sgC, u.oneCell' = true := by
  intro u hu
  obtain ⟨t, _, h⟩ := List.mem_flatMap.1 hu
  simp [sgC] at h
  rcases h with rfl | rfl <;> rfl
theorem txC_cell (l : List (List UInt8)) : ∀ u ∈ l.flatMap txC, u.oneCell' = true := by
  intro u hu
  obtain ⟨t, _, h⟩ := List.mem_flatMap.1 hu
  simp [txC] at h
  subst h
  rfl
theorem sg_cells {w : World} {b o : Nat} {x : Sg.Sig} (h : RecAt w b o (sgC x)) : w.cell? ⟨b, o, none⟩ = some (.string (str x.k)) ∧ w.cell? ⟨b, o + 1, none⟩ = some (.string (str x.n)) := ⟨h 0 _ rfl, h 1 _ rfl⟩
theorem tx_cells {w : World} {b o : Nat} {x : List UInt8} (h : RecAt w b o (txC x)) : w.cell? ⟨b, o, none⟩ = some (.string (str x)) := h 0 _ rfl
theorem size13 (s : ByteArray) : s.size = s.data.toList.length := Lib.size_eq s
def SgSmall (t : List Sg.Sig) : Prop := ∀ x ∈ t, x.k.length ≤ 281474976710656 ∧ x.n.length ≤ 281474976710656
theorem str_size13 (l : List UInt8) : (str l).size = l.length := by rw [size13, str_data]
theorem byte13 (s : ByteArray) (k : Nat) (h : k < s.size) : s.data.toList[k]? = some s[k] := by
  have hk : k < s.data.toList.length := by rw [← size13]; exact h
  rw [List.getElem?_eq_getElem hk]
  rfl
theorem str_eq13 (a b : List UInt8) : (str a = str b) ↔ a = b := ⟨fun h => by rw [← str_data a, h, str_data], fun h => by rw [h]⟩
end Go.Proofs.YtfjplhgajoehfaaGreatDoor

set_option linter.unusedVariables false
set_option linter.unusedSimpArgs false
namespace Go.Proofs.YtfjplhgajoehfaaGreatDoor.El
open Go.Proofs.YtfjplhgajoehfaaGreatDoor

abbrev Txt := List UInt8
/-- a node -/
inductive Nd where
  | mk (cmd : Bool) (text : List UInt8) (args : List (List Nd)) (loc : Int)
mutual
def sizeN : Nd → Nat
  | .mk _ x a _ => sizeA a + x.length + 1
def sizeA : List (List Nd) → Nat
  | [] => 0
  | g :: gs => sizeL g + 1 + sizeA gs
def sizeL : List Nd → Nat
  | [] => 0
  | n :: r => sizeN n + sizeL r
end
structure Said where
  kind : Int
  txt : Txt
  loc : Int
structure Note where
  ser : Nat
  fr : Nat
  til : Nat
  txt : List Said
  loc : Int
structure Para where
  verse : Bool
  fr : Nat
  num : Nat
  ends : List Nat
structure Side where
  chunks : List (List Para)
  words : List Txt
  notes : List Note
structure Lab where
  name : Txt
  side : Nat
  word : Nat
structure St where
  sides : List Side
  labels : List Lab
  chunks : List (List Para)
  words : List Txt
  notes : List Note
  paras : List Para
  num : Nat
  ends : List Nat
  fr : Nat
  til : Nat
  said : List Said
def St.none : St := ⟨[], [], [], [], [], [], 0, [], 0, 0, []⟩

/-- what a visit comes to -/
inductive Res where
  | ok (s : St)
  | bad (c a : Int)
def Res.then (r : Res) (f : St → Res) : Res := match r with
  | .ok s => f s
  | .bad c a => .bad c a
abbrev Op := St → Nd → Res

def text : Nd → Txt
  | .mk _ x _ _ => x
def loc : Nd → Int
  | .mk _ _ _ a => a
def args : Nd → List (List Nd)
  | .mk _ _ l _ => l
def isCmd : Nd → Bool
  | .mk c _ _ _ => c
def argN (n : Nd) (k : Nat) : List Nd := (args n).getD k []

def visit (f : Op) : St → List Nd → Res
  | s, [] => .ok s
  | s, n :: r => (f s n).then (fun s1 => visit f s1 r)

/-- a node where words are treated so, and commands by these rules -/
def take (wd : Option Op) (rules : Txt → Option (Nat × Op)) : Op := fun s n =>
  if isCmd n = false then (match wd with
    | none => .bad 141 (loc n)
    | some f => f s n)
  else (match rules (text n) with
    | none => .bad 142 (loc n)
    | some (k, f) => if (args n).length = k then f s n else .bad 143 (loc n))

/-! ### names -/
def bs (s : String) : Txt := s.toUTF8.toList
def tText : Txt := [116, 101, 120, 116]
def tLeft : Txt := [108, 101, 102, 116]
def tRight : Txt := [114, 105, 103, 104, 116]
def tChunk : Txt := [99, 104, 117, 110, 107]
def tP : Txt := [112]
def tVerse : Txt := [118, 101, 114, 115, 101]
def tSet : Txt := [115, 101, 116]
def tL : Txt := [108]
def tEd : Txt := [101, 100]
def tLabel : Txt := [108, 97, 98, 101, 108]
def tSig : Txt := [115, 105, 103]
def tRef : Txt := [114, 101, 102]
def seriesL : List Txt := [[65], [66], [67], [68], [69], [102, 65], [102, 66], [102, 67], [102, 68], [102, 69], [101, 110, 100]]
def idx (l : List Txt) (x : Txt) : Option Nat := match l with
  | [] => none
  | y :: r => if y = x then some 0 else (idx r x).map (· + 1)
def series (x : Txt) : Option Nat := idx seriesL x

/-! ### one word -/
inductive One where
  | word (n : Nd)
  | bad (c a : Int)
/-- the first command of a list -/
def firstCmd : List Nd → Option Nd
  | [] => none
  | n :: r => if isCmd n then some n else firstCmd r
def single (n : Nd) : One := match firstCmd (argN n 0) with
  | some m => .bad 142 (loc m)
  | none => match argN n 0 with
    | [x] => .word x
    | _ => .bad 143 (loc n)
def One.then (r : One) (f : Nd → Res) : Res := match r with
  | .word n => f n
  | .bad c a => .bad c a

/-! ### numbers -/
def digit (b : UInt8) : Bool := decide (48 ≤ b.toNat) && decide (b.toNat ≤ 57)
def dec (l : Txt) : Nat := l.foldl (fun v b => v * 10 + (b.toNat - 48)) 0
/-- of a numeral from 1 to 9999; 0: it is none -/
def value (l : Txt) : Nat := if l.length < 1 ∨ 4 < l.length ∨ l.head? = some 48 ∨ l.all digit = false then 0 else dec l

/-! ### what is said -/
def say (k : Int) (s : St) (n : Nd) : St := { s with said := s.said ++ [⟨k, text n, loc n⟩] }
def sayOp : Op := fun s n => .ok (say 0 s n)
def keyOp (t : List Txt) : Op := fun s n => if text n ∈ t then .ok (say 1 s n) else .bad 148 (loc n)
def keysTake (t : List Txt) : Op := take (some (keyOp t)) (fun _ => none)
def sigOp (t : List Txt) : Op := fun s n => visit (keysTake t) s (argN n 0)
def refOp : Op := fun s n => (single n).then (fun x => .ok (say 2 s x))
def noteRules (t : List Txt) (x : Txt) : Option (Nat × Op) := if x = tSig then some (1, sigOp t) else if x = tRef then some (1, refOp) else none
def noteTake (t : List Txt) : Op := take (some sayOp) (noteRules t)
def footOp (t : List Txt) (i : Nat) : Op := fun s n => (visit (noteTake t) { s with said := [] } (argN n 0)).then (fun s1 => .ok { s1 with notes := s1.notes ++ [⟨i, s1.fr, s1.til, s1.said, loc n⟩] })
def notesRules (t : List Txt) (x : Txt) : Option (Nat × Op) := (series x).map (fun i => (1, footOp t i))
def notesTake (t : List Txt) : Op := take none (notesRules t)

/-! ### texts -/
def wordOp : Op := fun s n => if s.words.length = 5000 then .bad 149 (loc n) else .ok { s with words := s.words ++ [text n] }
def labelOp : Op := fun s n => (single n).then (fun x => if text x ∈ s.labels.map (·.name) then .bad 147 (loc x) else .ok { s with labels := s.labels ++ [⟨text x, s.sides.length, s.words.length⟩] })
def edOp (t : List Txt) (inner : St → List Nd → Res) : Op := fun s n => (inner s (argN n 0)).then (fun s1 => if s1.words.length = s.words.length then .bad 145 (loc n) else visit (notesTake t) { s1 with fr := s.words.length, til := s1.words.length } (argN n 1))
def textRules (t : List Txt) (inner : St → List Nd → Res) (x : Txt) : Option (Nat × Op) := if x = tEd then some (2, edOp t inner) else if x = tLabel then some (1, labelOp) else none
def textOf (t : List Txt) (inner : St → List Nd → Res) : Op := take (some wordOp) (textRules t inner)
/-- a text in which lemmas lie in one another so many deep -/
def textTake (t : List Txt) : Nat → Op
  | 0 => textOf t (fun s _ => .ok s)
  | k + 1 => textOf t (visit (textTake t k))
def deepest : Nat := 65536
def lineOp (t : List Txt) (K : Nat) : Op := fun s n => (visit (textTake t K) s (argN n 0)).then (fun s1 => if s1.words.length = s.words.length then .bad 144 (loc n) else .ok { s1 with ends := s1.ends ++ [s1.words.length] })
def stanzaRules (t : List Txt) (K : Nat) (x : Txt) : Option (Nat × Op) := if x = tL then some (1, lineOp t K) else none
def stanzaTake (t : List Txt) (K : Nat) : Op := take none (stanzaRules t K)
def addPara (s : St) (v : Bool) (f : Nat) : St := { s with paras := s.paras ++ [⟨v, f, s.num, s.ends⟩], num := 0 }
def proseOp (t : List Txt) (K : Nat) : Op := fun s n => (lineOp t K { s with ends := [] } n).then (fun s1 => .ok (addPara s1 false s.words.length))
def verseOp (t : List Txt) (K : Nat) : Op := fun s n => (visit (stanzaTake t K) { s with ends := [] } (argN n 0)).then (fun s1 => if s1.ends = [] then .bad 144 (loc n) else .ok (addPara s1 true s.words.length))
def setOp : Op := fun s n => (single n).then (fun x => if value (text x) = 0 then .bad 146 (loc x) else .ok { s with num := value (text x) })
def chunkRules (t : List Txt) (K : Nat) (x : Txt) : Option (Nat × Op) := if x = tP then some (1, proseOp t K) else if x = tVerse then some (1, verseOp t K) else if x = tSet then some (1, setOp) else none
def chunkTake (t : List Txt) (K : Nat) : Op := take none (chunkRules t K)
def chunkOp (t : List Txt) (K : Nat) : Op := fun s n => (visit (chunkTake t K) { s with paras := [], num := 0 } (argN n 0)).then (fun s1 => if s1.paras = [] then .bad 144 (loc n) else .ok { s1 with chunks := s1.chunks ++ [s1.paras] })
def sideRules (t : List Txt) (K : Nat) (x : Txt) : Option (Nat × Op) := if x = tChunk then some (1, chunkOp t K) else none
def sideTake (t : List Txt) (K : Nat) : Op := take none (sideRules t K)
def sideOp (t : List Txt) (K : Nat) : Op := fun s n => (visit (sideTake t K) { s with chunks := [], words := [], notes := [] } (argN n 0)).then (fun s1 => if s1.chunks = [] then .bad 144 (loc n) else .ok { s1 with sides := s1.sides ++ [⟨s1.chunks, s1.words, s1.notes⟩] })
def sourceRules (t : List Txt) (K : Nat) (x : Txt) : Option (Nat × Op) := if x = tText ∨ x = tLeft ∨ x = tRight then some (1, sideOp t K) else none
def sourceTake (t : List Txt) (K : Nat) : Op := take none (sourceRules t K)

/-! ### the whole -/
/-- the first label that is named and is not there -/
def refSaid (ls : List Txt) : List Said → Option Int
  | [] => none
  | x :: r => if x.kind = 2 ∧ x.txt ∉ ls then some x.loc else refSaid ls r
def refNotes (ls : List Txt) : List Note → Option Int
  | [] => none
  | n :: r => match refSaid ls n.txt with
    | some a => some a
    | none => refNotes ls r
def refSides (ls : List Txt) : List Side → Option Int
  | [] => none
  | s :: r => match refNotes ls s.notes with
    | some a => some a
    | none => refSides ls r
def checkRefs (s : St) : Res := match refSides (s.labels.map (·.name)) s.sides with
  | some a => .bad 151 a
  | none => .ok s
def isOne : List Nd → Bool
  | [n] => decide (text n = tText)
  | _ => false
def isTwo : List Nd → Bool
  | [n, m] => decide (text n = tLeft) && decide (text m = tRight)
  | _ => false
def chunksOf (s : St) (i : Nat) : Nat := ((s.sides[i]?).map (fun x => x.chunks.length)).getD 0
def finish (s : St) (l : List Nd) : Res :=
  if isTwo l then (if chunksOf s 0 = chunksOf s 1 then checkRefs s else .bad 150 ((l[1]?.map loc).getD 0))
  else if isOne l then checkRefs s else .bad 140 0
/-- what nodes say, with the keys of a table, where lemmas lie at most so deep in one another -/
def made (t : List Txt) (K : Nat) (l : List Nd) : Res := (visit (sourceTake t K) St.none l).then (fun s => finish s l)
end Go.Proofs.YtfjplhgajoehfaaGreatDoor.El

set_option linter.unusedVariables false
set_option linter.unusedSimpArgs false
namespace Go.Proofs.YtfjplhgajoehfaaGreatDoor
open Go.RowKit

abbrev Nd := El.Nd
/-- a slice of n elements that lie in a block of K, as R says -/
def Hdr (K : Nat → Prop) (v : Value) (n : Nat) (R : Nat → Nat → Prop) : Prop :=
  (∃ a cap, v = .slice a n cap ∧ n ≤ cap) ∧ n ≤ maxLen ∧ (0 < n → ∃ b o cap, v = .slice (some ⟨b, o, none⟩) n cap ∧ K b ∧ R b o)
mutual
def NdAt (w : World) (K : Nat → Prop) : Nd → Nat → Nat → Prop
  | .mk c x args a, b, o => ∃ va, w.cell? ⟨b, o, none⟩ = some (.bool c) ∧ w.cell? ⟨b, o + 1, none⟩ = some (.string (str x)) ∧ w.cell? ⟨b, o + 2, none⟩ = some va ∧ w.cell? ⟨b, o + 3, none⟩ = some (.int .i64 a) ∧ Hdr K va args.length (RowA w K args)
def RowA (w : World) (K : Nat → Prop) : List (List Nd) → Nat → Nat → Prop
  | [], _, _ => True
  | g :: gs, b, o => (∃ vg, w.cell? ⟨b, o, none⟩ = some vg ∧ Hdr K vg g.length (RowN w K g)) ∧ RowA w K gs b (o + 1)
def RowN (w : World) (K : Nat → Prop) : List Nd → Nat → Nat → Prop
  | [], _, _ => True
  | n :: r, b, o => NdAt w K n b o ∧ RowN w K r b (o + 4)
end
/-- v is a slice of the nodes l, all of which lie in blocks of K -/
def NodesAt (w : World) (K : Nat → Prop) (v : Value) (l : List Nd) : Prop := Hdr K v l.length (RowN w K l)
/-- v is a slice of the arguments l -/
def ArgsAt (w : World) (K : Nat → Prop) (v : Value) (l : List (List Nd)) : Prop := Hdr K v l.length (RowA w K l)

theorem Hdr.mono {K K' : Nat → Prop} {v : Value} {n : Nat} {R R' : Nat → Nat → Prop} (h : Hdr K v n R) (hK : ∀ b, K b → K' b) (hR : ∀ b o, K b → R b o → R' b o) : Hdr K' v n R' := by
  obtain ⟨h1, h2, h3⟩ := h
  refine ⟨h1, h2, fun hp => ?_⟩
  obtain ⟨b, o, cap, e, hk, hr⟩ := h3 hp
  exact ⟨b, o, cap, e, hK b hk, hR b o hk hr⟩
/-- what lay in block b lies there -/
def Stays (w w' : World) (b : Nat) : Prop := ∀ o v, w.cell? ⟨b, o, none⟩ = some v → w'.cell? ⟨b, o, none⟩ = some v
theorem stays_below {w w' : World} (hb : Below w.heap.size w w') (b : Nat) : Stays w w' b := fun o v h => cell_below hb h
theorem stays_block {w w' : World} {b : Nat} (h : w'.heap[b]? = w.heap[b]?) : Stays w w' b := fun o v hc => by
  rw [World.cell?_of_block (a := ⟨b, o, none⟩) h]; exact hc
mutual
theorem NdAt.move {w w' : World} {K K' : Nat → Prop} (hs : ∀ b, K b → Stays w w' b) (hK : ∀ b, K b → K' b) : ∀ (n : Nd) (b o : Nat), Stays w w' b → NdAt w K n b o → NdAt w' K' n b o
  | .mk c x args a, b, o, hb, h => by
    unfold NdAt at h ⊢
    obtain ⟨va, h1, h2, h3, h4, h5⟩ := h
    exact ⟨va, hb _ _ h1, hb _ _ h2, hb _ _ h3, hb _ _ h4, h5.mono hK fun b' o' hk hr => RowA.move hs hK args b' o' (hs b' hk) hr⟩
theorem RowA.move {w w' : World} {K K' : Nat → Prop} (hs : ∀ b, K b → Stays w w' b) (hK : ∀ b, K b → K' b) : ∀ (l : List (List Nd)) (b o : Nat), Stays w w' b → RowA w K l b o → RowA w' K' l b o
  | [], _, _, _, _ => by unfold RowA; trivial
  | g :: gs, b, o, hb, h => by
    unfold RowA at h ⊢
    obtain ⟨⟨vg, h1, h2⟩, h3⟩ := h
    exact ⟨⟨vg, hb _ _ h1, h2.mono hK fun b' o' hk hr => RowN.move hs hK g b' o' (hs b' hk) hr⟩, RowA.move hs hK gs b (o + 1) hb h3⟩
theorem RowN.move {w w' : World} {K K' : Nat → Prop} (hs : ∀ b, K b → Stays w w' b) (hK : ∀ b, K b → K' b) : ∀ (l : List Nd) (b o : Nat), Stays w w' b → RowN w K l b o → RowN w' K' l b o
  | [], _, _, _, _ => by unfold RowN; trivial
  | n :: r, b, o, hb, h => by
    unfold RowN at h ⊢
    exact ⟨NdAt.move hs hK n b o hb h.1, RowN.move hs hK r b (o + 4) hb h.2⟩
end
theorem NodesAt.move {w w' : World} {K K' : Nat → Prop} {v : Value} {l : List Nd} (hs : ∀ b, K b → Stays w w' b) (hK : ∀ b, K b → K' b) (h : NodesAt w K v l) : NodesAt w' K' v l :=
  Hdr.mono h hK fun b o hk hr => RowN.move hs hK l b o (hs b hk) hr
theorem ArgsAt.move {w w' : World} {K K' : Nat → Prop} {v : Value} {l : List (List Nd)} (hs : ∀ b, K b → Stays w w' b) (hK : ∀ b, K b → K' b) (h : ArgsAt w K v l) : ArgsAt w' K' v l :=
  Hdr.mono h hK fun b o hk hr => RowA.move hs hK l b o (hs b hk) hr
theorem NodesAt.mono {w w' : World} {K : Nat → Prop} {v : Value} {l : List Nd} (h : NodesAt w K v l) (hb : Below w.heap.size w w') : NodesAt w' K v l := h.move (fun b _ => stays_below hb b) (fun _ h => h)
theorem NodesAt.any {w : World} {K : Nat → Prop} {v : Value} {l : List Nd} (h : NodesAt w K v l) : NodesAt w (fun _ => True) v l := h.move (fun _ _ _ _ h => h) (fun _ _ => trivial)

/-! ### one node, one argument -/
theorem RowN.at {w : World} {K : Nat → Prop} : ∀ {l : List Nd} {b o : Nat} (_ : RowN w K l b o) {i : Nat} {n : Nd} (_ : l[i]? = some n), NdAt w K n b (o + i * 4)
  | m :: r, b, o, h, 0, n, hi => by
    unfold RowN at h
    simp at hi
    subst hi
    simpa using h.1
  | m :: r, b, o, h, i + 1, n, hi => by
    unfold RowN at h
    have h2 := RowN.at h.2 (i := i) (n := n) (by simpa using hi)
    rw [show o + (i + 1) * 4 = o + 4 + i * 4 by omega]
    exact h2
theorem RowA.at {w : World} {K : Nat → Prop} : ∀ {l : List (List Nd)} {b o : Nat} (_ : RowA w K l b o) {i : Nat} {g : List Nd} (_ : l[i]? = some g), ∃ vg, w.cell? ⟨b, o + i, none⟩ = some vg ∧ NodesAt w K vg g
  | m :: r, b, o, h, 0, n, hi => by
    unfold RowA at h
    simp at hi
    subst hi
    obtain ⟨vg, e1, e2⟩ := h.1
    exact ⟨vg, by simpa using e1, e2⟩
  | m :: r, b, o, h, i + 1, n, hi => by
    unfold RowA at h
    have h2 := RowA.at h.2 (i := i) (g := n) (by simpa using hi)
    rw [show o + (i + 1) = o + 1 + i by omega]
    exact h2
theorem RowN.of {w : World} {K : Nat → Prop} : ∀ {l : List Nd} {b o : Nat}, (∀ i n, l[i]? = some n → NdAt w K n b (o + i * 4)) → RowN w K l b o
  | [], _, _, _ => by unfold RowN; trivial
  | n :: r, b, o, h => by
    unfold RowN
    refine ⟨by simpa using h 0 n rfl, RowN.of fun i m hi => ?_⟩
    have := h (i + 1) m (by simpa using hi)
    rw [show o + 4 + i * 4 = o + (i + 1) * 4 by omega]
    exact this
theorem RowA.of {w : World} {K : Nat → Prop} : ∀ {l : List (List Nd)} {b o : Nat}, (∀ i g, l[i]? = some g → ∃ vg, w.cell? ⟨b, o + i, none⟩ = some vg ∧ NodesAt w K vg g) → RowA w K l b o
  | [], _, _, _ => by unfold RowA; trivial
  | n :: r, b, o, h => by
    unfold RowA
    obtain ⟨vg, e1, e2⟩ := h 0 n rfl
    refine ⟨⟨vg, by simpa using e1, e2⟩, RowA.of fun i m hi => ?_⟩
    have := h (i + 1) m (by simpa using hi)
    rw [show o + 1 + i = o + (i + 1) by omega]
    exact this
theorem nodes_none (w : World) (K : Nat → Prop) : NodesAt w K (.slice none 0 0) [] := ⟨⟨none, 0, rfl, Nat.le_refl _⟩, by unfold maxLen; simp, fun h => by simp at h⟩
theorem args_none (w : World) (K : Nat → Prop) : ArgsAt w K (.slice none 0 0) [] := ⟨⟨none, 0, rfl, Nat.le_refl _⟩, by unfold maxLen; simp, fun h => by simp at h⟩

end Go.Proofs.YtfjplhgajoehfaaGreatDoor

set_option linter.unusedVariables false
set_option linter.unusedSimpArgs false
namespace Go.Proofs.YtfjplhgajoehfaaGreatDoor
open Go.RowKit

def look (x : List UInt8) : List (List UInt8 × Value) → Option Value
  | [] => none
  | (k, v) :: r => if x = k then some v else look x r
/-- these entries, in their order -/
def Ents (es : List MapEntry) (l : List (List UInt8 × Value)) : Prop := es.map (fun e => (e.key, e.val)) = l.map (fun x => (Value.string (str x.1), x.2))
/-- block b is a map with these entries, in their order -/
def Map14 (w : World) (b : Nat) (l : List (List UInt8 × Value)) : Prop := ∃ es clock, w.heap[b]? = some (.map es clock) ∧ Ents es.toList l
theorem Map14.kept {w w' : World} {b : Nat} {l : List (List UInt8 × Value)} {row : Option Nat} (h : Map14 w b l) (hg : w.grownBy w' row) (hne : some b ≠ row) : Map14 w' b l := by
  obtain ⟨es, clock, hb, he⟩ := h
  exact ⟨es, clock, obj_far hb hg hne, he⟩
theorem Map14.mono {w w' : World} {b : Nat} {l : List (List UInt8 × Value)} (h : Map14 w b l) (hb : Below w.heap.size w w') : Map14 w' b l := by
  obtain ⟨es, clock, h1, he⟩ := h
  exact ⟨es, clock, obj_kept hb h1, he⟩
theorem Map14.lt {w : World} {b : Nat} {l : List (List UInt8 × Value)} (h : Map14 w b l) : b < w.heap.size := by
  obtain ⟨es, clock, h1, he⟩ := h
  exact lt_of_obj h1
theorem map14_new (w : World) : Map14 (w.alloc (.map #[] 0)) w.heap.size [] := ⟨#[], 0, (MapKept.heap_alloc w _).1, rfl⟩
theorem strBeq (a b : List UInt8) : (str a == str b) = decide (a = b) := by
  by_cases h : a = b
  · rw [decide_eq_true h]
    exact (MapKept.bytes_beq _ _).2 (by rw [h])
  · rw [decide_eq_false h]
    exact Bool.eq_false_iff.2 fun e => h ((str_eq13 a b).1 ((MapKept.bytes_beq _ _).1 e))
theorem findNow14 (x : List UInt8) : ∀ (es : List MapEntry) (l : List (List UInt8 × Value)) (i : Nat), Ents es l → ∃ r, Instr.findNow .string (.string (str x)) es i = some r ∧ r.map (·.2) = look x l
  | [], [], i, _ => ⟨none, rfl, rfl⟩
  | [], _ :: _, i, h => by simp [Ents] at h
  | _ :: _, [], i, h => by simp [Ents] at h
  | e :: es, (k, v) :: l, i, h => by
    have h1 : e.key = .string (str k) ∧ e.val = v ∧ Ents es l := by
      simp only [Ents, List.map_cons, List.cons.injEq, Prod.mk.injEq] at h
      exact ⟨h.1.1, h.1.2, h.2⟩
    obtain ⟨r, hr1, hr2⟩ := findNow14 x es l (i + 1) h1.2.2
    unfold Instr.findNow
    rw [h1.1]
    simp only [Instr.sameNow, strBeq]
    by_cases hx : x = k
    · rw [decide_eq_true hx]
      exact ⟨_, rfl, by simp [look, hx, h1.2.1]⟩
    · rw [decide_eq_false hx]
      exact ⟨r, hr1, by simp [look, hx, hr2]⟩
theorem check14 (c : Bool) (s : ByteArray) (w : World) : (Instr.checkKey c 10000 9 (.string s)).run Tryz.prog w = .ok () w := by
  rw [show (10000 : Nat) = 9999 + 1 from rfl]
  unfold Instr.checkKey
  simp [run_underlying Tryz.underlying9, Result.andThen]
theorem findKey14 (x : List UInt8) (es : List MapEntry) (l : List (List UInt8 × Value)) (w : World) (h : Ents es l) : ∃ r, (Instr.findKey 9 (.string (str x)) es).run Tryz.prog w = .ok r w ∧ r.map (·.2) = look x l := by
  obtain ⟨r, h1, h2⟩ := findNow14 x es l 0 h
  refine ⟨r, ?_, h2⟩
  unfold Instr.findKey
  simp [run_underlying Tryz.underlying9, Result.andThen, h1]
theorem run_look14 {T e : TypeId} (hT : Tryz.prog.underlying T = some (.map 9 e)) {w : World} {z : Value} (hz : (zeroValue e).run Tryz.prog w = .ok z w) {b : Nat} {l : List (List UInt8 × Value)} (h : Map14 w b l) (x : List UInt8) :
    (Instr.lookup T (.map (some b)) (.string (str x)) true).run Tryz.prog w = .ok (.tuple #[(look x l).getD z, .bool (look x l).isSome]) w := by
  obtain ⟨es, clock, hb, he⟩ := h
  obtain ⟨r, h1, h2⟩ := findKey14 x es.toList l w he
  unfold Instr.lookup
  cases r with
  | none =>
    have h3 : look x l = none := h2.symm
    simp [run_underlying hT, MapKept.run_getObj_map hb, Result.andThen, check14, h1, hz, h3]
  | some q =>
    have h3 : look x l = some q.2 := h2.symm
    simp [run_underlying hT, MapKept.run_getObj_map hb, Result.andThen, check14, h1, h3]
theorem run_look_nil14 {T e : TypeId} (hT : Tryz.prog.underlying T = some (.map 9 e)) {w : World} {z : Value} (hz : (zeroValue e).run Tryz.prog w = .ok z w) (x : List UInt8) :
    (Instr.lookup T (.map none) (.string (str x)) true).run Tryz.prog w = .ok (.tuple #[z, .bool false]) w := by
  obtain ⟨r, h1, h2⟩ := findKey14 x [] [] w rfl
  have h3 : r = none := by cases r with
    | none => rfl
    | some q => simp [look] at h2
  subst h3
  unfold Instr.lookup
  simp [run_underlying hT, Result.andThen, check14, h1, hz]
theorem wpList_look14 (w : World) {ops : Array Oper} {rest : List Oper} {o : Oper} {a : Act} {Q : Exit → Act → World → Prop} (hg : o.guard = none) (m x : Operand) (t : TypeId) (hop : o.op = Op.lookup t m x true)
    {e : TypeId} (hT : Tryz.prog.underlying t = some (.map 9 e)) {z : Value} (hz : (zeroValue e).run Tryz.prog w = .ok z w) (b : Nat) (l : List (List UInt8 × Value)) (hm : a.eval m = .map (some b)) (hown : Map14 w b l) (y : List UInt8) (hx : a.eval x = .string (str y))
    (hK : wpList Tryz.prog ops Q rest (a.put o.dst (.tuple #[(look y l).getD z, .bool (look y l).isSome])) w) : wpList Tryz.prog ops Q (o :: rest) a w := by
  refine wpList_plain hg fun K' hK' => ?_
  have hrun := run_look14 hT hz hown y
  unfold Oper.wp
  simp [execOp, hop, hm, hx, hrun, Result.andThen]
  exact hK' _ _ hK
theorem wpList_look_nil14 (w : World) {ops : Array Oper} {rest : List Oper} {o : Oper} {a : Act} {Q : Exit → Act → World → Prop} (hg : o.guard = none) (m x : Operand) (t : TypeId) (hop : o.op = Op.lookup t m x true)
    {e : TypeId} (hT : Tryz.prog.underlying t = some (.map 9 e)) {z : Value} (hz : (zeroValue e).run Tryz.prog w = .ok z w) (hm : a.eval m = .map none) (y : List UInt8) (hx : a.eval x = .string (str y))
    (hK : wpList Tryz.prog ops Q rest (a.put o.dst (.tuple #[z, .bool false])) w) : wpList Tryz.prog ops Q (o :: rest) a w := by
  refine wpList_plain hg fun K' hK' => ?_
  have hrun := run_look_nil14 hT hz y
  unfold Oper.wp
  simp [execOp, hop, hm, hx, hrun, Result.andThen]
  exact hK' _ _ hK
/-- a new entry -/
theorem run_put14 {T e : TypeId} (hT : Tryz.prog.underlying T = some (.map 9 e)) {w : World} {b : Nat} {l : List (List UInt8 × Value)} (h : Map14 w b l) (x : List UInt8) (hx : look x l = none) (v : Value) :
    ∃ w', (Instr.mapUpdate T (.map (some b)) (.string (str x)) v).run Tryz.prog w = .ok () w' ∧ Map14 w' b (l ++ [(x, v)]) ∧ w.grownBy w' (some b) := by
  obtain ⟨es, clock, hb, he⟩ := h
  obtain ⟨r, h1, h2⟩ := findKey14 x es.toList l w he
  have h3 : r = none := by cases r with
    | none => rfl
    | some q => rw [hx] at h2; cases h2
  subst h3
  refine ⟨ChangeMaps.setBlock w b (.map (es.push ⟨.string (str x), v, clock⟩) (clock + 1)), ?_, ⟨_, _, ChangeMaps.heap_setBlock_same hb _, ?_⟩, ⟨rfl, rfl, rfl, by simp [ChangeMaps.setBlock], fun i _ hi => ChangeMaps.heap_setBlock_other hb _ (fun e => hi (by rw [e]))⟩⟩
  · simp [Instr.mapUpdate, run_underlying hT, MapKept.run_getObj_map hb, check14, h1, MapKept.run_setObj_map _ hb, Result.andThen, ChangeMaps.setBlock]
  · unfold Ents at he ⊢
    rw [Array.toList_push, List.map_append, List.map_append, he]
    rfl
theorem wpList_put14 (w : World) {ops : Array Oper} {rest : List Oper} {o : Oper} {a : Act} {Q : Exit → Act → World → Prop} (hg : o.guard = none) (m x v : Operand) (t : TypeId) (hop : o.op = Op.mapUpdate t m x v)
    {e : TypeId} (hT : Tryz.prog.underlying t = some (.map 9 e)) (b : Nat) (l : List (List UInt8 × Value)) (hm : a.eval m = .map (some b)) (hown : Map14 w b l) (y : List UInt8) (hx : a.eval x = .string (str y)) (hl : look y l = none) (val : Value) (hv : a.eval v = val)
    (hK : ∀ w', Map14 w' b (l ++ [(y, val)]) → w.grownBy w' (some b) → wpList Tryz.prog ops Q rest (a.put o.dst undef) w') : wpList Tryz.prog ops Q (o :: rest) a w := by
  refine wpList_plain hg fun K' hK' => ?_
  obtain ⟨w', hrun, r1, r2⟩ := run_put14 hT hown y hl val
  unfold Oper.wp
  simp [execOp, hop, hm, hx, hv, hrun, Result.andThen]
  exact hK' _ _ (hK w' r1 r2)
end Go.Proofs.YtfjplhgajoehfaaGreatDoor

set_option linter.unusedVariables false
set_option linter.unusedSimpArgs false
namespace Go.Proofs.YtfjplhgajoehfaaGreatDoor
open Go.RowKit

set_option maxRecDepth 100000 in
theorem run_append_sep {w : World} (base : Nat) (t ty e : TypeId) (i : TypeInfo) (z : Value) (size bytes : Nat) (ht : Tryz.prog.underlying t = some (.slice e)) (hi : Tryz.prog.info? e = some i) (hz : i.zero = some z)
    (hsize : i.size = size) (hby : i.bytes = bytes) (hzs : z.cells.size = size) (hsz : 0 < size)
    (v : Value) (n : Nat) (xs : List Value) (hown : w.ownsRow base e size v n xs)
    (a : Addr) (m c : Nat) (news : List Value) (hl : news.length = m * size) (hnews : ∀ j u, news[j]? = some u → w.cell? (a.add j) = some u) (h1 : ∀ u ∈ news, u.oneCell' = true)
    (h63 : n + m ≤ maxLen) (hbytes : (n + m) * bytes ≤ 140737488355328) (hbase : base ≤ w.heap.size) :
    ∃ v' w', (Builtin.append_ #[t, t] ty #[v, .slice (some a) m c]).run Tryz.prog w = .ok v' w' ∧ w'.ownsRow base e size v' (n + m) (xs ++ news) ∧ w.grownBy w' v.ownBlock ∧ (v'.ownBlock = v.ownBlock ∨ v'.ownBlock = some w.heap.size) := by
  obtain ⟨v', w', hr, h2, h3, h4⟩ := run_append_own (P := Tryz.prog) w base t ty e i z size bytes ht hi hz hsize hby hzs hsz v n xs hown a m c news hl hnews h1 h63 hbytes hbase
  refine ⟨v', w', hr, h2, h3, ?_⟩
  have hsmall : n + m ≤ 9223372036854775807 := by simp only [maxLen] at h63; omega
  rcases hown.2 with ⟨rfl, rfl⟩ | ⟨g, cap, cur, rfl, hbg, hg, hnc, hcm, hcs, htake⟩
  · by_cases hm : m = 0
    · left; rw [h4.2 ⟨rfl, hm⟩]
    · right
      have hr2 := run_append_nil (P := Tryz.prog) w t ty e i z ht hi hz a m c news (by rw [hsize]; exact hl) hnews (by omega) (by omega) (by subst hby; have hb := hbytes; simp only [Nat.zero_add] at hb; omega)
      rw [hr] at hr2
      injection hr2 with e1 _
      rw [e1]
      rfl
  · by_cases hroom : n + m ≤ cap
    · left
      obtain ⟨w2, hr2, _⟩ := run_append_own_spare (P := Tryz.prog) w base t ty e i size ht hi hsize g n cap xs hown a m c news hl hnews h1 hroom
      rw [hr] at hr2
      injection hr2 with e1 _
      rw [e1]
      rfl
    · right
      have holds : ∀ j u, xs[j]? = some u → w.cell? ((⟨g, 0, none⟩ : Addr).add j) = some u := hown.cells (g := g) rfl
      have hr2 := run_append_grow (P := Tryz.prog) w t ty e i z ht hi hz ⟨g, 0, none⟩ n cap xs (by rw [hsize]; exact hown.1) holds a m c news (by rw [hsize]; exact hl) hnews (by omega) (by omega) (by subst hby; exact growslice_fits (by omega) hbytes)
      rw [hr] at hr2
      injection hr2 with e1 _
      rw [e1]
      rfl
set_option maxRecDepth 100000 in
/-- one record, appended to a row of the call's own -/
theorem wpList_append_sep {α : Type} {f : α → List Value} {k bytes : Nat} {T S : TypeId} {z : Value} (hS : Tryz.prog.underlying S = some (.slice T)) (hT : (Tryz.prog.info? T).map (fun i => (i.zero, i.size, i.bytes)) = some (some z, k, bytes)) (hzk : z.cells.size = k) (hk : 0 < k)
    (hf : ∀ x, (f x).length = k) (h1 : ∀ l : List α, ∀ u ∈ l.flatMap f, u.oneCell' = true)
    {w : World} {ops : Array Oper} {rest : List Oper} {o : Oper} {a : Act} {Q : Exit → Act → World → Prop} (hw : Region.wanted o (yielded ops a.tmps) = true) (s x : Operand)
    (ho : o.op = .call { callee := .builtin .append, args := #[s, x], argTypes := #[S, S] })
    (base : Nat) (v u : Value) (xs : List α) (y : α) (hs : a.eval s = v) (hown : OwnR T f k base v xs w) (hx : a.eval x = u) (hsrc : SlcAt f k w u [y]) (hlen : (xs.length + 1) * bytes ≤ 140737488355328) (hmax : xs.length + 1 ≤ maxLen) (hbase : base ≤ w.heap.size)
    (h : ∀ v' w', OwnR T f k base v' (xs ++ [y]) w' → w.grownBy w' v.ownBlock → (v'.ownBlock = v.ownBlock ∨ v'.ownBlock = some w.heap.size) → wpList Tryz.prog ops Q rest (a.put o.dst v') w') : wpList Tryz.prog ops Q (o :: rest) a w := by
  obtain ⟨i0, hi, hz0, hz1, hz2⟩ := info_parts hT
  obtain ⟨_, hm, hkk⟩ := hsrc
  obtain ⟨b, o', cap, rfl, hc⟩ := hkk (by simp)
  refine wpList_step fun K hK => ?_
  rw [if_pos hw]
  obtain ⟨v', w', hrun, h2, h3, h4⟩ := run_append_sep (w := w) base S o.type T i0 _ k bytes hS hi hz0 hz1 hz2 hzk hk v xs.length _ hown ⟨b, o', none⟩ 1 cap ([y].flatMap f) (by simp [hf]) (fun j q hq => by
    rw [add_none]
    exact flat_cells hf hc j q hq) (h1 [y]) hmax hlen hbase
  unfold Oper.wp execOp
  simp only [ho, resolve, invoke, builtin, Sem.run_bind, Sem.run_pure, Result.andThen_ok, List.map_toArray, List.map_cons, List.map_nil, hs, hx, List.length_singleton, hrun]
  exact hK _ _ (h v' w' (by unfold OwnR; rw [List.length_append, List.flatMap_append]; exact h2) h3 h4)
end Go.Proofs.YtfjplhgajoehfaaGreatDoor

set_option linter.unusedVariables false
set_option linter.unusedSimpArgs false
namespace Go.Proofs.YtfjplhgajoehfaaGreatDoor
open Go.RowKit

/-! ### lists that stand for one another -/
def Each {α β : Type} (R : α → β → Prop) (xs : List α) (ys : List β) : Prop := xs.length = ys.length ∧ ∀ (i : Nat) (x : α) (y : β), xs[i]? = some x → ys[i]? = some y → R x y
theorem Each.nil {α β : Type} (R : α → β → Prop) : Each R [] [] := ⟨rfl, fun i x y h => by simp at h⟩
theorem Each.snoc {α β : Type} {R : α → β → Prop} {xs : List α} {ys : List β} {x : α} {y : β} (h : Each R xs ys) (hR : R x y) : Each R (xs ++ [x]) (ys ++ [y]) := by
  refine ⟨by simp [h.1], fun i a b ha hb => ?_⟩
  rcases Nat.lt_or_ge i xs.length with hi | hi
  · rw [List.getElem?_append_left hi] at ha
    rw [List.getElem?_append_left (by rw [← h.1]; exact hi)] at hb
    exact h.2 i a b ha hb
  · rw [List.getElem?_append_right hi] at ha
    rw [List.getElem?_append_right (by rw [← h.1]; exact hi)] at hb
    rw [h.1] at ha
    cases hk : i - ys.length with
    | zero => rw [hk] at ha hb; simp at ha hb; subst ha hb; exact hR
    | succ j => rw [hk] at ha; simp at ha
theorem Each.imp {α β : Type} {R R' : α → β → Prop} {xs : List α} {ys : List β} (h : Each R xs ys) (hi : ∀ x y, R x y → R' x y) : Each R' xs ys := ⟨h.1, fun i x y hx hy => hi _ _ (h.2 i x y hx hy)⟩
theorem Each.get {α β : Type} {R : α → β → Prop} {xs : List α} {ys : List β} (h : Each R xs ys) {i : Nat} {y : β} (hy : ys[i]? = some y) : ∃ x, xs[i]? = some x ∧ R x y := by
  have hlt : i < ys.length := (List.getElem?_eq_some_iff.1 hy).1
  have hx : xs[i]? = some (xs[i]'(by rw [h.1]; exact hlt)) := List.getElem?_eq_getElem _
  exact ⟨_, hx, h.2 i _ y hx hy⟩
theorem Each.eq {α : Type} {xs ys : List α} (h : Each (fun x y => x = y) xs ys) : xs = ys := by
  refine List.ext_getElem? fun i => ?_
  rcases Nat.lt_or_ge i xs.length with hi | hi
  · have hx : xs[i]? = some xs[i] := List.getElem?_eq_getElem hi
    have hy : ys[i]? = some (ys[i]'(by rw [← h.1]; exact hi)) := List.getElem?_eq_getElem _
    rw [hx, hy, h.2 i _ _ hx hy]
  · rw [List.getElem?_eq_none hi, List.getElem?_eq_none (by rw [← h.1]; exact hi)]
theorem Each.rfl {α : Type} (xs : List α) : Each (fun x y => x = y) xs xs := ⟨by trivial, fun i x y hx hy => by rw [hx] at hy; exact Option.some.inj hy⟩

/-! ### slices in blocks of K -/
def SlcK {α : Type} (f : α → List Value) (k : Nat) (K : Nat → Prop) (w : World) (v : Value) (l : List α) : Prop :=
  (∃ a cap, v = .slice a l.length cap ∧ l.length ≤ cap) ∧ l.length ≤ maxLen ∧ (0 < l.length → ∃ b o cap, v = .slice (some ⟨b, o, none⟩) l.length cap ∧ K b ∧ ∀ i x, l[i]? = some x → RecAt w b (o + i * k) (f x))
theorem SlcK.move {α : Type} {f : α → List Value} {k : Nat} {K K' : Nat → Prop} {w w' : World} {v : Value} {l : List α} (h : SlcK f k K w v l) (hs : ∀ b, K b → Stays w w' b) (hK : ∀ b, K b → K' b) : SlcK f k K' w' v l := by
  obtain ⟨h1, h2, h3⟩ := h
  refine ⟨h1, h2, fun hp => ?_⟩
  obtain ⟨b, o, cap, e, hb, hc⟩ := h3 hp
  exact ⟨b, o, cap, e, hK b hb, fun i x hx j u hj => hs b hb _ _ (hc i x hx j u hj)⟩
theorem SlcK.at {α : Type} {f : α → List Value} {k : Nat} {K : Nat → Prop} {w : World} {v : Value} {l : List α} (h : SlcK f k K w v l) : SlcAt f k w v l := by
  obtain ⟨h1, h2, h3⟩ := h
  refine ⟨h1, h2, fun hp => ?_⟩
  obtain ⟨b, o, cap, e, hb, hc⟩ := h3 hp
  exact ⟨b, o, cap, e, hc⟩
theorem slcK_none {α : Type} (f : α → List Value) (k : Nat) (K : Nat → Prop) (w : World) : SlcK f k K w (.slice none 0 0) [] := ⟨⟨none, 0, rfl, Nat.le_refl _⟩, by unfold maxLen; simp, fun h => by simp at h⟩
theorem OwnR.slcK {α : Type} {T : TypeId} {f : α → List Value} {k B : Nat} {v : Value} {l : List α} {w : World} {K : Nat → Prop} (h : OwnR T f k B v l w) (hf : ∀ x, (f x).length = k) (hK : ∀ b, v.ownBlock = some b → K b) : SlcK f k K w v l := by
  have h0 := h
  rcases h.2 with ⟨rfl, hn⟩ | ⟨g, cap, cur, rfl, _, hg, hcap, hmax, hsz, htake⟩
  · refine ⟨⟨none, 0, by rw [hn], by omega⟩, by omega, fun hp => by omega⟩
  · refine ⟨⟨_, _, rfl, hcap⟩, by omega, fun hp => ⟨g, 0, cap, rfl, hK g rfl, fun i x hx j u hj => ?_⟩⟩
    have c1 := World.ownsRow.cells h0 (g := g) rfl _ _ (flat_at hf l i x hx j u hj)
    rw [add_none] at c1
    simpa using c1

/-! ### records -/
/-- a slice's header -/
structure Hd where
  a : Option Addr
  n : Nat
  cap : Nat
def Hd.v (h : Hd) : Value := .slice h.a h.n h.cap
structure RSd where
  c : Hd
  w : Hd
  n : Hd
structure RPa where
  verse : Bool
  fr : Nat
  num : Nat
  e : Hd
structure RNo where
  ser : Nat
  fr : Nat
  til : Nat
  t : Hd
  loc : Int
def sdC (x : RSd) : List Value := [x.c.v, x.w.v, x.n.v]
def paC (x : RPa) : List Value := [.bool x.verse, .int .i64 x.fr, .int .i64 x.num, x.e.v]
def noC (x : RNo) : List Value := [.int .i64 x.ser, .int .i64 x.fr, .int .i64 x.til, x.t.v, .int .i64 x.loc]
def saC (x : El.Said) : List Value := [.int .i64 x.kind, .string (str x.txt), .int .i64 x.loc]
def laC (x : El.Lab) : List Value := [.string (str x.name), .int .i64 x.side, .int .i64 x.word]
def enC (x : Nat) : List Value := [.int .i64 x]
def chC (x : Hd) : List Value := [x.v]

def ParaK (K : Nat → Prop) (w : World) (r : RPa) (p : El.Para) : Prop := r.verse = p.verse ∧ r.fr = p.fr ∧ r.num = p.num ∧ SlcK enC 1 K w r.e.v p.ends
def ParasK (K : Nat → Prop) (w : World) (v : Value) (ps : List El.Para) : Prop := ∃ rs, SlcK paC 4 K w v rs ∧ Each (ParaK K w) rs ps
def ChunkK (K : Nat → Prop) (w : World) (r : Hd) (ps : List El.Para) : Prop := ParasK K w r.v ps
def ChunksK (K : Nat → Prop) (w : World) (v : Value) (cs : List (List El.Para)) : Prop := ∃ rs, SlcK chC 1 K w v rs ∧ Each (ChunkK K w) rs cs
def NoteK (K : Nat → Prop) (w : World) (r : RNo) (n : El.Note) : Prop := r.ser = n.ser ∧ r.fr = n.fr ∧ r.til = n.til ∧ r.loc = n.loc ∧ SlcK saC 3 K w r.t.v n.txt
def NotesK (K : Nat → Prop) (w : World) (v : Value) (ns : List El.Note) : Prop := ∃ rs, SlcK noC 5 K w v rs ∧ Each (NoteK K w) rs ns
def SideK (K : Nat → Prop) (w : World) (r : RSd) (s : El.Side) : Prop := ChunksK K w r.c.v s.chunks ∧ SlcK txC 1 K w r.w.v s.words ∧ NotesK K w r.n.v s.notes
def SidesK (K : Nat → Prop) (w : World) (v : Value) (ss : List El.Side) : Prop := ∃ rs, SlcK sdC 3 K w v rs ∧ Each (SideK K w) rs ss

section
variable {K K' : Nat → Prop} {w w' : World} (hs : ∀ b, K b → Stays w w' b) (hK : ∀ b, K b → K' b)
include hs hK
theorem ParaK.move {r : RPa} {p : El.Para} (h : ParaK K w r p) : ParaK K' w' r p := ⟨h.1, h.2.1, h.2.2.1, h.2.2.2.move hs hK⟩
theorem ParasK.move {v : Value} {ps : List El.Para} (h : ParasK K w v ps) : ParasK K' w' v ps := by
  obtain ⟨rs, h1, h2⟩ := h
  exact ⟨rs, h1.move hs hK, h2.imp fun _ _ h => h.move hs hK⟩
theorem ChunkK.move {r : Hd} {ps : List El.Para} (h : ChunkK K w r ps) : ChunkK K' w' r ps := ParasK.move hs hK h
theorem ChunksK.move {v : Value} {cs : List (List El.Para)} (h : ChunksK K w v cs) : ChunksK K' w' v cs := by
  obtain ⟨rs, h1, h2⟩ := h
  exact ⟨rs, h1.move hs hK, h2.imp fun _ _ h => ChunkK.move hs hK h⟩
theorem NoteK.move {r : RNo} {n : El.Note} (h : NoteK K w r n) : NoteK K' w' r n := ⟨h.1, h.2.1, h.2.2.1, h.2.2.2.1, h.2.2.2.2.move hs hK⟩
theorem NotesK.move {v : Value} {ns : List El.Note} (h : NotesK K w v ns) : NotesK K' w' v ns := by
  obtain ⟨rs, h1, h2⟩ := h
  exact ⟨rs, h1.move hs hK, h2.imp fun _ _ h => NoteK.move hs hK h⟩
theorem SideK.move {r : RSd} {s : El.Side} (h : SideK K w r s) : SideK K' w' r s := ⟨ChunksK.move hs hK h.1, h.2.1.move hs hK, NotesK.move hs hK h.2.2⟩
theorem SidesK.move {v : Value} {ss : List El.Side} (h : SidesK K w v ss) : SidesK K' w' v ss := by
  obtain ⟨rs, h1, h2⟩ := h
  exact ⟨rs, h1.move hs hK, h2.imp fun _ _ h => SideK.move hs hK h⟩
end

/-! ### kinds of rows -/
structure Knd (ρ α : Type) where
  T : TypeId
  S : TypeId
  f : ρ → List Value
  k : Nat
  bytes : Nat
  z : Value
  R : (Nat → Prop) → World → ρ → α → Prop
structure Knd.Ok {ρ α : Type} (κ : Knd ρ α) : Prop where
  hS : Tryz.prog.underlying κ.S = some (.slice κ.T)
  hT : (Tryz.prog.info? κ.T).map (fun i => (i.zero, i.size, i.bytes)) = some (some κ.z, κ.k, κ.bytes)
  hzk : κ.z.cells.size = κ.k
  hk : 0 < κ.k
  hby : κ.bytes ≤ 96
  hf : ∀ x, (κ.f x).length = κ.k
  h1 : ∀ l : List ρ, ∀ u ∈ l.flatMap κ.f, u.oneCell' = true
  mv : ∀ (K K' : Nat → Prop) (w w' : World) (r : ρ) (x : α), (∀ b, K b → Stays w w' b) → (∀ b, K b → K' b) → κ.R K w r x → κ.R K' w' r x
def kSd : Knd RSd El.Side := ⟨41, 26, sdC, 3, 72, .agg #[.slice none 0 0, .slice none 0 0, .slice none 0 0], SideK⟩
def kLa : Knd El.Lab El.Lab := ⟨57, 27, laC, 3, 32, .agg #[.string ByteArray.empty, .int .i64 0, .int .i64 0], fun _ _ x y => x = y⟩
def kCh : Knd Hd (List El.Para) := ⟨51, 37, chC, 1, 24, .slice none 0 0, ChunkK⟩
def kTx : Knd (List UInt8) (List UInt8) := ⟨9, 38, txC, 1, 16, .string ByteArray.empty, fun _ _ x y => x = y⟩
def kNo : Knd RNo El.Note := ⟨44, 39, noC, 5, 56, .agg #[.int .i64 0, .int .i64 0, .int .i64 0, .slice none 0 0, .int .i64 0], NoteK⟩
def kPa : Knd RPa El.Para := ⟨54, 51, paC, 4, 48, .agg #[.bool false, .int .i64 0, .int .i64 0, .slice none 0 0], ParaK⟩
def kEn : Knd Nat Nat := ⟨3, 52, enC, 1, 8, .int .i64 0, fun _ _ x y => x = y⟩
def kSa : Knd El.Said El.Said := ⟨60, 42, saC, 3, 32, .agg #[.int .i64 0, .string ByteArray.empty, .int .i64 0], fun _ _ x y => x = y⟩
theorem one_flat {ρ : Type} {f : ρ → List Value} (h : ∀ x, ∀ u ∈ f x, u.oneCell' = true) : ∀ l : List ρ, ∀ u ∈ l.flatMap f, u.oneCell' = true := by
  intro l u hu
  obtain ⟨t, _, h'⟩ := List.mem_flatMap.1 hu
  exact h t u h'
theorem okSd : kSd.Ok := ⟨Tryz.underlying26, by kernel_rfl, rfl, by decide, by decide, fun _ => rfl, one_flat (fun x u hu => by simp [kSd, sdC] at hu; rcases hu with rfl | rfl | rfl <;> rfl), fun _ _ _ _ _ _ hs hK h => SideK.move hs hK h⟩
theorem okLa : kLa.Ok := ⟨Tryz.underlying27, by kernel_rfl, rfl, by decide, by decide, fun _ => rfl, one_flat (fun x u hu => by simp [kLa, laC] at hu; rcases hu with rfl | rfl | rfl <;> rfl), fun _ _ _ _ _ _ hs hK h => h⟩
theorem okCh : kCh.Ok := ⟨Tryz.underlying37, by kernel_rfl, rfl, by decide, by decide, fun _ => rfl, one_flat (fun x u hu => by simp [kCh, chC] at hu; subst hu; rfl), fun _ _ _ _ _ _ hs hK h => ChunkK.move hs hK h⟩
theorem okTx : kTx.Ok := ⟨Tryz.underlying38, by kernel_rfl, rfl, by decide, by decide, fun _ => rfl, one_flat (fun x u hu => by simp [kTx, txC] at hu; subst hu; rfl), fun _ _ _ _ _ _ hs hK h => h⟩
theorem okNo : kNo.Ok := ⟨Tryz.underlying39, by kernel_rfl, rfl, by decide, by decide, fun _ => rfl, one_flat (fun x u hu => by simp [kNo, noC] at hu; rcases hu with rfl | rfl | rfl | rfl | rfl <;> rfl), fun _ _ _ _ _ _ hs hK h => NoteK.move hs hK h⟩
theorem okPa : kPa.Ok := ⟨Tryz.underlying51, by kernel_rfl, rfl, by decide, by decide, fun _ => rfl, one_flat (fun x u hu => by simp [kPa, paC] at hu; rcases hu with rfl | rfl | rfl | rfl <;> rfl), fun _ _ _ _ _ _ hs hK h => ParaK.move hs hK h⟩
theorem okEn : kEn.Ok := ⟨Tryz.underlying52, by kernel_rfl, rfl, by decide, by decide, fun _ => rfl, one_flat (fun x u hu => by simp [kEn, enC] at hu; subst hu; rfl), fun _ _ _ _ _ _ hs hK h => h⟩
theorem okSa : kSa.Ok := ⟨Tryz.underlying42, by kernel_rfl, rfl, by decide, by decide, fun _ => rfl, one_flat (fun x u hu => by simp [kSa, saC] at hu; rcases hu with rfl | rfl | rfl <;> rfl), fun _ _ _ _ _ _ hs hK h => h⟩

/-- v is a row of the call's own, of the records l, whose parts lie in blocks of K; it is none of the blocks of X -/
structure OwnE {ρ α : Type} (κ : Knd ρ α) (B : Nat) (K X : Nat → Prop) (v : Value) (l : List α) (w : World) : Prop where
  row : ∃ rs, OwnR κ.T κ.f κ.k B v rs w ∧ Each (κ.R K w) rs l
  ne : ∀ b, X b → v.ownBlock ≠ some b
section
variable {ρ α : Type} {κ : Knd ρ α} {B : Nat} {K X : Nat → Prop} {v : Value} {l : List α} {w w' : World}
theorem ownE_nil (κ : Knd ρ α) (B : Nat) (K X : Nat → Prop) (w : World) : OwnE κ B K X (.slice none 0 0) [] w := ⟨⟨[], ownR_nil _ _ _ _ _, Each.nil _⟩, fun b _ => by simp [Value.ownBlock]⟩
theorem OwnE.lt (h : OwnE κ B K X v l w) {b : Nat} (hb : v.ownBlock = some b) : B ≤ b ∧ b < w.heap.size := by
  obtain ⟨rs, h1, _⟩ := h.row
  exact World.ownsRow.lt h1 b hb
/-- where another row grows, it stays -/
theorem OwnE.kept {row : Option Nat} (hok : κ.Ok) (h : OwnE κ B K X v l w) (hg : w.grownBy w' row) (hv : v.ownBlock = none ∨ v.ownBlock ≠ row) (hlt : ∀ b, K b → b < w.heap.size) (hK : ∀ b, K b → some b ≠ row) : OwnE κ B K X v l w' := by
  obtain ⟨rs, h1, h2⟩ := h.row
  exact ⟨⟨rs, World.ownsRow.kept h1 hg hv, h2.imp fun r x hr => hok.mv _ _ _ _ _ _ (fun b hb => stays_block (hg.block b (hlt b hb) (hK b hb))) (fun _ h => h) hr⟩, h.ne⟩
theorem grown_of_below (hb : Below w.heap.size w w') : w.grownBy w' none := ⟨hb.os, hb.tape, hb.output, hb.size, fun i hi _ => hb.block i hi⟩
theorem OwnE.mono (hok : κ.Ok) (h : OwnE κ B K X v l w) (hb : Below w.heap.size w w') (hlt : ∀ b, K b → b < w.heap.size) : OwnE κ B K X v l w' :=
  h.kept hok (grown_of_below hb) (by cases v.ownBlock <;> simp) hlt (fun _ _ => by simp)
/-- more is finished, other blocks are avoided -/
theorem OwnE.more {K' X' : Nat → Prop} (hok : κ.Ok) (h : OwnE κ B K X v l w) (hK : ∀ b, K b → K' b) (hne : ∀ b, X' b → v.ownBlock ≠ some b) : OwnE κ B K' X' v l w := by
  obtain ⟨rs, h1, h2⟩ := h.row
  exact ⟨⟨rs, h1, h2.imp fun r x hr => hok.mv _ _ _ _ _ _ (fun b hb o u h => h) hK hr⟩, hne⟩
theorem OwnE.less {X' : Nat → Prop} (h : OwnE κ B K X v l w) (hX : ∀ b, X' b → X b) : OwnE κ B K X' v l w := ⟨h.row, fun b hb => h.ne b (hX b hb)⟩
theorem OwnE.len (h : OwnE κ B K X v l w) : ∃ a cap, v = .slice a l.length cap ∧ l.length ≤ cap := by
  obtain ⟨rs, h1, h2⟩ := h.row
  rw [← h2.1]
  rcases h1.2 with ⟨rfl, hn⟩ | ⟨g, cap, cur, rfl, _, hg, hcap, hmax, hsz, htake⟩
  · exact ⟨none, 0, by rw [hn], by omega⟩
  · exact ⟨_, _, rfl, hcap⟩
end
/-- rows of unlike kinds are not one another -/
theorem own_apart14 {ρ α ρ' α' : Type} {κ : Knd ρ α} {κ' : Knd ρ' α'} {B B' : Nat} {K K' X X' : Nat → Prop} {v v' : Value} {l : List α} {l' : List α'} {w : World} (h : OwnE κ B K X v l w) (h' : OwnE κ' B' K' X' v' l' w) (hT : κ.T ≠ κ'.T) : v.ownBlock = none ∨ v.ownBlock ≠ v'.ownBlock := by
  obtain ⟨rs, h1, _⟩ := h.row
  obtain ⟨rs', h2, _⟩ := h'.row
  rcases h1.2 with ⟨rfl, _⟩ | ⟨g, cap, cur, rfl, _, hg, _⟩
  · left; rfl
  · right
    exact own_off9 h2 hg hT
end Go.Proofs.YtfjplhgajoehfaaGreatDoor
