/-
  Lines in memory: a row of the call's own, each line with its numbers; newLine.
-/
import Derived.Test.YtmehldekebphfaaGreatDoorText7
import Derived.Test.YtmehldekebphfaaGreatDoorFind7
import Derived.Deep.AppendLies
set_option linter.unusedVariables false
set_option linter.unusedSimpArgs false
namespace Go.Proofs.YtmehldekebphfaaGreatDoor
open Go.RowKit

/-- numbers that were laid in a block of their own, or none -/
def IntsObj (k : IntKind) (T : TypeId) (w : World) (v : Value) (xs : List Int) : Prop :=
  xs.length ≤ 3 ∧ ((xs = [] ∧ v = .slice none 0 0) ∨ ∃ b, v = .slice (some ⟨b, 0, none⟩) xs.length xs.length ∧ w.heap[b]? = some (.cells (xs.map (Value.int k)).toArray T (0, 0)))
theorem IntsObj.at {k : IntKind} {T : TypeId} {w : World} {v : Value} {xs : List Int} (h : IntsObj k T w v xs) : IntsAt k w v xs := by
  obtain ⟨h3, h⟩ := h
  rcases h with ⟨rfl, rfl⟩ | ⟨b, rfl, hb⟩
  · exact ints_none _ _
  · refine ⟨⟨_, _, rfl, Nat.le_refl _⟩, by unfold maxLen; omega, fun _ => ⟨b, 0, _, rfl, fun i x hi => ?_⟩⟩
    rw [Nat.zero_add, Lib.cell_of_heap hb]
    simp [hi]
theorem IntsObj.mono {k : IntKind} {T : TypeId} {w w' : World} {v : Value} {xs : List Int} (h : IntsObj k T w v xs) (hb : Below w.heap.size w w') : IntsObj k T w' v xs := by
  obtain ⟨h3, h⟩ := h
  rcases h with h | ⟨b, rfl, h1⟩
  · exact ⟨h3, .inl h⟩
  · exact ⟨h3, .inr ⟨b, rfl, by rw [hb.block _ (lt_of_obj h1)]; exact h1⟩⟩
theorem IntsObj.grown {k : IntKind} {T E : TypeId} {w w' : World} {v u : Value} {xs : List Int} {base size n : Nat} {ys : List Value} (h : IntsObj k T w v xs) (ho : w.ownsRow base E size u n ys) (hg : w.grownBy w' u.ownBlock) (hE : T ≠ E) : IntsObj k T w' v xs := by
  obtain ⟨h3, h⟩ := h
  rcases h with h | ⟨b, rfl, h1⟩
  · exact ⟨h3, .inl h⟩
  · refine ⟨h3, .inr ⟨b, rfl, ?_⟩⟩
    rw [hg.block b (lt_of_obj h1) ?_]
    · exact h1
    · intro e
      rcases ho.2 with ⟨rfl, _⟩ | ⟨g, cap, cur, rfl, _, hgb, _⟩
      · cases e
      · simp [Value.ownBlock] at e
        subst e
        rw [h1] at hgb
        injection hgb with hgb
        injection hgb with _ hgb _
        exact hE hgb
theorem ints_obj (k : IntKind) (T : TypeId) (w : World) (p : Nat) (hp : w.heap.size = p) (xs : List Int) (h3 : xs.length ≤ 3) : IntsObj k T (w.alloc (.cells (xs.map (Value.int k)).toArray T)) (.slice (some ⟨p, 0, none⟩) xs.length xs.length) xs := by
  subst hp
  exact ⟨h3, .inr ⟨_, rfl, heap_alloc_new w _⟩⟩

/-! ### lines -/
def lnCodes : Mt.Ln → List Int
  | .space .. => []
  | .hyphen c => [c]
  | .char c .. => [c]
  | .kern a b _ => [a, b]
  | .lig a b t => [a, b, t]
def lnLens : Mt.Ln → List Int
  | .space a b c => [a, b, c]
  | .hyphen _ => []
  | .char _ w h d => [w, h, d]
  | .kern _ _ w => [w]
  | .lig .. => []
theorem words_is (l : Mt.Ln) : Mt.wordsOf l = lineWords (Mt.kind l) (lnCodes l) (lnLens l) := by cases l <;> rfl
theorem text_is (l : Mt.Ln) : Mt.text l = Mt.join 32 (lineWords (Mt.kind l) (lnCodes l) (lnLens l)) := by unfold Mt.text; rw [words_is]
theorem kind_lt (l : Mt.Ln) : Mt.kind l < 5 := by cases l <;> simp [Mt.kind]
def LnIn (l : Mt.Ln) : Prop := ∀ c ∈ lnCodes l, In32 c
/-- a line's three cells -/
structure Rc where
  k : Nat
  c : Value
  l : Value
def rcC (r : Rc) : List Value := [.int .i64 r.k, r.c, r.l]
structure RcFit (w : World) (r : Rc) (l : Mt.Ln) : Prop where
  k : r.k = Mt.kind l
  c : IntsObj .i32 21 w r.c (lnCodes l)
  l : IntsObj .i64 2 w r.l (lnLens l)
def RcsFit (w : World) (rs : List Rc) (ls : List Mt.Ln) : Prop := rs.length = ls.length ∧ ∀ (i : Nat) (r : Rc) (l : Mt.Ln), rs[i]? = some r → ls[i]? = some l → RcFit w r l
theorem RcFit.mono {w w' : World} {r : Rc} {l : Mt.Ln} (h : RcFit w r l) (hb : Below w.heap.size w w') : RcFit w' r l := ⟨h.k, h.c.mono hb, h.l.mono hb⟩
theorem RcsFit.mono {w w' : World} {rs : List Rc} {ls : List Mt.Ln} (h : RcsFit w rs ls) (hb : Below w.heap.size w w') : RcsFit w' rs ls := ⟨h.1, fun i r l hr hl => (h.2 i r l hr hl).mono hb⟩
theorem RcFit.grown {w w' : World} {r : Rc} {l : Mt.Ln} {u : Value} {base size n : Nat} {ys : List Value} (h : RcFit w r l) (ho : w.ownsRow base 89 size u n ys) (hg : w.grownBy w' u.ownBlock) : RcFit w' r l :=
  ⟨h.k, h.c.grown ho hg (by decide), h.l.grown ho hg (by decide)⟩
theorem RcsFit.grown {w w' : World} {rs : List Rc} {ls : List Mt.Ln} {u : Value} {base size n : Nat} {ys : List Value} (h : RcsFit w rs ls) (ho : w.ownsRow base 89 size u n ys) (hg : w.grownBy w' u.ownBlock) : RcsFit w' rs ls :=
  ⟨h.1, fun i r l hr hl => (h.2 i r l hr hl).grown ho hg⟩
theorem RcsFit.snoc {w : World} {rs : List Rc} {ls : List Mt.Ln} {r : Rc} {l : Mt.Ln} (h : RcsFit w rs ls) (hr : RcFit w r l) : RcsFit w (rs ++ [r]) (ls ++ [l]) := by
  refine ⟨by rw [List.length_append, List.length_append, h.1]; rfl, fun i r' l' h1 h2 => ?_⟩
  rcases Nat.lt_trichotomy i rs.length with hi | hi | hi
  · rw [List.getElem?_append_left hi] at h1
    rw [List.getElem?_append_left (by rw [← h.1]; exact hi)] at h2
    exact h.2 i r' l' h1 h2
  · subst hi
    rw [List.getElem?_append_right (Nat.le_refl _), Nat.sub_self] at h1
    rw [h.1, List.getElem?_append_right (Nat.le_refl _), Nat.sub_self] at h2
    simp at h1 h2
    subst h1 h2
    exact hr
  · rw [List.getElem?_eq_none (by simp; omega)] at h1; cases h1
theorem infoLn : (Tryz.prog.info? 89).map (fun i => (i.zero, i.size, i.bytes)) = some (some (.agg #[.int .i64 0, .slice none 0 0, .slice none 0 0]), 3, 56) := by kernel_rfl
def OwnL (B : Nat) (v : Value) (rs : List Rc) (w : World) : Prop := OwnR 89 rcC 3 B v rs w
theorem OwnL.snoc {B : Nat} {v : Value} {rs : List Rc} {r : Rc} {w : World} (h : w.ownsRow B 89 3 v (rs.length + 1) (rs.flatMap rcC ++ rcC r)) : OwnL B v (rs ++ [r]) w := by
  unfold OwnL OwnR
  rw [List.length_append, List.flatMap_append]
  simpa using h
theorem rc_one {r : Rc} {l : Mt.Ln} {w : World} (h : RcFit w r l) : ∀ u ∈ rcC r, u.oneCell' = true := by
  intro u hu
  simp only [rcC, List.mem_cons, List.not_mem_nil, or_false] at hu
  rcases hu with rfl | rfl | rfl
  · rfl
  · rcases h.c.2 with ⟨_, e⟩ | ⟨b, e, _⟩ <;> rw [e] <;> rfl
  · rcases h.l.2 with ⟨_, e⟩ | ⟨b, e, _⟩ <;> rw [e] <;> rfl
theorem rc_new (w : World) (r : Rc) : ∀ j u, (rcC r)[j]? = some u → (w.alloc (.cells #[.int .i64 r.k, r.c, r.l] 89)).cell? ((⟨w.heap.size, 0, none⟩ : Addr).add j) = some u := by
  intro j u hj
  rw [add_none, Nat.zero_add]
  exact cell_lay w _ _ j u (by simpa [rcC] using hj)
theorem infoLn3 : (Tryz.prog.info? 89).map (·.bytes) = some 56 := by kernel_rfl

set_option maxHeartbeats 1000000 in
set_option maxRecDepth 100000 in
theorem newLine_any (k : Int) (p q : Option Addr) (n c m d : Nat) (w : World) : Calls Tryz.prog 72 #[.int .i64 k, .slice p n c, .slice q m d] w (Ret (.agg #[.int .i64 k, .slice p n c, .slice q m d]) w) := by
  go_enter Tryz.func72, Tryz.ntmps72
  go_wp2
  exact bodyPost_ret (v := .agg #[.int .i64 k, .slice p n c, .slice q m d]) (by simp [results, Tryz.results72, go_sem]) rfl ⟨rfl, below_alloc _ _⟩
end Go.Proofs.YtmehldekebphfaaGreatDoor
