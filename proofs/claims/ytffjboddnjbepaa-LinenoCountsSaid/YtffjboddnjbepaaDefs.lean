/-
  What package utf's calls answer, in the words of the plain mathematics; faults in memory, rows of the call's own.
-/
import Derived.Test.YtffjboddnjbepaaLists
set_option linter.unusedVariables false
set_option linter.unusedSimpArgs false
namespace Go.Proofs.Ytffjboddnjbepaa
open Go.RowKit

def asInts (l : List Nat) : List Int := l.map fun n : Nat => (n : Int)
theorem asInts_snoc (l : List Nat) (c : Nat) : asInts (l ++ [c]) = asInts l ++ [(c : Int)] := by simp [asInts]
theorem asInts_len (l : List Nat) : (asInts l).length = l.length := by simp [asInts]
theorem info32 : (Try.prog.info? 21).map (fun i => (i.zero, i.size, i.bytes)) = some (some (.int .i32 0), 1, 4) := by kernel_rfl
theorem info64 : (Try.prog.info? 3).map (fun i => (i.zero, i.size, i.bytes)) = some (some (.int .i64 0), 1, 8) := by kernel_rfl
/-- rows of unlike elements lie apart -/
theorem own_apart {w : World} {B1 B2 : Nat} {E1 E2 : TypeId} {s1 s2 : Nat} {v u : Value} {n m : Nat} {xs ys : List Value} (h1 : w.ownsRow B1 E1 s1 v n xs) (h2 : w.ownsRow B2 E2 s2 u m ys) (hE : E1 ≠ E2) : v.ownBlock = none ∨ v.ownBlock ≠ u.ownBlock := by
  rcases h1.2 with ⟨rfl, _⟩ | ⟨g, cap, cur, rfl, _, hg, _⟩
  · exact .inl rfl
  · rcases h2.2 with ⟨rfl, _⟩ | ⟨g2, cap2, cur2, rfl, _, hg2, _⟩
    · exact .inr (by simp [Value.ownBlock])
    · refine .inr fun e => hE ?_
      simp [Value.ownBlock] at e
      rw [e, hg2] at hg
      injection hg with hg
      injection hg with _ hg _
      exact hg.symm
theorem drop_text (s : ByteArray) (a : Nat) : (s.extract a s.size).data.toList = s.data.toList.drop a := by
  rw [ByteArray.data_extract, Array.toList_extract, Lib.size_eq]
  simp [List.take_of_length_le]

def walkAt (s : List UInt8) : Int := if Ut.clean s then -1 else (Ut.stop s : Int)
theorem ret_walk {a b : Value} {x y : Int} (h : x = y) : Ending.returned (.tuple #[a, b, .int .i64 x]) = .returned (.tuple #[a, b, .int .i64 y]) := by rw [h]
def WalkPost (s : List UInt8) (w : World) (e : Ending) (w' : World) : Prop :=
  ∃ v1 v2, e = .returned (.tuple #[v1, v2, .int .i64 (walkAt s)]) ∧ OwnI .i32 21 w.heap.size v1 (asInts (Ut.dec s).1) w' ∧ OwnI .i64 3 w.heap.size v2 (asInts (Ut.places 0 (Ut.dec s).1)) w' ∧ Below w.heap.size w w'
/-- what is read so far -/
structure Got (s : List UInt8) (l : List Nat) : Prop where
  lets : ∀ c ∈ l, Ut.letterN c = true
  text : s = Ut.encs l ++ s.drop (Ut.encs l).length
theorem got_nil (s : List UInt8) : Got s [] := ⟨fun c h => by simp at h, rfl⟩
theorem Got.few {s : List UInt8} {l : List Nat} (h : Got s l) : l.length ≤ s.length ∧ (Ut.encs l).length ≤ s.length := by
  have h1 := congrArg List.length h.text
  rw [List.length_append] at h1
  have := (Ut.encs_len l).1
  omega
theorem Got.next {s : List UInt8} {l : List Nat} (h : Got s l) {c n : Nat} (hf : Ut.first (s.drop (Ut.encs l).length) = some (c, n)) : Got s (l ++ [c]) ∧ (Ut.encs (l ++ [c])).length = (Ut.encs l).length + n ∧ 1 ≤ n ∧ n ≤ 4 ∧ Ut.places 0 (l ++ [c]) = Ut.places 0 l ++ [(Ut.encs l).length] ∧ c ≤ 1114111 ∧ l.length < s.length := by
  obtain ⟨a1, a2, a3, a4, a5, a6⟩ := Ut.first_some hf
  have hl : (Ut.encs (l ++ [c])).length = (Ut.encs l).length + n := by rw [Ut.encs_snoc, List.length_append, a3]
  refine ⟨⟨?_, ?_⟩, hl, a4, a5, ?_, Ut.letterN_le a1, ?_⟩
  · intro d hd
    rcases List.mem_append.1 hd with hd | hd
    · exact h.lets d hd
    · rw [List.mem_singleton.1 hd]; exact a1
  · rw [hl, Ut.encs_snoc, List.append_assoc, ← List.drop_drop, ← a2]
    exact h.text
  · rw [Ut.places_append]
    simp [Ut.places]
  · have h1 := h.few
    rw [List.length_drop] at a6
    have := (Ut.encs_len l).1
    omega
theorem Got.stops {s : List UInt8} {l : List Nat} (h : Got s l) (hf : Ut.first (s.drop (Ut.encs l).length) = none) : Ut.dec s = (l, s.drop (Ut.encs l).length) := Ut.dec_of h.text h.lets hf
theorem walk_stop {s : List UInt8} {l : List Nat} (h : Got s l) (hf : Ut.first (s.drop (Ut.encs l).length) = none) (hlt : (Ut.encs l).length < s.length) : (Ut.dec s).1 = l ∧ walkAt s = ((Ut.encs l).length : Int) := by
  have e := h.stops hf
  refine ⟨by rw [e], ?_⟩
  have hc : Ut.clean s = false := by
    unfold Ut.clean
    rw [e]
    cases hd : s.drop (Ut.encs l).length with
    | nil =>
      have := congrArg List.length hd
      rw [List.length_drop, List.length_nil] at this
      omega
    | cons => rfl
  unfold walkAt Ut.stop
  rw [hc, e]; rfl
theorem walk_end {s : List UInt8} {l : List Nat} (h : Got s l) (hlt : s.length ≤ (Ut.encs l).length) : (Ut.dec s).1 = l ∧ walkAt s = -1 := by
  have hd : s.drop (Ut.encs l).length = [] := List.drop_eq_nil_of_le hlt
  have e := h.stops (by rw [hd]; exact Ut.first_nil)
  rw [hd] at e
  refine ⟨by rw [e], ?_⟩
  have hc : Ut.clean s = true := by unfold Ut.clean; rw [e]; rfl
  unfold walkAt
  rw [hc]; rfl


/-- the letters that are told: none, where there is a fault -/
def decL (l : List UInt8) : List Int := if Ut.clean l then asInts (Ut.dec l).1 else []
def decC (l : List UInt8) : Int := if Ut.clean l then 0 else 40
def decA (l : List UInt8) : Int := if Ut.clean l then 0 else (Ut.stop l : Int)
def flt (c a : Int) : Value := .agg #[.int .i64 c, .int .i64 a]
/-- what Decode answers -/
def DecPost (l : List UInt8) (w : World) (e : Ending) (w' : World) : Prop :=
  ∃ v, e = .returned (.tuple #[v, flt (decC l) (decA l)]) ∧ OwnI .i32 21 w.heap.size v (decL l) w' ∧ Below w.heap.size w w'
theorem dec_yes {l : List UInt8} (h : Ut.clean l = true) : decL l = asInts (Ut.dec l).1 ∧ decC l = 0 ∧ decA l = 0 ∧ walkAt l = -1 := by
  unfold decL decC decA walkAt
  rw [h]; exact ⟨rfl, rfl, rfl, rfl⟩
theorem dec_no {l : List UInt8} (h : Ut.clean l = false) : decL l = [] ∧ decC l = 40 ∧ decA l = (Ut.stop l : Int) ∧ walkAt l = (Ut.stop l : Int) := by
  unfold decL decC decA walkAt
  rw [h]; exact ⟨rfl, rfl, rfl, rfl⟩
theorem ret_dec {v : Value} {c a c' a' : Int} (hc : c = c') (ha : a = a') : Ending.returned (.tuple #[v, .agg #[.int .i64 c, .int .i64 a]]) = .returned (.tuple #[v, flt c' a']) := by rw [hc, ha]; rfl
theorem bcell {W w1 : World} (hb : Below W.heap.size W w1) : (∀ b o, b < W.heap.size → w1.cell? ⟨b, o, none⟩ = W.cell? ⟨b, o, none⟩) ∧ (∀ b o, b < W.heap.size → w1.frozen? ⟨b, o, none⟩ = W.frozen? ⟨b, o, none⟩) :=
  ⟨fun b o h => hb.cell (p := ⟨b, o, none⟩) h, fun b o h => hb.frozen (p := ⟨b, o, none⟩) h⟩
/-- a fault's place, as it has been laid -/
structure FltAt (w : World) (p : Nat) (c a : Int) : Prop where
  c0 : w.cell? ⟨p, 0, none⟩ = some (.int .i64 c)
  c1 : w.cell? ⟨p, 1, none⟩ = some (.int .i64 a)
  f0 : w.frozen? ⟨p, 0, none⟩ = false
  f1 : w.frozen? ⟨p, 1, none⟩ = false
theorem FltAt.mono {w w' : World} {p : Nat} {c a : Int} (h : FltAt w p c a) (hb : Below w.heap.size w w') : FltAt w' p c a := by
  have hp : p < w.heap.size := block_lt_of_cell h.c0
  obtain ⟨h1, h2⟩ := bcell hb
  exact ⟨by rw [h1 _ _ hp]; exact h.c0, by rw [h1 _ _ hp]; exact h.c1, by rw [h2 _ _ hp]; exact h.f0, by rw [h2 _ _ hp]; exact h.f1⟩
theorem own_two {E : TypeId} {w : World} {v x y : Value} {xs : List Int} {p : Nat} (h : OwnI .i32 E (p + 1) v xs w) : OwnI .i32 E p v xs ((w.setCell ⟨p, 0, none⟩ x).setCell ⟨p, 1, none⟩ y) :=
  ((h.set (Nat.lt_succ_self p)).set (Nat.lt_succ_self p)).base (Nat.le_succ p)

/-- where letters begin: nowhere, where there is a fault -/
def stL (l : List UInt8) : List Int := if Ut.clean l then asInts (Ut.places 0 (Ut.dec l).1) else []
def StPost (l : List UInt8) (w : World) (e : Ending) (w' : World) : Prop :=
  ∃ v, e = .returned (.tuple #[v, .bool (Ut.clean l)]) ∧ OwnI .i64 3 w.heap.size v (stL l) w' ∧ Below w.heap.size w w'
end Go.Proofs.Ytffjboddnjbepaa
