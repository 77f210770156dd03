/-
  What the laws of this seat are handed, and how a law's answer closes its statement: the same for all laws of this seat.
-/
import Derived.Test.YtimpadooknclkaaRows
import Derived.Test.YtimpadooknclkaaToks
import Derived.Test.YtimpadooknclkaaNodesIn
import Derived.Test.YtimpadooknclkaaCalls6
import Derived.Test.YtimpadooknclkaaFixed6
import Derived.Test.YtimpadooknclkaaPrints
import Derived.Deep.Slices
import Derived.Lay
import Derived.Lib.LaidU8T
import Derived.Lib.LaidTab
import Derived.ProofKit
import Derived.OpenShut
import Derived.Deep.DeepHandedRow
import Derived.Deep.DeepWitnessRowRef
import Derived.LaidMore
import Derived.Stop.LaidErr
import Derived.Lib.SmallJoins
import Derived.ChangeSlices
import Derived.SevenTiedAt
set_option linter.unusedVariables false
set_option linter.unusedSimpArgs false
namespace Go.Proofs.Ytimpadooknclkaa
open Go.ChangeShapes Go.WideShapes Go.ChangeAt Go.RowKit

theorem own : ownKnob Try.prog.godebug = none := by kernel_rfl
theorem laidOut : laidOutB Try.prog = true := by kernel_rfl

/-- the list that every row of this seat bears -/
def laidList : List (String × DataW Unit) := []
theorem tok_fields : ∃ f0 f1 f2 : Field, Try.prog.fieldsOf 36 = #[f0, f1, f2] ∧ (f0.type = 3 ∧ f0.offset = 0) ∧ (f1.type = 9 ∧ f1.offset = 1) ∧ (f2.type = 3 ∧ f2.offset = 2) := by
  have h := fTok
  generalize Try.prog.fieldsOf 36 = fs at h
  obtain ⟨l⟩ := fs
  have hl : l.length = 3 := by simpa using congrArg List.length h
  match l, hl with
  | [x, y, z], _ =>
    simp only [List.map_cons, List.map_nil, List.cons.injEq, Prod.mk.injEq] at h
    obtain ⟨⟨_, h1, h2⟩, ⟨_, h3, h4⟩, ⟨_, h5, h6⟩, _⟩ := h
    exact ⟨x, y, z, rfl, ⟨h1, h2⟩, ⟨h3, h4⟩, ⟨h5, h6⟩⟩
theorem cellsTok : Try.prog.cellsOf 36 = 3 := by kernel_rfl
theorem cellsInt5 : Try.prog.cellsOf 3 = 1 := by kernel_rfl
theorem cellsStr5 : Try.prog.cellsOf 9 = 1 := by kernel_rfl
/-- what a token reads as -/
def tokD {H : Type} (t : Tok) : DataW H := .agg [.lit (.int .i64 t.kind), .lit (.string t.text), .lit (.int .i64 t.loc)]
theorem bulk_toks {H : Type} (ts : List Tok) : ts.length ≤ Rows.uptoBulkAll (ts.map (tokD (H := H))) := by
  induction ts with
  | nil => exact Nat.zero_le _
  | cons t r ih =>
    simp only [List.map_cons, List.length_cons, tokD, Rows.uptoBulkAll, Rows.uptoBulk] at ih ⊢
    omega
theorem tok_open {H : Type} {enc : TypeId × Value → H} {W : World} {base : Nat} {held : Bool} {spare : Nat → Bool} {fuel : Nat} {cs : List Value} {x : DataW H × List MemPlace}
    (h : DataW.trod enc Try.prog W base spare held fuel 36 cs = some x) : ∃ t : Tok, cs = tokCells t ∧ x.1 = tokD t := by
  obtain ⟨f0, f1, f2, hf, ⟨t0, o0⟩, ⟨t1, o1⟩, ⟨t2, o2⟩⟩ := tok_fields
  obtain ⟨xs, n, _, rfl, hl, hx, hi⟩ := DataW.trod_struct uTok h
  rw [hf] at hx hi
  rw [cellsTok] at hl
  match cs, hl, xs, hx with
  | [v0, v1, v2], _, [y0, y1, y2], _ =>
    have g0 := hi 0 f0 rfl
    have g1 := hi 1 f1 rfl
    have g2 := hi 2 f2 rfl
    rw [t0, o0, cellsInt5] at g0
    rw [t1, o1, cellsStr5] at g1
    rw [t2, o2, cellsInt5] at g2
    simp at g0 g1 g2
    obtain ⟨K, e0, rfl, _⟩ := DataW.trod_int Try.underlying3 g0
    obtain ⟨S, e1, rfl, _⟩ := DataW.trod_string Try.underlying9 g1
    obtain ⟨A, e2, rfl, _⟩ := DataW.trod_int Try.underlying3 g2
    simp at e0 e1 e2
    subst e0 e1 e2
    exact ⟨⟨K, S.data.toList, A⟩, by unfold tokCells; simp only []; rw [str_of], rfl⟩
instance : Inhabited Tok := ⟨⟨0, [], 0⟩⟩
/-- tokens, as they come in; how long they are hangs on the bulk -/
theorem toks_in {H : Type} {enc : TypeId × Value → H} {W : World} {base : Nat} {held : Bool} {spare : Nat → Bool} {v : Value} {d : DataW H} {p : List MemPlace}
    (h : DataW.Trod enc Try.prog W base spare held 22 v d p) (hs : v.cells.toList = [v]) :
    ∃ ts : List Tok, ToksAt W v ts ∧ ts.length ≤ Rows.uptoBulk d := by
  obtain ⟨fuel, hf⟩ := h
  rw [hs] at hf
  rcases Go.Deep.open_slice Try.underlying22 hf with ⟨hc, hx⟩ | ⟨a, len, cap, m, n, Dx, Pl, hc, _, hl, hm, hmm, hx, hcell⟩
  · injection hc with hc _
    exact ⟨[], by rw [hc]; exact toks_none _, Nat.zero_le _⟩
  · injection hc with hc _
    injection hx with hd _
    have hlm : len ≤ m := by rw [hmm]; split <;> omega
    have each : ∀ i, i < len → ∃ t : Tok, (∀ j, j < 3 → W.cell? ((a.add (i * 3)).add j) = (tokCells t)[j]?) ∧ Dx i = tokD t := fun i hi => by
      obtain ⟨cs', h1, h2⟩ := hcell i (by omega)
      rw [cellsTok] at h1
      obtain ⟨_, _, h3⟩ := World.cells?_some h1
      obtain ⟨t, ht, hD⟩ := tok_open h2
      exact ⟨t, fun j hj => by rw [h3 j hj, ht], hD⟩
    obtain ⟨T, hT⟩ := Go.Deep.choose_lt each
    have hln : ((List.range len).map T).length = len := by simp
    refine ⟨(List.range len).map T, ⟨⟨some a, cap, by rw [hc, hln], by rw [hln]; exact hl⟩, by rw [hln]; omega, fun hp => ?_⟩, ?_⟩
    · rw [hln] at hp
      obtain ⟨b, off, spot⟩ := a
      have h00 := (hT 0 (by omega)).1 0 (by omega)
      have hspot : spot = none := by
        have h01 : W.cell? ⟨b, off, spot⟩ = some (.int .i64 (T 0).kind) := by simpa [Addr.add, tokCells] using h00
        exact World.cell?_spot h01
      subst hspot
      refine ⟨b, off, cap, by rw [hc, hln], fun i t hi => ?_⟩
      have hil : i < len := by
        rcases Nat.lt_or_ge i len with h' | h'
        · exact h'
        · rw [List.getElem?_eq_none (by rw [hln]; exact h')] at hi; cases hi
      have hti : T i = t := by
        rw [List.getElem?_map, List.getElem?_range hil] at hi
        exact Option.some.inj hi
      have q := (hT i hil).1
      rw [hti] at q
      have q0 := q 0 (by omega)
      have q1 := q 1 (by omega)
      have q2 := q 2 (by omega)
      rw [Go.WideShapes.add_plain, Go.WideShapes.add_plain] at q0 q1 q2
      exact ⟨q0, q1, q2⟩
    · rw [hd]
      have e : (List.range len).map Dx = ((List.range len).map T).map tokD := by
        rw [List.map_map]
        exact List.map_congr_left fun i hi => (hT i (List.mem_range.1 hi)).2
      rw [e]
      have := bulk_toks (H := H) ((List.range len).map T)
      simp only [Rows.uptoBulk]
      omega

/-! ### a law that answers true and leaves what it was handed as it was -/
section
variable {H : Type} {enc : TypeId × Value → H} {P : Program}
/-- the arguments read behind the call as they did before -/
theorem args_kept (hl : laidOutB P = true) {W W' : World} (hb : Below W.heap.size W W') : ∀ (ts : List TypeId) (vs : List Value) (ds : List (DataW H)) (ps : List MemPlace), (∀ t ∈ ts, P.readableRec t = true ∧ t < P.types.size) →
    DataW.TrodAll enc P W 0 (fun _ => true) true ts vs ds ps → (∀ x ∈ ps, x.block < W.heap.size) → DataW.TrodAll enc P W' 0 (fun b => decide (b < W.heap.size)) true ts vs ds ps
  | [], vs, ds, ps, _, h, _ => by
    obtain ⟨rfl, rfl, rfl⟩ := trodAll_nil h
    exact trodAll_mk0
  | t :: ts, vs, ds, ps, hr, h, hlt => by
    obtain ⟨v, vs', d, ds', p, q, rfl, rfl, rfl, h0, r0⟩ := trodAll_cons h
    have h1 := hr t (List.mem_cons_self ..)
    exact trodAll_cons_mk (Below.trod hl h1.1 h1.2 h0 hb (fun x hx => hlt x (List.mem_append_left _ hx))) (args_kept hl hb ts vs' ds' q (fun t ht => hr t (List.mem_cons_of_mem _ ht)) r0 (fun x hx => hlt x (List.mem_append_right _ hx)))
end
end Go.Proofs.Ytimpadooknclkaa
