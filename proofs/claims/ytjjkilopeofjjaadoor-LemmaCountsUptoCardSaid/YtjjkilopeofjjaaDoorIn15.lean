/-
  What the laws of this seat are handed: lists of texts, spans, as they come in; what the package-level variables hold.
-/
import Derived.Test.YtjjkilopeofjjaaDoorCnt15
import Derived.Test.YtjjkilopeofjjaaDoorCards
import Derived.Test.YtjjkilopeofjjaaDoorTie
import Derived.SizedLaws
import Derived.Deep.Slices
import Derived.ProofKit
import Derived.ChangeSlices
import Derived.Lay
import Derived.Lib.LaidU8T
import Derived.Lib.LaidTab
import Derived.OpenShut
import Derived.Deep.DeepHandedRow
import Derived.Deep.DeepWitnessRowRef
import Derived.LaidMore
import Derived.Stop.LaidErr
import Derived.Lib.SmallJoins
import Derived.SevenTiedAt
set_option linter.unusedVariables false
set_option linter.unusedSimpArgs false
namespace Go.Proofs.YtjjkilopeofjjaaDoor
open Go.ChangeShapes Go.WideShapes Go.ChangeAt Go.RowKit

theorem own : ownKnob Tryd.prog.godebug = none := by kernel_rfl
theorem laidOut : laidOutB Tryd.prog = true := by kernel_rfl
theorem maxLen_of {W : World} (h : W.ShapedOpen Tryd.prog) : ∃ m, W.cell? ⟨1, 0, none⟩ = some (.int .i64 m) :=
  Go.Proofs.cell_of_shapedOpen_int (zero := #[.int .i64 0]) (t := 3) h (of_decide_eq_true (by kernel_rfl)) (by kernel_rfl) rfl (by kernel_rfl) (by kernel_rfl) Tryd.underlying3
theorem gTab : Tryd.prog.globalNamed "internal/strconv.uint64pow10" = some 0 := by kernel_rfl
theorem gTabType : (Tryd.prog.globals[0]?).map (·.type) = some 68 := by kernel_rfl
/-- the list that every row of this seat bears -/
def laidList : List (String × DataW Unit) := [("math/bits.deBruijn32tab", Rows.laid_math_bits_deBruijn32tab), ("math/bits.deBruijn64tab", Rows.laid_math_bits_deBruijn64tab), ("internal/strconv.uint64pow10", Rows.laid_internal_strconv_uint64pow10), ("unicode/utf8.acceptRanges", Rows.laid_unicode_utf8_acceptRanges), ("unicode/utf8.first", Rows.laid_unicode_utf8_first)]
theorem env_of_laid {W : World} (h : laidMetH Tryd.prog laidList W) (hsh : W.ShapedOpen Tryd.prog) : ∃ m, Env15 m W := by
  have h0 : laidMet Tryd.prog laidList W := by
    have e : (laidList.filter fun x => x.2.handleName?.isSome) = [] := by kernel_rfl
    unfold laidMetH at h
    rw [e] at h
    exact h
  have h2 := h0.tail.tail
  have tab : Lib.TabIs Tryd.prog W "internal/strconv.uint64pow10" .u64 Lib.pow10Tab :=
    Lib.tabIs_of_head (zs := Lib.pow10Tab) gTab gTabType Tryd.underlying68 Tryd.underlying40 (by kernel_rfl) (by kernel_rfl) h2
  obtain ⟨m, hm⟩ := maxLen_of hsh
  exact ⟨m, hm, tab⟩
theorem cStr13 : Tryd.prog.cellsOf 9 = 1 := by kernel_rfl
theorem cInt15 : Tryd.prog.cellsOf 3 = 1 := by kernel_rfl
theorem uSp15 : Tryd.prog.underlying 24 = some (.struct (Tryd.prog.fieldsOf 24)) := by kernel_rfl
theorem cSp15 : Tryd.prog.cellsOf 24 = 2 := by kernel_rfl
theorem two_fields13 {fs : Array Field} {a b : TypeId × Nat} (h : fs.toList.map (fun f => (f.type, f.offset)) = [a, b]) : ∃ f0 f1 : Field, fs = #[f0, f1] ∧ (f0.type = a.1 ∧ f0.offset = a.2) ∧ (f1.type = b.1 ∧ f1.offset = b.2) := by
  obtain ⟨l⟩ := fs
  have hl : l.length = 2 := by simpa using congrArg List.length h
  match l, hl with
  | [x, y], _ =>
    simp only [List.map_cons, List.map_nil, List.cons.injEq, and_true] at h
    obtain ⟨rfl, rfl⟩ := h
    exact ⟨x, y, rfl, ⟨rfl, rfl⟩, ⟨rfl, rfl⟩⟩
theorem str_of13 (s : ByteArray) : str s.data.toList = s := rfl
section
variable {H : Type} {enc : TypeId × Value → H} {W : World} {base : Nat} {held : Bool} {spare : Nat → Bool}
def txD {H : Type} (s : List UInt8) : DataW H := .lit (.string s)
theorem tx_open {fuel : Nat} {cs : List Value} {x : DataW H × List MemPlace} (h : DataW.trod enc Tryd.prog W base spare held fuel 9 cs = some x) : ∃ s : List UInt8, cs = txC s ∧ x.1 = txD s := by
  obtain ⟨S, rfl, rfl, _⟩ := DataW.trod_string Tryd.underlying9 h
  exact ⟨S.data.toList, rfl, rfl⟩
/-- a slice of records, as it comes in -/
theorem recs_open13 {α : Type} [Inhabited α] {T S : TypeId} (hS : Tryd.prog.underlying S = some (.slice T)) {k : Nat} (hk : Tryd.prog.cellsOf T = k) (hk0 : 0 < k) {f : α → List Value} {D : α → DataW H} (hf : ∀ x, (f x).length = k)
    (each : ∀ (fuel : Nat) (cs : List Value) (x : DataW H × List MemPlace), DataW.trod enc Tryd.prog W base spare held fuel T cs = some x → ∃ a, cs = f a ∧ x.1 = D a)
    {fuel : Nat} {cs : List Value} {x : DataW H × List MemPlace} (h : DataW.trod enc Tryd.prog W base spare held fuel S cs = some x) :
    ∃ v l, cs = [v] ∧ SlcAt f k W v l ∧ ∀ a ∈ l, ∃ els rst, x.1 = .slice els rst ∧ D a ∈ els := by
  rcases DataW.trod_slice hS h with ⟨rfl, rfl⟩ | ⟨a, len, cap, elems, rest, n, hn, rfl, rfl, _, hl, hm, hlen, hel, _, _⟩
  · exact ⟨_, [], rfl, slc_none _ _ _, fun a ha => by cases ha⟩
  · have each2 : ∀ i, i < len → ∃ y : α, (∀ j, j < k → W.cell? ((a.add (i * k)).add j) = (f y)[j]?) ∧ D y ∈ elems.map (·.1) := fun i hi => by
      have h1 := hel i hi
      rw [hk] at h1
      have hlt : i < elems.length := by omega
      rw [List.getElem?_eq_getElem hlt] at h1
      obtain ⟨cs', hc, hy⟩ := Option.bind_eq_some_iff.1 h1
      obtain ⟨y, rfl, hD⟩ := each _ _ _ hy
      obtain ⟨_, _, hcells⟩ := World.cells?_some hc
      exact ⟨y, fun j hj => hcells j hj, by rw [← hD]; exact List.mem_map_of_mem (List.getElem_mem hlt)⟩
    obtain ⟨F, hF⟩ := Go.Deep.choose_lt each2
    have hln : ((List.range len).map F).length = len := by simp
    refine ⟨_, (List.range len).map F, rfl, ⟨⟨some a, cap, by rw [hln], by rw [hln]; exact hl⟩, by rw [hln]; omega, fun hp => ?_⟩, fun y hy => ⟨_, _, rfl, ?_⟩⟩
    · rw [hln] at hp
      obtain ⟨b, off, spot⟩ := a
      have h00 := (hF 0 (by omega)).1 0 hk0
      have hspot : spot = none := by
        have hu : ∃ u, (f (F 0))[0]? = some u := ⟨_, List.getElem?_eq_getElem (by rw [hf]; exact hk0)⟩
        obtain ⟨u, hu⟩ := hu
        rw [hu] at h00
        have h01 : W.cell? ⟨b, off, spot⟩ = some u := by simpa [Addr.add] using h00
        exact World.cell?_spot h01
      subst hspot
      refine ⟨b, off, cap, by rw [hln], fun i t hi j u hj => ?_⟩
      have hil : i < len := by
        rcases Nat.lt_or_ge i len with h' | h'
        · exact h'
        · rw [List.getElem?_eq_none (by rw [hln]; exact h')] at hi; cases hi
      have hti : F i = t := by
        rw [List.getElem?_map, List.getElem?_range hil] at hi
        exact Option.some.inj hi
      have q := (hF i hil).1 j (by rw [← hf t]; exact (List.getElem?_eq_some_iff.1 hj).1)
      rw [hti, hj, Go.WideShapes.add_plain, Go.WideShapes.add_plain] at q
      exact q
    · obtain ⟨i, hi, rfl⟩ := List.mem_map.1 hy
      exact (hF i (List.mem_range.1 hi)).2
theorem txs_in {v : Value} {d : DataW H} {p : List MemPlace} (h : DataW.Trod enc Tryd.prog W base spare held 22 v d p) (hs : v.cells.toList = [v]) : ∃ l, TxsAt W v l ∧ ∀ a ∈ l, ∃ els rst, d = .slice els rst ∧ txD a ∈ els := by
  obtain ⟨fuel, hf⟩ := h
  rw [hs] at hf
  obtain ⟨v', a, e, h1, h2⟩ := recs_open13 Tryd.underlying22 cStr13 (by decide) (f := txC) (D := txD) txC_len (fun fuel cs x h => tx_open h) hf
  injection e with e1
  subst e1
  exact ⟨a, h1, h2⟩
theorem bulk_mem {d : DataW H} : ∀ ds : List (DataW H), d ∈ ds → Rows.uptoBulk d ≤ Rows.uptoBulkAll ds
  | [], h => by cases h
  | c :: r, h => by
    rw [Rows.uptoBulkAll]
    rcases List.mem_cons.1 h with rfl | h
    · omega
    · have := bulk_mem r h; omega
theorem txs_bulk {d : DataW H} (hu : Rows.uptoBulk d ≤ 1048576) {l : List (List UInt8)} (hl : ∀ a ∈ l, ∃ els rst, d = .slice els rst ∧ txD a ∈ els) : TxSm l := fun x hx => by
  obtain ⟨els, rst, rfl, hm⟩ := hl x hx
  have h1 := bulk_mem els hm
  rw [Rows.uptoBulk] at hu
  have h2 : Rows.uptoBulk (txD (H := H) x) = x.length + 1 := by unfold txD; rw [Rows.uptoBulk]
  omega
set_option maxRecDepth 100000 in
theorem span_in {v : Value} {d : DataW H} {p : List MemPlace} (h : DataW.Trod enc Tryd.prog W base spare held 24 v d p) {cs : Array Value} (hv : v = .agg cs) : ∃ a b : Int, v = .agg #[.int .i64 a, .int .i64 b] := by
  obtain ⟨fuel, hf⟩ := h
  subst hv
  obtain ⟨f0, f1, hfs, ⟨t0, o0⟩, ⟨t1, o1⟩⟩ := two_fields13 (show (Tryd.prog.fieldsOf 24).toList.map (fun f => (f.type, f.offset)) = [(3, 0), (3, 1)] by kernel_rfl)
  obtain ⟨xs, m, hm', hxe, hcl, hxl, hxi⟩ := DataW.trod_struct uSp15 hf
  have hcs : (Value.agg cs).cells.toList = cs.toList := rfl
  rw [hcs] at hcl hxi
  rw [hfs] at hxl hxi
  rw [cSp15] at hcl
  obtain ⟨l⟩ := cs
  simp only [] at hcl hxi
  match l, hcl, xs, hxl with
  | [v0, v1], _, [y0, y1], _ =>
    have g0 := hxi 0 f0 rfl
    have g1 := hxi 1 f1 rfl
    rw [t0, o0, cInt15] at g0
    rw [t1, o1, cInt15] at g1
    simp at g0 g1
    obtain ⟨a, e0, _, w0⟩ := DataW.trod_int Tryd.underlying3 g0
    obtain ⟨b, e1, _, w1⟩ := DataW.trod_int Tryd.underlying3 g1
    simp at e0 e1
    subst e0 e1
    exact ⟨a, b, rfl⟩
end
/-! ### a law that answers true and leaves what it was handed as it was -/
section
variable {H : Type} {enc : TypeId × Value → H} {P : Program}
/-- the arguments read behind the call as they did before -/
theorem args_kept (hl : laidOutB P = true) {W W' : World} (hb : Below W.heap.size W W') : ∀ (ts : List TypeId) (vs : List Value) (ds : List (DataW H)) (ps : List MemPlace), (∀ t ∈ ts, P.readableRec t = true ∧ t < P.types.size) →
    DataW.TrodAll enc P W 0 (fun _ => true) true ts vs ds ps → (∀ x ∈ ps, x.block < W.heap.size) → DataW.TrodAll enc P W' 0 (fun b => decide (b < W.heap.size)) true ts vs ds ps
  | [], vs, ds, ps, _, h, _ => by
    obtain ⟨rfl, rfl, rfl⟩ := trodAll_nil h
    exact trodAll_mk0
  | t :: ts, vs, ds, ps, hr, h, hlt => by
    obtain ⟨v, vs', d, ds', p, q, rfl, rfl, rfl, h0, r0⟩ := trodAll_cons h
    have h1 := hr t (List.mem_cons_self ..)
    exact trodAll_cons_mk (Below.trod hl h1.1 h1.2 h0 hb (fun x hx => hlt x (List.mem_append_left _ hx))) (args_kept hl hb ts vs' ds' q (fun t ht => hr t (List.mem_cons_of_mem _ ht)) r0 (fun x hx => hlt x (List.mem_append_right _ hx)))
end
end Go.Proofs.YtjjkilopeofjjaaDoor
