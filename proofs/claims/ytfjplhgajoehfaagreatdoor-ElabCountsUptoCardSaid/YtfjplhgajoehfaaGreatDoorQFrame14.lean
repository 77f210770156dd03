/-
  What the rows' lists of package-level variables give the walks, and how a law's answer closes its statement: the same for all laws of this seat.
  A side and a note, as they come in.
-/
import Derived.Test.YtfjplhgajoehfaaGreatDoorCards
import Derived.Test.YtfjplhgajoehfaaGreatDoorTie
import Derived.LaidLaws
import Derived.LaidHandle
import Derived.SizedLaws
import Derived.Deep.Slices
import Derived.ProofKit
import Derived.ChangeSlices
import Derived.Lay
import Derived.Lib.LaidTab
import Derived.Lib.LaidU8T
import Derived.OpenShut
import Derived.Deep.DeepHandedRow
import Derived.Deep.DeepWitnessRowRef
import Derived.LaidMore
import Derived.Stop.LaidErr
import Derived.Lib.SmallJoins
import Derived.SevenTiedAt
import Derived.Test.YtfjplhgajoehfaaGreatDoorQFix14
import Derived.Test.YtfjplhgajoehfaaGreatDoorQApp13
set_option linter.unusedVariables false
set_option linter.unusedSimpArgs false
namespace Go.Proofs.YtfjplhgajoehfaaGreatDoor
open Go.ChangeShapes Go.WideShapes Go.ChangeAt Go.RowKit

theorem own : ownKnob Tryz.prog.godebug = none := by kernel_rfl
theorem laidOut : laidOutB Tryz.prog = true := by kernel_rfl
theorem gTab : Tryz.prog.globalNamed "internal/strconv.uint64pow10" = some 4 := by kernel_rfl
theorem gTabType : (Tryz.prog.globals[4]?).map (·.type) = some 180 := by kernel_rfl
theorem gSyn : Tryz.prog.globalNamed "strconv.ErrSyntax" = some 2 := by kernel_rfl
theorem gSynType : (Tryz.prog.globals[2]?).map (·.type) = some 72 := by kernel_rfl
theorem gRng : Tryz.prog.globalNamed "strconv.ErrRange" = some 3 := by kernel_rfl
theorem gRngType : (Tryz.prog.globals[3]?).map (·.type) = some 72 := by kernel_rfl
theorem gSer : Tryz.prog.globalNamed "variorum/elab.seriesNames" = some 0 := by kernel_rfl
theorem gSerType : (Tryz.prog.globals[0]?).map (·.type) = some 93 := by kernel_rfl
theorem star : "*" ++ "errors.errorString" = "*errors.errorString" := by decide
theorem rowErr (u : TypeId) (h : Tryz.prog.typeName? 3 u = some "*errors.errorString") : u = 175 :=
  typeName_ptr_named (nm := "errors.errorString") (by rw [star]; kernel_rfl) (by kernel_rfl) (by decide) u (by rw [star]; exact h)
theorem cellsErr : Tryz.prog.cellsOf 177 = 1 := by kernel_rfl
theorem cellsStr : Tryz.prog.cellsOf 9 = 1 := by kernel_rfl
theorem cellsSer : Tryz.prog.cellsOf 93 = 11 := by kernel_rfl
theorem et : Tryz.prog.globalNamed "errors.errorType" = some 1 := by kernel_rfl
theorem rt : (Tryz.prog.cutTypes.find? (·.1 == "internal/reflectlite.rtype")).map (·.2) = some 120 := by kernel_rfl
theorem typesSize : Tryz.prog.types.size = 215 := by kernel_rfl
theorem oneRow : ((List.range 215).filter fun t => Tryz.prog.rowNamed t [101, 114, 114, 111, 114]) = [72] := by kernel_rfl

/-- the list that every row of this seat bears -/
def laidList : List (String × DataW Unit) := [("math/bits.deBruijn32tab", Rows.laid_math_bits_deBruijn32tab), ("math/bits.deBruijn64tab", Rows.laid_math_bits_deBruijn64tab), ("internal/strconv.uint64pow10", Rows.laid_internal_strconv_uint64pow10), ("errors.errorType", Rows.laid_errors_errorType), ("strconv.ErrRange", Rows.laid_strconv_ErrRange), ("strconv.ErrSyntax", Rows.laid_strconv_ErrSyntax), ("variorum/elab.seriesNames", Rows.laid_variorum_elab_seriesNames)]
def dataList : List (String × DataW Unit) := [("math/bits.deBruijn32tab", Rows.laid_math_bits_deBruijn32tab), ("math/bits.deBruijn64tab", Rows.laid_math_bits_deBruijn64tab), ("internal/strconv.uint64pow10", Rows.laid_internal_strconv_uint64pow10), ("strconv.ErrRange", Rows.laid_strconv_ErrRange), ("strconv.ErrSyntax", Rows.laid_strconv_ErrSyntax), ("variorum/elab.seriesNames", Rows.laid_variorum_elab_seriesNames)]
theorem laid_parts {W : World} (h : laidMetH Tryz.prog laidList W) : laidMet Tryz.prog dataList W ∧ handlesMet Tryz.prog [("errors.errorType", Rows.laid_errors_errorType)] W := h
theorem errTy_of_laid {W : World} (h : laidMetH Tryz.prog laidList W) : ErrTy W := by
  obtain ⟨name, u, ty, e1, e2, e3, e4, e5⟩ := (laid_parts h).2 _ (List.mem_singleton.2 rfl)
  have en : name = [101, 114, 114, 111, 114] := (Option.some.inj e1).symm
  subst en
  obtain rfl := Option.some.inj (rt.symm.trans e2)
  have hm : ty ∈ (List.range 215).filter fun t => Tryz.prog.rowNamed t [101, 114, 114, 111, 114] := List.mem_filter.2 ⟨List.mem_range.2 (by rw [← typesSize]; exact e3), e4⟩
  rw [oneRow] at hm
  obtain rfl := List.mem_singleton.1 hm
  have hh : typeHandle Tryz.prog 72 = hE := by kernel_rfl
  rw [hh] at e5
  have := World.var?_cell et e5 0
  unfold ErrTy
  simpa using this
theorem var_cells {W : World} {n : String} {g : Nat} {cs : Array Value} (hg : Tryz.prog.globalNamed n = some g) (h : W.var? Tryz.prog n = some cs) (j : Nat) (u : Value) (hj : cs[j]? = some u) : W.cell? ⟨g, j, none⟩ = some u := by
  unfold World.var? at h
  rw [hg, Option.bind_some] at h
  split at h
  · rename_i c T fr hh
    injection h with h
    subst h
    unfold World.cell?
    simp only [hh]
    exact hj
  · cases h
theorem ser_is : (Rows.laid_variorum_elab_seriesNames : DataW Unit) = .agg (El.seriesL.map fun s => .lit (.string s)) := by kernel_rfl
theorem ser_of_reads {W : World} (h : Lib.VarReads Tryz.prog W "variorum/elab.seriesNames" Rows.laid_variorum_elab_seriesNames) : SerAt W := by
  obtain ⟨g, t, cs, fuel, p, hg, ht, hv, hd⟩ := h
  obtain rfl := Option.some.inj (gSer.symm.trans hg)
  obtain rfl := Option.some.inj (gSerType.symm.trans ht)
  obtain ⟨xs, m, rfl, hx, hl, hxl, hall⟩ := DataW.trod_array Tryz.underlying93 hd
  rw [cellsSer] at hl
  rw [cellsStr] at hall
  rw [ser_is] at hx
  have hx1 := congrArg Prod.fst hx
  simp only [DataW.agg.injEq] at hx1
  intro k hk
  have hkx : k < xs.length := by omega
  obtain ⟨S, e0, e1, _⟩ := DataW.trod_string Tryz.underlying9 ((hall k hk).trans (List.getElem?_eq_getElem hkx))
  have hg1 : (xs.map (·.1))[k]? = some (xs[k].1) := by rw [List.getElem?_map, List.getElem?_eq_getElem hkx]; rfl
  rw [← hx1, List.getElem?_map] at hg1
  have hsl : El.seriesL.length = 11 := by rfl
  rw [List.getElem?_eq_getElem (by rw [hsl]; exact hk)] at hg1
  have hg2 := Option.some.inj hg1
  have e2 : xs[k].1 = .lit (.string S.data.toList) := by rw [e1]
  rw [e2] at hg2
  simp only [DataW.lit.injEq, Lit.string.injEq] at hg2
  have hc : cs[k]? = some (.string S) := by
    have h1 : (List.take 1 (List.drop (k * 1) cs.toList))[0]? = some (.string S) := by rw [e0]; rfl
    rw [List.getElem?_take, if_pos (by omega), List.getElem?_drop, Nat.mul_one, Nat.add_zero] at h1
    rw [← Array.getElem?_toList]
    exact h1
  have := var_cells gSer hv k _ hc
  rw [this, List.getD_eq_getElem?_getD, List.getElem?_eq_getElem (by rw [hsl]; exact hk)]
  show some (Value.string S) = some (.string (str (El.seriesL[k]'(by rw [hsl]; exact hk))))
  rw [hg2, str_of]
/-- WHAT A ROW's LIST GIVES THE WALKS. -/
theorem env_of_laid {W : World} (h : laidMetH Tryz.prog laidList W) (hsh : W.ShapedOpen Tryz.prog) : Envs14 W := by
  have h0 := (laid_parts h).1
  have h1 := h0.tail
  have h2 := h1.tail
  have h3 := h2.tail
  have h4 := h3.tail
  have tab : Lib.TabIs Tryz.prog W "internal/strconv.uint64pow10" .u64 Lib.pow10Tab :=
    Lib.tabIs_of_head (zs := Lib.pow10Tab) gTab gTabType Tryz.underlying180 Tryz.underlying161 (by kernel_rfl) (by kernel_rfl) h2
  obtain ⟨a, s, hr, _⟩ := laid_sentinel h3 gRng gRngType Tryz.underlying72 rowErr Tryz.underlying175 Tryz.underlying177 rfl rfl Tryz.underlying9 cellsErr cellsStr
  obtain ⟨a', s', hs, _⟩ := laid_sentinel h4 gSyn gSynType Tryz.underlying72 rowErr Tryz.underlying175 Tryz.underlying177 rfl rfl Tryz.underlying9 cellsErr cellsStr
  exact ⟨⟨⟨_, _, hs⟩, ⟨_, _, hr⟩, tab⟩, ser_of_reads (Lib.laidMet.reads h0 (.tail _ (.tail _ (.tail _ (.tail _ (.tail _ (.head _))))))), errTy_of_laid h⟩

/-! ### a law that answers true and leaves what it was handed as it was -/
section
variable {H : Type} {enc : TypeId × Value → H} {P : Program}
/-- the arguments read behind the call as they did before -/
theorem args_kept (hl : laidOutB P = true) {W W' : World} (hb : Below W.heap.size W W') : ∀ (ts : List TypeId) (vs : List Value) (ds : List (DataW H)) (ps : List MemPlace), (∀ t ∈ ts, P.readableRec t = true ∧ t < P.types.size) →
    DataW.TrodAll enc P W 0 (fun _ => true) true ts vs ds ps → (∀ x ∈ ps, x.block < W.heap.size) → DataW.TrodAll enc P W' 0 (fun b => decide (b < W.heap.size)) true ts vs ds ps
  | [], vs, ds, ps, _, h, _ => by
    obtain ⟨rfl, rfl, rfl⟩ := trodAll_nil h
    exact trodAll_mk0
  | t :: ts, vs, ds, ps, hr, h, hlt => by
    obtain ⟨v, vs', d, ds', p, q, rfl, rfl, rfl, h0, r0⟩ := trodAll_cons h
    have h1 := hr t (List.mem_cons_self ..)
    exact trodAll_cons_mk (Below.trod hl h1.1 h1.2 h0 hb (fun x hx => hlt x (List.mem_append_left _ hx))) (args_kept hl hb ts vs' ds' q (fun t ht => hr t (List.mem_cons_of_mem _ ht)) r0 (fun x hx => hlt x (List.mem_append_right _ hx)))
end
end Go.Proofs.YtfjplhgajoehfaaGreatDoor

set_option linter.unusedVariables false
set_option linter.unusedSimpArgs false
namespace Go.Proofs.YtfjplhgajoehfaaGreatDoor
open Go.ChangeShapes Go.WideShapes Go.ChangeAt Go.RowKit

theorem cInt14 : Tryz.prog.cellsOf 3 = 1 := by kernel_rfl
theorem cChs14 : Tryz.prog.cellsOf 37 = 1 := by kernel_rfl
theorem cTxs14 : Tryz.prog.cellsOf 38 = 1 := by kernel_rfl
theorem cNts14 : Tryz.prog.cellsOf 39 = 1 := by kernel_rfl
theorem cSds14 : Tryz.prog.cellsOf 42 = 1 := by kernel_rfl
theorem uSide14 : Tryz.prog.underlying 41 = some (.struct (Tryz.prog.fieldsOf 41)) := by kernel_rfl
theorem cSide14 : Tryz.prog.cellsOf 41 = 3 := by kernel_rfl
theorem fSide14 : (Tryz.prog.fieldsOf 41).toList.map (fun f => (f.type, f.offset)) = [(37, 0), (38, 1), (39, 2)] := by kernel_rfl
theorem tSide14 : ((Tryz.prog.fieldsOf 41).toList.map (·.type)) = [37, 38, 39] := by kernel_rfl
theorem uNote14 : Tryz.prog.underlying 44 = some (.struct (Tryz.prog.fieldsOf 44)) := by kernel_rfl
theorem cNote14 : Tryz.prog.cellsOf 44 = 5 := by kernel_rfl
theorem fNote14 : (Tryz.prog.fieldsOf 44).toList.map (fun f => (f.type, f.offset)) = [(3, 0), (3, 1), (3, 2), (42, 3), (3, 4)] := by kernel_rfl
theorem bytesTx14 : Tryz.prog.bytesOf 9 = 16 := by kernel_rfl
theorem fields14_3 {fs : Array Field} {a b c : TypeId × Nat} (h : fs.toList.map (fun f => (f.type, f.offset)) = [a, b, c]) : ∃ f0 f1 f2 : Field, fs = #[f0, f1, f2] ∧ (f0.type = a.1 ∧ f0.offset = a.2) ∧ (f1.type = b.1 ∧ f1.offset = b.2) ∧ (f2.type = c.1 ∧ f2.offset = c.2) := by
  obtain ⟨l⟩ := fs
  have hl : l.length = 3 := by simpa using congrArg List.length h
  match l, hl with
  | [x, y, z], _ =>
    simp only [List.map_cons, List.map_nil, List.cons.injEq, and_true] at h
    obtain ⟨rfl, rfl, rfl⟩ := h
    exact ⟨x, y, z, rfl, ⟨rfl, rfl⟩, ⟨rfl, rfl⟩, ⟨rfl, rfl⟩⟩
theorem fields14_5 {fs : Array Field} {a b c d e : TypeId × Nat} (h : fs.toList.map (fun f => (f.type, f.offset)) = [a, b, c, d, e]) : ∃ f0 f1 f2 f3 f4 : Field, fs = #[f0, f1, f2, f3, f4] ∧ (f0.type = a.1 ∧ f0.offset = a.2) ∧ (f1.type = b.1 ∧ f1.offset = b.2) ∧ (f2.type = c.1 ∧ f2.offset = c.2) ∧ (f3.type = d.1 ∧ f3.offset = d.2) ∧ (f4.type = e.1 ∧ f4.offset = e.2) := by
  obtain ⟨l⟩ := fs
  have hl : l.length = 5 := by simpa using congrArg List.length h
  match l, hl with
  | [x, y, z, u, v], _ =>
    simp only [List.map_cons, List.map_nil, List.cons.injEq, and_true] at h
    obtain ⟨rfl, rfl, rfl, rfl, rfl⟩ := h
    exact ⟨x, y, z, u, v, rfl, ⟨rfl, rfl⟩, ⟨rfl, rfl⟩, ⟨rfl, rfl⟩, ⟨rfl, rfl⟩, ⟨rfl, rfl⟩⟩
theorem wf_range14 {n : Int} (h : (Lit.int .i64 n).wf = true) : -9223372036854775808 ≤ n ∧ n ≤ 9223372036854775807 := by
  unfold Lit.wf at h
  simp only [Bool.and_eq_true, decide_eq_true_eq] at h
  have e1 : IntKind.min .i64 = -9223372036854775808 := by decide
  have e2 : IntKind.max .i64 = 9223372036854775807 := by decide
  rw [e1, e2] at h
  exact h
section
variable {H : Type} {enc : TypeId × Value → H} {W : World} {base : Nat} {held : Bool} {spare : Nat → Bool}
def txD {H : Type} (s : List UInt8) : DataW H := .lit (.string s)
theorem tx_open {fuel : Nat} {cs : List Value} {x : DataW H × List MemPlace} (h : DataW.trod enc Tryz.prog W base spare held fuel 9 cs = some x) : ∃ s : List UInt8, cs = txC s ∧ x.1 = txD s := by
  obtain ⟨S, rfl, rfl, _⟩ := DataW.trod_string Tryz.underlying9 h
  exact ⟨S.data.toList, rfl, rfl⟩
theorem slice_is14 {T S : TypeId} (hS : Tryz.prog.underlying S = some (.slice T)) {fuel : Nat} {cs : List Value} {x : DataW H × List MemPlace} (h : DataW.trod enc Tryz.prog W base spare held fuel S cs = some x) : ∃ a n c, cs = [.slice a n c] := by
  rcases DataW.trod_slice hS h with ⟨rfl, _⟩ | ⟨a, len, cap, elems, rest, n, hn, rfl, _⟩
  · exact ⟨_, _, _, rfl⟩
  · exact ⟨_, _, _, rfl⟩
/-- a slice of records, as it comes in -/
theorem recs_open14 {α : Type} [Inhabited α] {T S : TypeId} (hS : Tryz.prog.underlying S = some (.slice T)) {k : Nat} (hk : Tryz.prog.cellsOf T = k) (hk0 : 0 < k) {f : α → List Value} {D : α → DataW H} (hf : ∀ x, (f x).length = k)
    (each : ∀ (fuel : Nat) (cs : List Value) (x : DataW H × List MemPlace), DataW.trod enc Tryz.prog W base spare held fuel T cs = some x → ∃ a, cs = f a ∧ x.1 = D a)
    {fuel : Nat} {cs : List Value} {x : DataW H × List MemPlace} (h : DataW.trod enc Tryz.prog W base spare held fuel S cs = some x) :
    ∃ a n c l, cs = [.slice a n c] ∧ SlcAt f k W (.slice a n c) l ∧ (l = [] ∨ ∃ els rst, x.1 = .slice els rst ∧ els.length = l.length ∧ ∀ a ∈ l, D a ∈ els) := by
  rcases DataW.trod_slice hS h with ⟨rfl, rfl⟩ | ⟨a, len, cap, elems, rest, n, hn, rfl, rfl, _, hl, hm, hlen, hel, _, _⟩
  · exact ⟨_, _, _, [], rfl, slc_none _ _ _, .inl rfl⟩
  · have each2 : ∀ i, i < len → ∃ y : α, (∀ j, j < k → W.cell? ((a.add (i * k)).add j) = (f y)[j]?) ∧ D y ∈ elems.map (·.1) := fun i hi => by
      have h1 := hel i hi
      rw [hk] at h1
      have hlt : i < elems.length := by omega
      rw [List.getElem?_eq_getElem hlt] at h1
      obtain ⟨cs', hc, hy⟩ := Option.bind_eq_some_iff.1 h1
      obtain ⟨y, rfl, hD⟩ := each _ _ _ hy
      obtain ⟨_, _, hcells⟩ := World.cells?_some hc
      exact ⟨y, fun j hj => hcells j hj, by rw [← hD]; exact List.mem_map_of_mem (List.getElem_mem hlt)⟩
    obtain ⟨F, hF⟩ := Go.Deep.choose_lt each2
    have hln : ((List.range len).map F).length = len := by simp
    refine ⟨_, _, _, (List.range len).map F, rfl, ⟨⟨some a, cap, by rw [hln], by rw [hln]; exact hl⟩, by rw [hln]; omega, fun hp => ?_⟩, .inr ⟨_, _, rfl, by rw [hln, List.length_map]; exact hlen, fun y hy => ?_⟩⟩
    · rw [hln] at hp
      obtain ⟨b, off, spot⟩ := a
      have h00 := (hF 0 (by omega)).1 0 hk0
      have hspot : spot = none := by
        have hu : ∃ u, (f (F 0))[0]? = some u := ⟨_, List.getElem?_eq_getElem (by rw [hf]; exact hk0)⟩
        obtain ⟨u, hu⟩ := hu
        rw [hu] at h00
        have h01 : W.cell? ⟨b, off, spot⟩ = some u := by simpa [Addr.add] using h00
        exact World.cell?_spot h01
      subst hspot
      refine ⟨b, off, cap, by rw [hln], fun i t hi j u hj => ?_⟩
      have hil : i < len := by
        rcases Nat.lt_or_ge i len with h' | h'
        · exact h'
        · rw [List.getElem?_eq_none (by rw [hln]; exact h')] at hi; cases hi
      have hti : F i = t := by
        rw [List.getElem?_map, List.getElem?_range hil] at hi
        exact Option.some.inj hi
      have q := (hF i hil).1 j (by rw [← hf t]; exact (List.getElem?_eq_some_iff.1 hj).1)
      rw [hti, hj, Go.WideShapes.add_plain, Go.WideShapes.add_plain] at q
      exact q
    · obtain ⟨i, hi, rfl⟩ := List.mem_map.1 hy
      exact (hF i (List.mem_range.1 hi)).2

/-- what a side reads as, as far as its words go -/
def WordsD (H : Type) (d : DataW H) (ws : List (List UInt8)) : Prop := ∃ D0 D1 D2, d = .agg [D0, D1, D2] ∧ (ws = [] ∨ ∃ els rst, D1 = .slice els rst ∧ els.length = ws.length ∧ ∀ a ∈ ws, txD a ∈ els)
set_option maxRecDepth 100000 in
theorem side_in {v : Value} {d : DataW H} {p : List MemPlace} (h : DataW.Trod enc Tryz.prog W base spare held 41 v d p) {cs : Array Value} (hv : v = .agg cs) : ∃ (pc pw pn : Option Addr) (nc nw nn cc cw cn : Nat) (ws : List (List UInt8)), v = .agg #[.slice pc nc cc, .slice pw nw cw, .slice pn nn cn] ∧ TxsAt W (.slice pw nw cw) ws ∧ WordsD H d ws := by
  obtain ⟨fuel, hf⟩ := h
  subst hv
  obtain ⟨f0, f1, f2, hfs, ⟨t0, o0⟩, ⟨t1, o1⟩, ⟨t2, o2⟩⟩ := fields14_3 fSide14
  obtain ⟨xs, m, hm', hxe, hcl, hxl, hxi⟩ := DataW.trod_struct uSide14 hf
  have hcs : (Value.agg cs).cells.toList = cs.toList := rfl
  rw [hcs] at hcl hxi
  rw [hfs] at hxl hxi
  rw [cSide14] at hcl
  obtain ⟨l⟩ := cs
  simp only [] at hcl hxi
  match l, hcl, xs, hxl with
  | [v0, v1, v2], _, [y0, y1, y2], _ =>
    have g0 := hxi 0 f0 rfl
    have g1 := hxi 1 f1 rfl
    have g2 := hxi 2 f2 rfl
    rw [t0, o0, cChs14] at g0
    rw [t1, o1, cTxs14] at g1
    rw [t2, o2, cNts14] at g2
    simp at g0 g1 g2
    obtain ⟨pc, nc, cc, e0⟩ := slice_is14 Tryz.underlying37 g0
    obtain ⟨pw, nw, cw, ws, e1, h1, h2⟩ := recs_open14 Tryz.underlying38 cellsStr (by decide) (f := txC) (D := txD) txC_len (fun fuel cs x h => tx_open h) g1
    obtain ⟨pn, nn, cn, e2⟩ := slice_is14 Tryz.underlying39 g2
    simp at e0 e1 e2
    subst e0 e1 e2
    exact ⟨pc, pw, pn, nc, nw, nn, cc, cw, cn, ws, rfl, h1, y0.1, y1.1, y2.1, congrArg Prod.fst hxe, h2⟩
set_option maxRecDepth 100000 in
theorem note_in {v : Value} {d : DataW H} {p : List MemPlace} (h : DataW.Trod enc Tryz.prog W base spare held 44 v d p) {cs : Array Value} (hv : v = .agg cs) : ∃ (pt : Option Addr) (nt ct : Nat) (ser fr til loc : Int), v = .agg #[.int .i64 ser, .int .i64 fr, .int .i64 til, .slice pt nt ct, .int .i64 loc] ∧ (-9223372036854775808 ≤ fr ∧ fr ≤ 9223372036854775807) ∧ (-9223372036854775808 ≤ til ∧ til ≤ 9223372036854775807) := by
  obtain ⟨fuel, hf⟩ := h
  subst hv
  obtain ⟨f0, f1, f2, f3, f4, hfs, ⟨t0, o0⟩, ⟨t1, o1⟩, ⟨t2, o2⟩, ⟨t3, o3⟩, ⟨t4, o4⟩⟩ := fields14_5 fNote14
  obtain ⟨xs, m, hm', hxe, hcl, hxl, hxi⟩ := DataW.trod_struct uNote14 hf
  have hcs : (Value.agg cs).cells.toList = cs.toList := rfl
  rw [hcs] at hcl hxi
  rw [hfs] at hxl hxi
  rw [cNote14] at hcl
  obtain ⟨l⟩ := cs
  simp only [] at hcl hxi
  match l, hcl, xs, hxl with
  | [v0, v1, v2, v3, v4], _, [y0, y1, y2, y3, y4], _ =>
    have g0 := hxi 0 f0 rfl
    have g1 := hxi 1 f1 rfl
    have g2 := hxi 2 f2 rfl
    have g3 := hxi 3 f3 rfl
    have g4 := hxi 4 f4 rfl
    rw [t0, o0, cInt14] at g0
    rw [t1, o1, cInt14] at g1
    rw [t2, o2, cInt14] at g2
    rw [t3, o3, cSds14] at g3
    rw [t4, o4, cInt14] at g4
    simp at g0 g1 g2 g3 g4
    obtain ⟨a, e0, _, w0⟩ := DataW.trod_int Tryz.underlying3 g0
    obtain ⟨b, e1, _, w1⟩ := DataW.trod_int Tryz.underlying3 g1
    obtain ⟨c, e2, _, w2⟩ := DataW.trod_int Tryz.underlying3 g2
    obtain ⟨pt, nt, ct, e3⟩ := slice_is14 Tryz.underlying42 g3
    obtain ⟨e, e4, _, w4⟩ := DataW.trod_int Tryz.underlying3 g4
    simp at e0 e1 e2 e3 e4
    subst e0 e1 e2 e3 e4
    exact ⟨pt, nt, ct, a, b, c, e, rfl, wf_range14 w1, wf_range14 w2⟩
theorem weights_all14 {P : Program} {e : TypeId} {d : DataW H} {n : Nat} (hn : n ∈ d.weights P e) : ∀ ds : List (DataW H), d ∈ ds → n ∈ DataW.weightsAll P e ds
  | [], h => by cases h
  | c :: r, h => by
    simp only [DataW.weightsAll, List.mem_append]
    rcases List.mem_cons.1 h with rfl | h
    · exact .inl hn
    · exact .inr (weights_all14 hn r h)

theorem words_small {ts : List TypeId} {ds : List (DataW H)} (h : (DataW.weightsEach Tryz.prog ts ds).all (· ≤ reachBytes) = true) {j : Nat} {d : DataW H} (ht : ts[j]? = some 41) (hd : ds[j]? = some d) {ws : List (List UInt8)} (hw : WordsD H d ws) : (∀ x ∈ ws, x.length ≤ 281474976710656) ∧ ws.length ≤ 8796093021952 := by
  obtain ⟨D0, D1, D2, rfl, rfl | ⟨els, rst, rfl, hlen, hm⟩⟩ := hw
  · exact ⟨by simp, by simp⟩
  · have h4 : reachBytes = 140737488351232 := rfl
    have key : ∀ n, n ∈ (DataW.slice els rst : DataW H).weights Tryz.prog 38 → n ≤ 140737488351232 := fun n hn => by
      have := List.all_eq_true.1 h _ (DataW.weights_mem_each ht hd n (by
        simp only [DataW.weights, uSide14, tSide14]
        exact DataW.weights_mem_each (j := 1) rfl rfl n hn))
      rw [h4] at this
      simpa using this
    refine ⟨fun x hx => ?_, ?_⟩
    · have := key x.length (by
        simp only [DataW.weights, Tryz.underlying38, List.mem_cons, List.mem_append]
        exact .inr (.inl (weights_all14 (d := txD x) (by unfold txD; simp [DataW.weights]) els (hm x hx))))
      omega
    · have := key ((els.length + rst.length) * 16) (by
        simp only [DataW.weights, Tryz.underlying38, bytesTx14, List.mem_cons]
        first | exact .inl rfl | exact .inl trivial)
      omega
end
end Go.Proofs.YtfjplhgajoehfaaGreatDoor
