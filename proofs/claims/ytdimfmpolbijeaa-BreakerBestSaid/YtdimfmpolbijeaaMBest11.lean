/-
  PROVED: the law BreakerBest at every argument: the best breaks of any items, to any width, and their demerits, are as the document says, and so is what is tried, and told.
  Conditions: none.
-/
import Derived.Test.YtdimfmpolbijeaaRows
import Derived.Test.YtdimfmpolbijeaaTot10
import Derived.Deep.Slices
import Derived.ProofKit
import Derived.ChangeSlices
import Derived.Lay
import Derived.Lib.LaidU8T
import Derived.OpenShut
import Derived.Deep.DeepHandedRow
import Derived.Deep.DeepWitnessRowRef
import Derived.LaidMore
import Derived.Stop.LaidErr
import Derived.Lib.SmallJoins
import Derived.SevenTiedAt
import Derived.SizedLaws
import Derived.Test.YtdimfmpolbijeaaRefBest11
import Derived.Test.YtdimfmpolbijeaaCallsM11
import Derived.Test.YtdimfmpolbijeaaFltEq
import Derived.LaidEql
set_option linter.unusedVariables false
set_option linter.unusedSimpArgs false
set_option maxRecDepth 20000
namespace Go.Proofs.Ytdimfmpolbijeaa
open Go.ChangeShapes Go.WideShapes Go.ChangeAt Go.RowKit

theorem cGl9 : Try.prog.cellsOf 45 = 4 := by kernel_rfl
theorem cIt9 : Try.prog.cellsOf 47 = 9 := by kernel_rfl
theorem cI649 : Try.prog.cellsOf 2 = 1 := by kernel_rfl
theorem cInt9 : Try.prog.cellsOf 3 = 1 := by kernel_rfl
theorem cBool9 : Try.prog.cellsOf 4 = 1 := by kernel_rfl
theorem cStr9 : Try.prog.cellsOf 9 = 1 := by kernel_rfl
theorem two_fields {fs : Array Field} {a b : TypeId × Nat} (h : fs.toList.map (fun f => (f.type, f.offset)) = [a, b]) : ∃ f0 f1 : Field, fs = #[f0, f1] ∧ (f0.type = a.1 ∧ f0.offset = a.2) ∧ (f1.type = b.1 ∧ f1.offset = b.2) := by
  obtain ⟨l⟩ := fs
  have hl : l.length = 2 := by simpa using congrArg List.length h
  match l, hl with
  | [x, y], _ =>
    simp only [List.map_cons, List.map_nil, List.cons.injEq] at h
    obtain ⟨rfl, rfl, _⟩ := h
    exact ⟨x, y, rfl, ⟨rfl, rfl⟩, ⟨rfl, rfl⟩⟩
theorem four_fields {fs : Array Field} {a b c d : TypeId × Nat} (h : fs.toList.map (fun f => (f.type, f.offset)) = [a, b, c, d]) : ∃ f0 f1 f2 f3 : Field, fs = #[f0, f1, f2, f3] ∧ (f0.type = a.1 ∧ f0.offset = a.2) ∧ (f1.type = b.1 ∧ f1.offset = b.2) ∧ (f2.type = c.1 ∧ f2.offset = c.2) ∧ (f3.type = d.1 ∧ f3.offset = d.2) := by
  obtain ⟨l⟩ := fs
  have hl : l.length = 4 := by simpa using congrArg List.length h
  match l, hl with
  | [x, y, z, q], _ =>
    simp only [List.map_cons, List.map_nil, List.cons.injEq] at h
    obtain ⟨rfl, rfl, rfl, rfl, _⟩ := h
    exact ⟨x, y, z, q, rfl, ⟨rfl, rfl⟩, ⟨rfl, rfl⟩, ⟨rfl, rfl⟩, ⟨rfl, rfl⟩⟩
theorem six_fields {fs : Array Field} {a b c d e g : TypeId × Nat} (h : fs.toList.map (fun f => (f.type, f.offset)) = [a, b, c, d, e, g]) : ∃ f0 f1 f2 f3 f4 f5 : Field, fs = #[f0, f1, f2, f3, f4, f5] ∧ (f0.type = a.1 ∧ f0.offset = a.2) ∧ (f1.type = b.1 ∧ f1.offset = b.2) ∧ (f2.type = c.1 ∧ f2.offset = c.2) ∧ (f3.type = d.1 ∧ f3.offset = d.2) ∧ (f4.type = e.1 ∧ f4.offset = e.2) ∧ (f5.type = g.1 ∧ f5.offset = g.2) := by
  obtain ⟨l⟩ := fs
  have hl : l.length = 6 := by simpa using congrArg List.length h
  match l, hl with
  | [x, y, z, q, r, s], _ =>
    simp only [List.map_cons, List.map_nil, List.cons.injEq] at h
    obtain ⟨rfl, rfl, rfl, rfl, rfl, rfl, _⟩ := h
    exact ⟨x, y, z, q, r, s, rfl, ⟨rfl, rfl⟩, ⟨rfl, rfl⟩, ⟨rfl, rfl⟩, ⟨rfl, rfl⟩, ⟨rfl, rfl⟩, ⟨rfl, rfl⟩⟩
theorem five_fields {fs : Array Field} {a b c d g : TypeId × Nat} (h : fs.toList.map (fun f => (f.type, f.offset)) = [a, b, c, d, g]) : ∃ f0 f1 f2 f3 f4 : Field, fs = #[f0, f1, f2, f3, f4] ∧ (f0.type = a.1 ∧ f0.offset = a.2) := by
  obtain ⟨l⟩ := fs
  have hl : l.length = 5 := by simpa using congrArg List.length h
  match l, hl with
  | [x, y, z, q, r], _ =>
    simp only [List.map_cons, List.map_nil, List.cons.injEq] at h
    obtain ⟨rfl, rfl, rfl, rfl, rfl, _⟩ := h
    exact ⟨x, y, z, q, r, rfl, ⟨rfl, rfl⟩⟩
instance : Inhabited It.Gl := ⟨⟨0, 0, 0, 0⟩⟩
instance : Inhabited It.Itm := ⟨⟨0, ⟨0, 0, 0, 0⟩, 0, false, 0, 0⟩⟩
instance : Inhabited It.Pt := ⟨⟨ByteArray.empty, 0, 0, 0⟩⟩
section
variable {H : Type} {enc : TypeId × Value → H} {W : World} {base : Nat} {held : Bool} {spare : Nat → Bool}

theorem gl_open {fuel : Nat} {cs : List Value} {x : DataW H × List MemPlace} (h : DataW.trod enc Try.prog W base spare held fuel 45 cs = some x) : ∃ g : It.Gl, cs = glC g := by
  obtain ⟨f0, f1, f2, f3, hfs, ⟨t0, o0⟩, ⟨t1, o1⟩, ⟨t2, o2⟩, ⟨t3, o3⟩⟩ := four_fields (show (Try.prog.fieldsOf 45).toList.map (fun f => (f.type, f.offset)) = [(2, 0), (2, 1), (2, 2), (3, 3)] by kernel_rfl)
  obtain ⟨xs, m, hm', hxe, hcl, hxl, hxi⟩ := DataW.trod_struct uGl9 h
  rw [hfs] at hxl hxi
  rw [cGl9] at hcl
  match cs, hcl, xs, hxl with
  | [v0, v1, v2, v3], _, [y0, y1, y2, y3], _ =>
    have g0 := hxi 0 f0 rfl
    have g1 := hxi 1 f1 rfl
    have g2 := hxi 2 f2 rfl
    have g3 := hxi 3 f3 rfl
    rw [t0, o0, cI649] at g0
    rw [t1, o1, cI649] at g1
    rw [t2, o2, cI649] at g2
    rw [t3, o3, cInt9] at g3
    simp at g0 g1 g2 g3
    obtain ⟨a, e0, _, w0⟩ := DataW.trod_int Try.underlying2 g0
    obtain ⟨b, e1, _, w1⟩ := DataW.trod_int Try.underlying2 g1
    obtain ⟨c, e2, _, w2⟩ := DataW.trod_int Try.underlying2 g2
    obtain ⟨d, e3, _, w3⟩ := DataW.trod_int Try.underlying3 g3
    simp at e0 e1 e2 e3
    subst e0 e1 e2 e3
    exact ⟨⟨a, b, c, d⟩, rfl⟩
theorem it_open {fuel : Nat} {cs : List Value} {x : DataW H × List MemPlace} (h : DataW.trod enc Try.prog W base spare held fuel 47 cs = some x) : ∃ p : It.Itm, cs = itC p := by
  obtain ⟨f0, f1, f2, f3, f4, f5, hfs, ⟨t0, o0⟩, ⟨t1, o1⟩, ⟨t2, o2⟩, ⟨t3, o3⟩, ⟨t4, o4⟩, ⟨t5, o5⟩⟩ := six_fields (show (Try.prog.fieldsOf 47).toList.map (fun f => (f.type, f.offset)) = [(3, 0), (45, 1), (3, 5), (4, 6), (3, 7), (3, 8)] by kernel_rfl)
  obtain ⟨xs, m, hm', hxe, hcl, hxl, hxi⟩ := DataW.trod_struct uIt9 h
  rw [hfs] at hxl hxi
  rw [cIt9] at hcl
  match cs, hcl, xs, hxl with
  | [v0, v1, v2, v3, v4, v5, v6, v7, v8], _, [y0, y1, y2, y3, y4, y5], _ =>
    have g0 := hxi 0 f0 rfl
    have g1 := hxi 1 f1 rfl
    have g2 := hxi 2 f2 rfl
    have g3 := hxi 3 f3 rfl
    have g4 := hxi 4 f4 rfl
    have g5 := hxi 5 f5 rfl
    rw [t0, o0, cInt9] at g0
    rw [t1, o1, cGl9] at g1
    rw [t2, o2, cInt9] at g2
    rw [t3, o3, cBool9] at g3
    rw [t4, o4, cInt9] at g4
    rw [t5, o5, cInt9] at g5
    simp at g0 g1 g2 g3 g4 g5
    obtain ⟨a, e0, _, w0⟩ := DataW.trod_int Try.underlying3 g0
    obtain ⟨g, e1⟩ := gl_open g1
    obtain ⟨c, e2, _, w2⟩ := DataW.trod_int Try.underlying3 g2
    obtain ⟨d, e3, _⟩ := DataW.trod_bool Try.underlying4 g3
    obtain ⟨e, e4, _, w4⟩ := DataW.trod_int Try.underlying3 g4
    obtain ⟨f, e5, _, w5⟩ := DataW.trod_int Try.underlying3 g5
    simp [glC] at e0 e1 e2 e3 e4 e5
    obtain ⟨rfl, rfl, rfl, rfl⟩ := e1
    subst e0 e2 e3 e4 e5
    exact ⟨⟨a, g, c, d, e, f⟩, rfl⟩
theorem bulk_len {H : Type} (ds : List (DataW H)) : ds.length ≤ Rows.uptoBulkAll ds := by
  induction ds with
  | nil => exact Nat.zero_le _
  | cons d r ih =>
    simp only [List.length_cons, Rows.uptoBulkAll]
    have : 1 ≤ Rows.uptoBulk d := by
      unfold Rows.uptoBulk
      split <;> omega
    omega
/-- a slice of records, as it comes in -/
theorem recs_open {α : Type} [Inhabited α] {T S : TypeId} (hS : Try.prog.underlying S = some (.slice T)) {k : Nat} (hk : Try.prog.cellsOf T = k) (hk0 : 0 < k) {f : α → List Value} (hf : ∀ x, (f x).length = k)
    (each : ∀ (fuel : Nat) (cs : List Value) (x : DataW H × List MemPlace), DataW.trod enc Try.prog W base spare held fuel T cs = some x → ∃ a, cs = f a)
    {fuel : Nat} {cs : List Value} {x : DataW H × List MemPlace} (h : DataW.trod enc Try.prog W base spare held fuel S cs = some x) :
    ∃ v l, cs = [v] ∧ SlcAt f k W v l ∧ l.length + 1 ≤ Rows.uptoBulk x.1 ∧ ∃ elems rest, (x.1 = .nil ∧ l = []) ∨ (x.1 = .slice elems rest ∧ l.length ≤ elems.length) := by
  rcases DataW.trod_slice hS h with ⟨rfl, rfl⟩ | ⟨a, len, cap, elems, rest, n, hn, rfl, rfl, _, hl, hm, hlen, hel, _, _⟩
  · exact ⟨_, [], rfl, slc_none _ _ _, by simp [Rows.uptoBulk], [], [], .inl ⟨rfl, rfl⟩⟩
  · have each2 : ∀ i, i < len → ∃ y : α, ∀ j, j < k → W.cell? ((a.add (i * k)).add j) = (f y)[j]? := fun i hi => by
      have h1 := hel i hi
      rw [hk] at h1
      have hlt : i < elems.length := by omega
      rw [List.getElem?_eq_getElem hlt] at h1
      obtain ⟨cs', hc, hy⟩ := Option.bind_eq_some_iff.1 h1
      obtain ⟨y, rfl⟩ := each _ _ _ hy
      obtain ⟨_, _, hcells⟩ := World.cells?_some hc
      exact ⟨y, fun j hj => hcells j hj⟩
    obtain ⟨F, hF⟩ := Go.Deep.choose_lt each2
    have hln : ((List.range len).map F).length = len := by simp
    refine ⟨_, (List.range len).map F, rfl, ⟨⟨some a, cap, by rw [hln], by rw [hln]; exact hl⟩, by rw [hln]; omega, fun hp => ?_⟩, ?_, _, _, .inr ⟨rfl, by rw [hln]; simp [hlen]⟩⟩
    · rw [hln] at hp
      obtain ⟨b, off, spot⟩ := a
      have h00 := (hF 0 (by omega)) 0 hk0
      have hspot : spot = none := by
        have hu : ∃ u, (f (F 0))[0]? = some u := ⟨_, List.getElem?_eq_getElem (by rw [hf]; exact hk0)⟩
        obtain ⟨u, hu⟩ := hu
        rw [hu] at h00
        have h01 : W.cell? ⟨b, off, spot⟩ = some u := by simpa [Addr.add] using h00
        exact World.cell?_spot h01
      subst hspot
      refine ⟨b, off, cap, by rw [hln], fun i t hi j u hj => ?_⟩
      have hil : i < len := by
        rcases Nat.lt_or_ge i len with h' | h'
        · exact h'
        · rw [List.getElem?_eq_none (by rw [hln]; exact h')] at hi; cases hi
      have hti : F i = t := by
        rw [List.getElem?_map, List.getElem?_range hil] at hi
        exact Option.some.inj hi
      have q := (hF i hil) j (by rw [← hf t]; exact (List.getElem?_eq_some_iff.1 hj).1)
      rw [hti, hj, Go.WideShapes.add_plain, Go.WideShapes.add_plain] at q
      exact q
    · rw [hln]
      have := bulk_len (elems.map (·.1))
      simp only [List.length_map] at this
      simp only [Rows.uptoBulk]
      omega
theorem bulk_sum {α : Type} {H : Type} {sz : α → Nat} : ∀ (l : List α) (ds : List (DataW H)), l.length = ds.length → (∀ (i : Nat) (n : α) (d : DataW H), l[i]? = some n → ds[i]? = some d → sz n ≤ Rows.uptoBulk d) → (l.map sz).sum ≤ Rows.uptoBulkAll ds
  | [], ds, _, _ => by simp
  | n :: r, [], h, _ => by simp at h
  | n :: r, d :: ds, h, hi => by
    have h0 := hi 0 n d rfl rfl
    have ih := bulk_sum (sz := sz) r ds (by simpa using h) (fun i n d h1 h2 => hi (i + 1) n d (by simpa using h1) (by simpa using h2))
    simp only [List.map_cons, List.sum_cons, Rows.uptoBulkAll]
    omega
/-- a slice of slices, as it comes in -/
theorem rows_open {α : Type} [Inhabited α] {T S : TypeId} (hS : Try.prog.underlying S = some (.slice T)) (hk : Try.prog.cellsOf T = 1) {R : World → Value → α → Prop} {sz : α → Nat}
    (each : ∀ (fuel : Nat) (cs : List Value) (x : DataW H × List MemPlace), DataW.trod enc Try.prog W base spare held fuel T cs = some x → ∃ v a, cs = [v] ∧ R W v a ∧ sz a ≤ Rows.uptoBulk x.1)
    {fuel : Nat} {cs : List Value} {x : DataW H × List MemPlace} (h : DataW.trod enc Try.prog W base spare held fuel S cs = some x) :
    ∃ v l, cs = [v] ∧ RowAt R W v l ∧ (l.map sz).sum + 1 ≤ Rows.uptoBulk x.1 := by
  rcases DataW.trod_slice hS h with ⟨rfl, rfl⟩ | ⟨a, len, cap, elems, rest, n, hn, rfl, rfl, _, hl, hm, hlen, hel, _, _⟩
  · exact ⟨_, [], rfl, row_none _ _, by simp [Rows.uptoBulk]⟩
  · have each2 : ∀ i, i < len → ∃ y : α, ∃ u z, elems[i]? = some z ∧ sz y ≤ Rows.uptoBulk z.1 ∧ W.cell? (a.add i) = some u ∧ R W u y := fun i hi => by
      have h1 := hel i hi
      rw [hk, Nat.mul_one] at h1
      have hlt : i < elems.length := by omega
      rw [List.getElem?_eq_getElem hlt] at h1
      obtain ⟨cs', hc, hy⟩ := Option.bind_eq_some_iff.1 h1
      obtain ⟨u, y, rfl, hr, hz⟩ := each _ _ _ hy
      obtain ⟨_, _, hcells⟩ := World.cells?_some hc
      have h0 := hcells 0 (by omega)
      refine ⟨y, u, _, List.getElem?_eq_getElem hlt, hz, ?_, hr⟩
      have e : (a.add i).add 0 = a.add i := by unfold Addr.add; split <;> simp_all
      rw [e] at h0
      exact h0
    obtain ⟨F, hF⟩ := Go.Deep.choose_lt each2
    have hln : ((List.range len).map F).length = len := by simp
    refine ⟨_, (List.range len).map F, rfl, ⟨⟨some a, cap, by rw [hln], by rw [hln]; exact hl⟩, by rw [hln]; omega, fun hp => ?_⟩, ?_⟩
    · rw [hln] at hp
      obtain ⟨b, off, spot⟩ := a
      obtain ⟨u0, z0, _, _, h00, _⟩ := hF 0 (by omega)
      have hspot : spot = none := by
        have h01 : W.cell? ⟨b, off, spot⟩ = some u0 := by simpa [Addr.add] using h00
        exact World.cell?_spot h01
      subst hspot
      refine ⟨b, off, cap, by rw [hln], fun i t hi => ?_⟩
      have hil : i < len := by
        rcases Nat.lt_or_ge i len with h' | h'
        · exact h'
        · rw [List.getElem?_eq_none (by rw [hln]; exact h')] at hi; cases hi
      have hti : F i = t := by
        rw [List.getElem?_map, List.getElem?_range hil] at hi
        exact Option.some.inj hi
      obtain ⟨u, z, _, _, hc, hr⟩ := hF i hil
      rw [hti] at hr
      rw [Go.WideShapes.add_plain] at hc
      exact ⟨u, hc, hr⟩
    · have hle : ((List.range len).map F).length ≤ (elems.map (·.1)).length := by simp [hlen]
      have hb := bulk_sum (sz := sz) ((List.range len).map F) ((elems.map (·.1)).take len) (by simp [hlen]) (fun i y d h1 h2 => by
        have hil : i < len := by
          rcases Nat.lt_or_ge i len with h' | h'
          · exact h'
          · rw [List.getElem?_eq_none (by rw [hln]; exact h')] at h1; cases h1
        rw [List.getElem?_map, List.getElem?_range hil] at h1
        have hti : F i = y := Option.some.inj h1
        obtain ⟨u, z, hz1, hz2, _, _⟩ := hF i hil
        rw [List.getElem?_take_of_lt hil, List.getElem?_map, hz1] at h2
        have : z.1 = d := Option.some.inj h2
        rw [hti, this] at hz2
        exact hz2)
      have hb2 : Rows.uptoBulkAll ((elems.map (·.1)).take len) ≤ Rows.uptoBulkAll (elems.map (·.1)) := by
        have e : elems.map (·.1) = (elems.map (·.1)).take len ++ (elems.map (·.1)).drop len := (List.take_append_drop _ _).symm
        have app : ∀ p q : List (DataW H), Rows.uptoBulkAll p ≤ Rows.uptoBulkAll (p ++ q) := fun p q => by
          induction p with
          | nil => simp [Rows.uptoBulkAll]
          | cons y r ih => simp only [List.cons_append, Rows.uptoBulkAll]; omega
        conv => rhs; rw [e]
        exact app _ _
      simp only [Rows.uptoBulk]
      omega

/-! ### how much there is -/
def szP (l : List It.Pt) : Nat := l.length + 1
def szW (ws : List (List It.Pt)) : Nat := (ws.map szP).sum + 1
def szL (ls : List (List (List It.Pt))) : Nat := (ls.map szW).sum + 1
theorem wordsI_len (sp : It.Gl) (hy : Int) : ∀ (ws : List (List It.Pt)) (n : Int) (i : Nat), (It.wordsI sp hy n i ws).length ≤ 2 * (ws.map szP).sum
  | [], n, i => by simp [It.wordsI]
  | w :: r, n, i => by
    have h1 := (It.wordI_len hy n w 0).2
    have h2 := wordsI_len sp hy r (n + 1) (i + 1)
    simp only [It.wordsI, List.length_append, List.map_cons, List.sum_cons, szP] at h2 ⊢
    split <;> simp <;> omega
theorem versI_len (sp : It.Gl) (hy : Int) : ∀ (ls : List (List (List It.Pt))) (n : Int), (It.versI sp hy n ls).length ≤ 3 * (ls.map szW).sum
  | [], n => by simp [It.versI]
  | l :: r, n => by
    have h1 := wordsI_len sp hy l n 0
    have h2 := versI_len sp hy r (n + l.length)
    have h3 : It.endI.length = 3 := rfl
    simp only [It.versI, List.length_append, List.map_cons, List.sum_cons, szW, h3] at h2 ⊢
    omega
theorem items_in {v : Value} {d : DataW H} {p : List MemPlace} (h : DataW.Trod enc Try.prog W base spare held 22 v d p) (hs : v.cells.toList = [v]) : ∃ l, ItsAt W v l ∧ (l = [] ∨ ∃ elems rest, d = .slice elems rest ∧ l.length ≤ elems.length) := by
  obtain ⟨fuel, hf⟩ := h
  rw [hs] at hf
  obtain ⟨v', a, e, h1, _, els, rst, h3⟩ := recs_open Try.underlying22 cIt9 (by decide) (f := itC) (fun x => rfl) (fun fuel cs x h => it_open h) hf
  injection e with e1
  subst e1
  refine ⟨a, h1, ?_⟩
  rcases h3 with ⟨_, h⟩ | ⟨h, h4⟩
  · exact .inl h
  · exact .inr ⟨els, rst, h, h4⟩
/-- numbers, as they come in -/
theorem ints_in {v : Value} {d : DataW H} {p : List MemPlace}
    (h : DataW.Trod enc Try.prog W base spare held 24 v d p) (hs : v.cells.toList = [v]) :
    ∃ xs : List Int, IntsAt .i64 W v xs := by
  obtain ⟨fuel, hf⟩ := h
  rw [hs] at hf
  rcases Go.ChangeShapes.open_ints Try.underlying24 Try.underlying3 cInt9 hf with ⟨hc, hx⟩ | ⟨a, len, cap, zs, hc, _, hl, hm, hlen, hx, hcell, _⟩
  · injection hc with hc _
    exact ⟨[], by rw [hc]; exact ints_none _ _⟩
  · injection hc with hc _
    have hlm : len ≤ zs.length := by rw [hlen]; split <;> omega
    have hln : (zs.take len).length = len := by rw [List.length_take]; omega
    refine ⟨zs.take len, ⟨⟨some a, cap, by rw [hc, hln], by rw [hln]; exact hl⟩, by rw [hln]; omega, fun hp => ?_⟩⟩
    rw [hln] at hp
    obtain ⟨b, off, spot⟩ := a
    have hspot : spot = none := by simpa [Addr.add] using World.cell?_spot (hcell 0 (by omega))
    subst hspot
    refine ⟨b, off, cap, by rw [hc, hln], fun i s hi => ?_⟩
    have hil : i < len := by
      rcases Nat.lt_or_ge i len with h' | h'
      · exact h'
      · rw [List.getElem?_eq_none (by rw [hln]; exact h')] at hi; cases hi
    have h1 := hcell i (by omega)
    rw [Go.WideShapes.add_plain] at h1
    rw [List.getElem?_take_of_lt hil] at hi
    rw [show zs.getD i 0 = s by rw [List.getD_eq_getElem?_getD, hi]; rfl] at h1
    exact h1
end
end Go.Proofs.Ytdimfmpolbijeaa

namespace Go.Proofs.Ytdimfmpolbijeaa
open Go.ChangeShapes Go.WideShapes Go.ChangeAt Go.RowKit
theorem uCh11 : Try.prog.underlying 35 = some (.struct (Try.prog.fieldsOf 35)) := by kernel_rfl
theorem cCh11 : Try.prog.cellsOf 35 = 2 := by kernel_rfl
section
variable {H : Type} {enc : TypeId × Value → H} {W : World} {base : Nat} {held : Bool} {spare : Nat → Bool}
set_option maxRecDepth 100000 in
theorem choice_in {v : Value} {d : DataW H} {p : List MemPlace} (h : DataW.Trod enc Try.prog W base spare held 35 v d p) {cs : Array Value} (hv : v = .agg cs) : ∃ a b : Int, v = .agg #[.int .i64 a, .int .i64 b] := by
  obtain ⟨fuel, hf⟩ := h
  subst hv
  obtain ⟨f0, f1, hfs, ⟨t0, o0⟩, ⟨t1, o1⟩⟩ := two_fields (show (Try.prog.fieldsOf 35).toList.map (fun f => (f.type, f.offset)) = [(3, 0), (3, 1)] by kernel_rfl)
  obtain ⟨xs, m, hm', hxe, hcl, hxl, hxi⟩ := DataW.trod_struct uCh11 hf
  have hcs : (Value.agg cs).cells.toList = cs.toList := rfl
  rw [hcs] at hcl hxi
  rw [hfs] at hxl hxi
  rw [cCh11] at hcl
  obtain ⟨l⟩ := cs
  simp only [] at hcl hxi
  match l, hcl, xs, hxl with
  | [v0, v1], _, [y0, y1], _ =>
    have g0 := hxi 0 f0 rfl
    have g1 := hxi 1 f1 rfl
    rw [t0, o0, cInt9] at g0
    rw [t1, o1, cInt9] at g1
    simp at g0 g1
    obtain ⟨a, e0, _, w0⟩ := DataW.trod_int Try.underlying3 g0
    obtain ⟨b, e1, _, w1⟩ := DataW.trod_int Try.underlying3 g1
    simp at e0 e1
    subst e0 e1
    exact ⟨a, b, rfl⟩
end
end Go.Proofs.Ytdimfmpolbijeaa

namespace Go.Proofs.Ytdimfmpolbijeaa
open Go.ChangeShapes Go.WideShapes Go.ChangeAt Go.RowKit

theorem own : ownKnob Try.prog.godebug = none := by kernel_rfl
theorem laidOut : laidOutB Try.prog = true := by kernel_rfl
/-- the list that every row of this seat bears -/
def laidList : List (String × DataW Unit) := []
section
variable {H : Type} {enc : TypeId × Value → H} {P : Program}
/-- the arguments read behind the call as they did before -/
theorem args_kept (hl : laidOutB P = true) {W W' : World} (hb : Below W.heap.size W W') : ∀ (ts : List TypeId) (vs : List Value) (ds : List (DataW H)) (ps : List MemPlace), (∀ t ∈ ts, P.readableRec t = true ∧ t < P.types.size) →
    DataW.TrodAll enc P W 0 (fun _ => true) true ts vs ds ps → (∀ x ∈ ps, x.block < W.heap.size) → DataW.TrodAll enc P W' 0 (fun b => decide (b < W.heap.size)) true ts vs ds ps
  | [], vs, ds, ps, _, h, _ => by
    obtain ⟨rfl, rfl, rfl⟩ := trodAll_nil h
    exact trodAll_mk0
  | t :: ts, vs, ds, ps, hr, h, hlt => by
    obtain ⟨v, vs', d, ds', p, q, rfl, rfl, rfl, h0, r0⟩ := trodAll_cons h
    have h1 := hr t (List.mem_cons_self ..)
    exact trodAll_cons_mk (Below.trod hl h1.1 h1.2 h0 hb (fun x hx => hlt x (List.mem_append_left _ hx))) (args_kept hl hb ts vs' ds' q (fun t ht => hr t (List.mem_cons_of_mem _ ht)) r0 (fun x hx => hlt x (List.mem_append_right _ hx)))
end
end Go.Proofs.Ytdimfmpolbijeaa

namespace Go.Proofs.Ytdimfmpolbijeaa
open Go.RowKit

set_option maxHeartbeats 8000000 in
set_option maxRecDepth 100000 in
theorem refBreak_any (v : Value) (l : List It.Itm) (t : Int) (w : World) (hI : ItsAt w v l) : Calls Try.prog 12 #[v, .int .i64 t] w (BreakPost (brkR l t) w) := by
  have HM := Lib.hid (fun w h => refItMay_any v l w h)
  have HBt := Lib.hid (fun tol w h => refBest_any v l t tol w h)
  have HA := Lib.hid hI
  obtain ⟨⟨p, cp, rfl, hcap⟩, hm, _⟩ := hI
  obtain ⟨P, hP⟩ : ∃ P, P = w.heap.size := ⟨_, rfl⟩
  obtain ⟨W1, hW1⟩ : ∃ W1, W1 = w.alloc (.cells #[.int .i64 0, .int .i64 0] 29) := ⟨_, rfl⟩
  have hb1 := below_alloc w (.cells #[.int .i64 0, .int .i64 0] 29)
  have HX1 := Lib.hid (obj_new w _ rfl #[.int .i64 0, .int .i64 0] 29)
  rw [← hW1] at hb1 HX1
  rw [← hP] at HX1
  have HB1 := Lib.hid hb1
  have HA1 := Lib.hid (SlcAt.mono HA.out hb1)
  obtain ⟨n, hn⟩ : ∃ n, n = l.length := ⟨_, rfl⟩
  rw [← hn] at HM HBt HA1 ⊢
  clear hb1 hcap hm hn
  have HPn := Lib.hid hP
  cases hmay : It.may l with
  | false =>
    have HE : Hid (brkR l t = (none, false, 90)) := Lib.hid (by unfold brkR; rw [if_pos hmay])
    rw [hmay] at HM
    clear hmay
    go_enter Try.func12, Try.ntmps12
    go_upto_region 1 with fail
    rw [← hW1, ← hP]
    clear hW1 hP
    go_wp2_with fail
    refine (HM.out _ HA1.out).mono ?_
    rintro e w2 ⟨rfl, hb2⟩
    have HX2 := Lib.hid (obj_kept hb2 HX1.out)
    have HA2 := Lib.hid (SlcAt.mono HA1.out hb2)
    have HB2 := Lib.hid (below_step HB1.out hb2)
    clear hb2
    have q0 : w2.cell? ⟨P, 0, none⟩ = some (.int .i64 0) := Lib.cell_of_heap HX2.out 0
    have q1 : w2.cell? ⟨P, 1, none⟩ = some (.int .i64 0) := Lib.cell_of_heap HX2.out 1
    have f0 := Lib.frozen_of_heap HX2.out 0
    have f1 := Lib.frozen_of_heap HX2.out 1
    have H2 := Lib.hid (two_set HX2.out rfl (.int .i64 90) (.int .i64 0))
    have HG : Hid (w2.grownBy ((w2.setCell ⟨P, 0, none⟩ (.int .i64 90)).setCell ⟨P, 1, none⟩ (.int .i64 0)) (some P)) := Lib.hid (grown_set (grown_set (World.grownBy.refl _ _) _) _)
    go_wp2
    obtain ⟨WX, hWX⟩ : ∃ WX, WX = (w2.setCell ⟨P, 0, none⟩ (.int .i64 90)).setCell ⟨P, 1, none⟩ (.int .i64 0) := ⟨_, rfl⟩
    rw [← hWX] at H2 HG ⊢
    clear hWX q0 q1
    have q0 := Lib.cell_of_heap H2.out 0
    have q1 := Lib.cell_of_heap H2.out 1
    rw [HE.out]
    exact bodyPost_ret (v := .tuple #[.slice none 0 0, .bool false, .agg #[.int .i64 90, .int .i64 0]]) (by simp [results, Try.results12, go_sem, q0, q1]) rfl ⟨_, rfl, slc_none _ _ _, HB2.out.grown HG.out HB2.out.size (fun j hj => by cases hj; rw [HPn.out]; exact Nat.le_refl _)⟩
  | true =>
    rw [hmay] at HM
    cases h2 : bestW l t 200 with
    | some x =>
      have HE : Hid (brkR l t = (some x, false, 0)) := Lib.hid (by unfold brkR; rw [if_neg (by rw [hmay]; decide), h2])
      have HB200 := Lib.hid (HBt.out 200)
      rw [h2] at HB200
      unfold BestPost bz bl at HB200
      clear hmay h2
      go_enter Try.func12, Try.ntmps12
      go_upto_region 1 with fail
      rw [← hW1, ← hP]
      clear hW1 hP
      go_wp2_with fail
      refine (HM.out _ HA1.out).mono ?_
      rintro e w2 ⟨rfl, hb2⟩
      have HX2 := Lib.hid (obj_kept hb2 HX1.out)
      have HA2 := Lib.hid (SlcAt.mono HA1.out hb2)
      have HB2 := Lib.hid (below_step HB1.out hb2)
      clear hb2
      go_wp2_with fail
      refine (HB200.out _ HA2.out).mono ?_
      rintro e w3 ⟨u3, rfl, h3, b3⟩
      have HX3 := Lib.hid (obj_kept b3 HX2.out)
      have HA3 := Lib.hid (SlcAt.mono HA2.out b3)
      have HB3 := Lib.hid (below_step HB2.out b3)
      have HN3 := Lib.hid h3
      clear b3 h3
      obtain ⟨a3, m3, k3, e3⟩ := own_form9 HN3.out
      subst e3
      have q0 : w3.cell? ⟨P, 0, none⟩ = some (.int .i64 0) := Lib.cell_of_heap HX3.out 0
      have q1 : w3.cell? ⟨P, 1, none⟩ = some (.int .i64 0) := Lib.cell_of_heap HX3.out 1
      have f0 := Lib.frozen_of_heap HX3.out 0
      have f1 := Lib.frozen_of_heap HX3.out 1
      have H2 := Lib.hid (two_set HX3.out rfl (.int .i64 0) (.int .i64 0))
      have HG : Hid (w3.grownBy ((w3.setCell ⟨P, 0, none⟩ (.int .i64 0)).setCell ⟨P, 1, none⟩ (.int .i64 0)) (some P)) := Lib.hid (grown_set (grown_set (World.grownBy.refl _ _) _) _)
      go_wp2
      obtain ⟨WX, hWX⟩ : ∃ WX, WX = (w3.setCell ⟨P, 0, none⟩ (.int .i64 0)).setCell ⟨P, 1, none⟩ (.int .i64 0) := ⟨_, rfl⟩
      rw [← hWX] at H2 HG ⊢
      clear hWX q0 q1
      have q0 := Lib.cell_of_heap H2.out 0
      have q1 := Lib.cell_of_heap H2.out 1
      rw [HE.out]
      exact bodyPost_ret (v := .tuple #[.slice a3 m3 k3, .bool false, .agg #[.int .i64 0, .int .i64 0]]) (by simp [results, Try.results12, go_sem, q0, q1]) rfl ⟨_, rfl, own_far11 HN3.out HG.out HX3.out, HB3.out.grown HG.out HB3.out.size (fun j hj => by cases hj; rw [HPn.out]; exact Nat.le_refl _)⟩
    | none =>
      have HB200 := Lib.hid (HBt.out 200)
      rw [h2] at HB200
      unfold BestPost bz bl at HB200
      cases h3 : bestW l t 10000 with
      | some x =>
        have HE : Hid (brkR l t = (some x, true, 0)) := Lib.hid (by unfold brkR; rw [if_neg (by rw [hmay]; decide), h2]; simp only []; rw [h3])
        have HBI := Lib.hid (HBt.out 10000)
        rw [h3] at HBI
        unfold BestPost bz bl at HBI
        clear hmay h2 h3
        go_enter Try.func12, Try.ntmps12
        go_upto_region 1 with fail
        rw [← hW1, ← hP]
        clear hW1 hP
        go_wp2_with fail
        refine (HM.out _ HA1.out).mono ?_
        rintro e w2 ⟨rfl, hb2⟩
        have HX2 := Lib.hid (obj_kept hb2 HX1.out)
        have HA2 := Lib.hid (SlcAt.mono HA1.out hb2)
        have HB2 := Lib.hid (below_step HB1.out hb2)
        clear hb2
        go_wp2_with fail
        refine (HB200.out _ HA2.out).mono ?_
        rintro e w3 ⟨u3, rfl, h3, b3⟩
        have HX3 := Lib.hid (obj_kept b3 HX2.out)
        have HA3 := Lib.hid (SlcAt.mono HA2.out b3)
        have HB3 := Lib.hid (below_step HB2.out b3)
        have HN3 := Lib.hid h3
        clear b3 h3
        go_wp2_with fail
        refine (HBI.out _ HA3.out).mono ?_
        rintro e w4 ⟨u4, rfl, h4, b4⟩
        have HX4 := Lib.hid (obj_kept b4 HX3.out)
        have HA4 := Lib.hid (SlcAt.mono HA3.out b4)
        have HB4 := Lib.hid (below_step HB3.out b4)
        have HN4 := Lib.hid h4
        clear b4 h4
        obtain ⟨a3, m3, k3, e3⟩ := own_form9 HN4.out
        subst e3
        have q0 : w4.cell? ⟨P, 0, none⟩ = some (.int .i64 0) := Lib.cell_of_heap HX4.out 0
        have q1 : w4.cell? ⟨P, 1, none⟩ = some (.int .i64 0) := Lib.cell_of_heap HX4.out 1
        have f0 := Lib.frozen_of_heap HX4.out 0
        have f1 := Lib.frozen_of_heap HX4.out 1
        have H2 := Lib.hid (two_set HX4.out rfl (.int .i64 0) (.int .i64 0))
        have HG : Hid (w4.grownBy ((w4.setCell ⟨P, 0, none⟩ (.int .i64 0)).setCell ⟨P, 1, none⟩ (.int .i64 0)) (some P)) := Lib.hid (grown_set (grown_set (World.grownBy.refl _ _) _) _)
        go_wp2
        obtain ⟨WX, hWX⟩ : ∃ WX, WX = (w4.setCell ⟨P, 0, none⟩ (.int .i64 0)).setCell ⟨P, 1, none⟩ (.int .i64 0) := ⟨_, rfl⟩
        rw [← hWX] at H2 HG ⊢
        clear hWX q0 q1
        have q0 := Lib.cell_of_heap H2.out 0
        have q1 := Lib.cell_of_heap H2.out 1
        rw [HE.out]
        exact bodyPost_ret (v := .tuple #[.slice a3 m3 k3, .bool true, .agg #[.int .i64 0, .int .i64 0]]) (by simp [results, Try.results12, go_sem, q0, q1]) rfl ⟨_, rfl, own_far11 HN4.out HG.out HX4.out, HB4.out.grown HG.out HB4.out.size (fun j hj => by cases hj; rw [HPn.out]; exact Nat.le_refl _)⟩
      | none =>
        have HE : Hid (brkR l t = (none, false, 110)) := Lib.hid (by unfold brkR; rw [if_neg (by rw [hmay]; decide), h2]; simp only []; rw [h3])
        have HBI := Lib.hid (HBt.out 10000)
        rw [h3] at HBI
        unfold BestPost bz bl at HBI
        clear hmay h2 h3
        go_enter Try.func12, Try.ntmps12
        go_upto_region 1 with fail
        rw [← hW1, ← hP]
        clear hW1 hP
        go_wp2_with fail
        refine (HM.out _ HA1.out).mono ?_
        rintro e w2 ⟨rfl, hb2⟩
        have HX2 := Lib.hid (obj_kept hb2 HX1.out)
        have HA2 := Lib.hid (SlcAt.mono HA1.out hb2)
        have HB2 := Lib.hid (below_step HB1.out hb2)
        clear hb2
        go_wp2_with fail
        refine (HB200.out _ HA2.out).mono ?_
        rintro e w3 ⟨u3, rfl, h3, b3⟩
        have HX3 := Lib.hid (obj_kept b3 HX2.out)
        have HA3 := Lib.hid (SlcAt.mono HA2.out b3)
        have HB3 := Lib.hid (below_step HB2.out b3)
        have HN3 := Lib.hid h3
        clear b3 h3
        go_wp2_with fail
        refine (HBI.out _ HA3.out).mono ?_
        rintro e w4 ⟨u4, rfl, h4, b4⟩
        have HX4 := Lib.hid (obj_kept b4 HX3.out)
        have HA4 := Lib.hid (SlcAt.mono HA3.out b4)
        have HB4 := Lib.hid (below_step HB3.out b4)
        have HN4 := Lib.hid h4
        clear b4 h4
        have q0 : w4.cell? ⟨P, 0, none⟩ = some (.int .i64 0) := Lib.cell_of_heap HX4.out 0
        have q1 : w4.cell? ⟨P, 1, none⟩ = some (.int .i64 0) := Lib.cell_of_heap HX4.out 1
        have f0 := Lib.frozen_of_heap HX4.out 0
        have f1 := Lib.frozen_of_heap HX4.out 1
        have H2 := Lib.hid (two_set HX4.out rfl (.int .i64 110) (.int .i64 0))
        have HG : Hid (w4.grownBy ((w4.setCell ⟨P, 0, none⟩ (.int .i64 110)).setCell ⟨P, 1, none⟩ (.int .i64 0)) (some P)) := Lib.hid (grown_set (grown_set (World.grownBy.refl _ _) _) _)
        go_wp2
        obtain ⟨WX, hWX⟩ : ∃ WX, WX = (w4.setCell ⟨P, 0, none⟩ (.int .i64 110)).setCell ⟨P, 1, none⟩ (.int .i64 0) := ⟨_, rfl⟩
        rw [← hWX] at H2 HG ⊢
        clear hWX q0 q1
        have q0 := Lib.cell_of_heap H2.out 0
        have q1 := Lib.cell_of_heap H2.out 1
        rw [HE.out]
        exact bodyPost_ret (v := .tuple #[.slice none 0 0, .bool false, .agg #[.int .i64 110, .int .i64 0]]) (by simp [results, Try.results12, go_sem, q0, q1]) rfl ⟨_, rfl, slc_none _ _ _, HB4.out.grown HG.out HB4.out.size (fun j hj => by cases hj; rw [HPn.out]; exact Nat.le_refl _)⟩
end Go.Proofs.Ytdimfmpolbijeaa

namespace Go.Proofs.Ytdimfmpolbijeaa
open Go.RowKit Go.Extern.Stop Go.Stop Go.Extern

theorem f24 : (Try.prog.fieldsOf 29).toList.map (fun f => (f.name, f.type, f.offset)) = [("Code", 27, 0), ("At", 3, 1)] := by kernel_rfl
theorem u24 : Try.prog.underlying 29 = some (.struct (Try.prog.fieldsOf 29)) := by kernel_rfl
theorem s24 : Try.prog.stoodInHeld 29 = false := by kernel_rfl
theorem p22 (c a : Int) (w : World) : (part 27 #[.int .i64 c, .int .i64 a] 0).run Try.prog w = .ok (.int .i64 c) w := by kernel_rfl
theorem eqin24 (d : Nat) (c a code z : Int) (w : World) : (Op.equalIn (d + 2) 29 (.agg #[.int .i64 c, .int .i64 a]) (.agg #[.int .i64 code, .int .i64 z])).run Try.prog w = .ok ((c == code) && (a == z)) w := by
  rw [run_equalIn_agg w (d + 1) 29 _ _ u24 s24]
  obtain ⟨f1, h1, e1⟩ := eqFields_names (d + 1) #[.int .i64 c, .int .i64 a] #[.int .i64 code, .int .i64 z] _ _ _ _ _ f24 (by decide)
  obtain ⟨f2, h2, e2⟩ := eqFields_names (d + 1) #[.int .i64 c, .int .i64 a] #[.int .i64 code, .int .i64 z] _ _ _ _ _ h1 (by decide)
  obtain rfl : f2 = [] := by simpa using h2
  rw [e1]
  simp only [Sem.run_bind, p22, Result.andThen_ok]
  rw [run_equalIn_int w d 27 .i64 .i64 c code Try.underlying27]
  cases c == code <;> simp [e2, Op.eqFields, p3, run_equalIn_int w d 3 .i64 .i64 a z Try.underlying3]
  by_cases h : a = z <;> simp [h]
theorem eqFlt (c a code z : Int) (w : World) : (binOp .eql 29 (.agg #[.int .i64 c, .int .i64 a]) (.agg #[.int .i64 code, .int .i64 z])).run Try.prog w = .ok (.bool ((c == code) && (a == z))) w := by
  rw [run_eql_struct, eqin24 9998]
  rfl

set_option maxHeartbeats 8000000 in
set_option maxRecDepth 100000 in
theorem lawBest11 (v : Value) (l : List It.Itm) (t tol : Int) (w : World) (h : ItsAt w v l) : Calls Try.prog 3 #[v, .int .i64 t, .int .i64 tol] w (Ret (.bool true) w) := by
  have HF := Lib.hid (fun w => fixed11 w)
  have HA := Lib.hid h
  have HB := Lib.hid (best_any v l t tol w h)
  have HRB := Lib.hid (fun w h => refBest_any v l t tol w h)
  have HK := Lib.hid (fun w h => break_any v l t w h)
  have HRK := Lib.hid (fun w h => refBreak_any v l t w h)
  have HI : Hid (∀ x u v w, NumsAt w u x → NumsAt w v x → Calls Try.prog 13 #[u, v] w (Ret (.bool true) w)) := Lib.hid (fun x u v w hu hv => by
    have := ints_any u v x x w hu hv
    rw [decide_eq_true rfl] at this
    exact this)
  obtain ⟨⟨p, cp, rfl, hcap⟩, hm, _⟩ := h
  have hza : l.length ≤ 9223372036854775807 := by unfold maxLen at hm; omega
  obtain ⟨n, hn⟩ : ∃ n, n = l.length := ⟨_, rfl⟩
  have hA' := HA.out
  rw [← hn] at HB HRB HK HRK hza hA' ⊢
  have HA' := Lib.hid hA'
  obtain ⟨r, hr⟩ : ∃ r, r = bestW l t tol := ⟨_, rfl⟩
  rw [← hr] at HB HRB
  obtain ⟨k, hk⟩ : ∃ k, k = brkR l t := ⟨_, rfl⟩
  rw [← hk] at HK HRK
  clear hcap hm hn hA' hr hk
  by_cases hl80 : n ≤ 80
  · have g1 : ¬ ((80 : Int) < (n : Int)) := by omega
    obtain ⟨Z, hZ⟩ : ∃ Z, Z = bz r := ⟨_, rfl⟩
    obtain ⟨O, hO⟩ : ∃ O, O = r.isSome := ⟨_, rfl⟩
    obtain ⟨L, hL⟩ : ∃ L, L = bl r := ⟨_, rfl⟩
    unfold BestPost at HB HRB
    rw [← hZ, ← hO, ← hL] at HB HRB
    obtain ⟨M, hM⟩ : ∃ M, M = bl k.1 := ⟨_, rfl⟩
    obtain ⟨E, hE⟩ : ∃ E, E = k.2.1 := ⟨_, rfl⟩
    obtain ⟨C, hC⟩ : ∃ C, C = k.2.2 := ⟨_, rfl⟩
    unfold BreakPost at HK HRK
    rw [← hM, ← hE, ← hC] at HK HRK
    clear hZ hO hL hM hE hC
    go_enter Try.func3, Try.ntmps3
    go_wp2_with fail
    refine HB.out.mono ?_
    rintro e w1 ⟨u1, rfl, n1, b1⟩
    have N1 := Lib.hid (n1.at inC_len)
    have B1 := Lib.hid b1
    have I1 := Lib.hid (SlcAt.mono HA'.out b1)
    clear n1 b1
    go_wp2_with fail
    refine (HRB.out _ I1.out).mono ?_
    rintro e w2 ⟨u2, rfl, n2, b2⟩
    have M2 := Lib.hid (n2.at inC_len)
    have N2 := Lib.hid (SlcAt.mono N1.out b2)
    have B2 := Lib.hid (below_step B1.out b2)
    have I2 := Lib.hid (SlcAt.mono I1.out b2)
    clear n2 b2
    go_wp2_with fail
    refine (HK.out _ I2.out).mono ?_
    rintro e w3 ⟨u3, rfl, n3, b3⟩
    have hb3 := below_alloc w3 (.cells #[.int .i64 C, .int .i64 0] 29)
    have X3 := Lib.hid (obj_new w3 _ rfl #[.int .i64 C, .int .i64 0] 29)
    obtain ⟨WA, hWA⟩ : ∃ WA, WA = w3.alloc (.cells #[.int .i64 C, .int .i64 0] 29) := ⟨_, rfl⟩
    rw [← hWA] at hb3 X3
    have hs3 := below_step b3 hb3
    have P3 := Lib.hid (SlcAt.mono n3 hb3)
    have N3 := Lib.hid (SlcAt.mono N2.out hs3)
    have M3 := Lib.hid (SlcAt.mono M2.out hs3)
    have B3 := Lib.hid (below_step B2.out hs3)
    have I3 := Lib.hid (SlcAt.mono I2.out hs3)
    obtain ⟨P, hP⟩ : ∃ P, P = w3.heap.size := ⟨_, rfl⟩
    rw [← hP] at X3
    clear n3 b3 hb3 hs3
    go_upto_region 6 with fail
    rw [← hWA, ← hP]
    clear hWA hP
    go_wp2_with fail
    refine (HRK.out _ I3.out).mono ?_
    rintro e w4 ⟨u4, rfl, n4, b4⟩
    have hb4 := below_alloc w4 (.cells #[.int .i64 C, .int .i64 0] 29)
    have X4 := Lib.hid (obj_new w4 _ rfl #[.int .i64 C, .int .i64 0] 29)
    obtain ⟨WB, hWB⟩ : ∃ WB, WB = w4.alloc (.cells #[.int .i64 C, .int .i64 0] 29) := ⟨_, rfl⟩
    rw [← hWB] at hb4 X4
    have hs4 := below_step b4 hb4
    have Q4 := Lib.hid (SlcAt.mono n4 hb4)
    have P4 := Lib.hid (SlcAt.mono P3.out hs4)
    have N4 := Lib.hid (SlcAt.mono N3.out hs4)
    have M4 := Lib.hid (SlcAt.mono M3.out hs4)
    have Y4 := Lib.hid (obj_kept hs4 X3.out)
    have B4 := Lib.hid (below_step B3.out hs4)
    obtain ⟨Q, hQ⟩ : ∃ Q, Q = w4.heap.size := ⟨_, rfl⟩
    rw [← hQ] at X4
    clear n4 b4 hb4 hs4
    go_upto_region 7 with fail
    rw [← hWB, ← hQ]
    clear hWB hQ
    go_wp2_with fail
    refine (HF.out _).mono ?_
    rintro e w5 ⟨rfl, b5⟩
    have N5 := Lib.hid (SlcAt.mono N4.out b5)
    have M5 := Lib.hid (SlcAt.mono M4.out b5)
    have P5 := Lib.hid (SlcAt.mono P4.out b5)
    have Q5 := Lib.hid (SlcAt.mono Q4.out b5)
    have X5 := Lib.hid (obj_kept b5 X4.out)
    have Y5 := Lib.hid (obj_kept b5 Y4.out)
    have B5 := Lib.hid (below_step B4.out b5)
    clear b5
    go_wp2_with fail
    refine (HI.out _ _ _ _ N5.out M5.out).mono ?_
    rintro e w6 ⟨rfl, b6⟩
    have P6 := Lib.hid (SlcAt.mono P5.out b6)
    have Q6 := Lib.hid (SlcAt.mono Q5.out b6)
    have X6 := Lib.hid (obj_kept b6 X5.out)
    have Y6 := Lib.hid (obj_kept b6 Y5.out)
    have B6 := Lib.hid (below_step B5.out b6)
    clear b6
    go_wp2_with fail
    refine (HI.out _ _ _ _ P6.out Q6.out).mono ?_
    rintro e w7 ⟨rfl, b7⟩
    have q0 : w7.cell? ⟨P, 0, none⟩ = some (.int .i64 C) := Lib.cell_of_heap (obj_kept b7 Y6.out) 0
    have q1 : w7.cell? ⟨P, 1, none⟩ = some (.int .i64 0) := Lib.cell_of_heap (obj_kept b7 Y6.out) 1
    have q2 : w7.cell? ⟨Q, 0, none⟩ = some (.int .i64 C) := Lib.cell_of_heap (obj_kept b7 X6.out) 0
    have q3 : w7.cell? ⟨Q, 1, none⟩ = some (.int .i64 0) := Lib.cell_of_heap (obj_kept b7 X6.out) 1
    have B7 := Lib.hid (below_step B6.out b7)
    have qe : ∀ wx, (binOp .eql 29 (.agg #[.int .i64 C, .int .i64 0]) (.agg #[.int .i64 C, .int .i64 0])).run Try.prog wx = .ok (.bool true) wx := fun wx => by rw [eqFlt]; simp
    clear b7
    go_wp2
    go_ret
    exact ⟨rfl, B7.out⟩
  · have g1 : (80 : Int) < (n : Int) := by omega
    go_enter Try.func3, Try.ntmps3
    go_wp2_with fail
    refine (HF.out _).mono ?_
    rintro e w2 ⟨rfl, hb2⟩
    have HB2 := Lib.hid hb2
    clear hb2
    go_wp2
    go_ret
    exact ⟨rfl, HB2.out⟩
end Go.Proofs.Ytdimfmpolbijeaa

namespace Go.Proofs.Ytdimfmpolbijeaa
open Go.ChangeShapes Go.WideShapes Go.ChangeAt Go.RowKit

set_option maxRecDepth 100000 in
/-- WHAT THE WALK GIVES, FOR EVERY ARGUMENT AND EVERY WORLD. -/
theorem breakerBest_contract (H : Type) (enc : TypeId × Value → H) (W : World) (base : Nat) (args : Array Value) (ds gs : List (DataW H)) (before : List MemPlace)
    (hval : ∀ (j : Nat) t v, Try.f3.params[j]? = some t → args[j]? = some v → Value.okWide Try.prog W .any base t v)
    (hW : DataW.Whole enc Try.prog Try.f3.params.toList Rows.breakerBestSpec.vars false W args.toList ds gs before) (hk : (DataW.weightsEach Try.prog (Try.f3.params.toList ++ (OpenSpec.ofChange Rows.breakerBestSpec).bare.plain.varTypes Try.prog) (ds ++ gs)).all (· ≤ reachBytes) = true) :
    Calls Try.prog 3 args W fun e W' => ∃ v, e = .returned v ∧ Rows.breakerBestSpec.post enc Try.prog Try.f3 false true false false W args v W' := by
  have hW' := hW
  have hlt : ∀ x ∈ before, x.block < W.heap.size := fun x hx => hW'.lt x hx
  obtain ⟨p, q, hA0, hV, hbe, hfz, hnd⟩ := hW
  have hA : DataW.TrodAll enc Try.prog W 0 (fun _ => true) true Try.f3.params.toList args.toList ds p := hA0
  rw [Try.params3] at hA hval hk
  have hAk := hA
  obtain ⟨v0, vs0, d0, ds0, p0, q0, hargs, rfl, rfl, h0, r0⟩ := trodAll_cons hA
  obtain ⟨v1, vs1, d1, ds1, p1, q1, rfl, rfl, rfl, h1, r1⟩ := trodAll_cons r0
  obtain ⟨v2, vs2, d2, ds2, p2, q2, rfl, rfl, rfl, h2, r2⟩ := trodAll_cons r1
  obtain ⟨rfl, rfl, rfl⟩ := trodAll_nil r2
  obtain rfl : args = #[v0, v1, v2] := by cases args; simp_all
  obtain ⟨rfl, rfl⟩ := trodVars_none hV
  obtain ⟨pa0, len0, cap0, hp0⟩ := okWide_slice Try.underlying22 (hval 0 _ v0 rfl rfl)
  obtain ⟨xs0, hxs0, _⟩ := items_in h0 (by rw [hp0]; rfl)
  obtain ⟨x1, rfl⟩ := okWide_int Try.underlying2 (hval 1 _ v1 rfl rfl)
  obtain ⟨x2, rfl⟩ := okWide_int Try.underlying3 (hval 2 _ v2 rfl rfl)
  refine (lawBest11 v0 xs0 x1 x2 W hxs0).mono fun e W' ⟨he, hb⟩ => ?_
  subst he
  have e1 : Rows.breakerBestSpec.fn H ([d0, d1, d2] ++ []) = { results := [.lit (.bool true)], args := [d0, d1, d2] } := rfl
  refine ⟨_, rfl, [d0, d1, d2], [], before, [], p0 ++ (p1 ++ (p2 ++ [])), [], hW', ?_, ?_, ?_, hb.frame _, fun h => by cases h⟩
  · rw [e1]; exact trodAll_mk1 (shut_bool Try.underlying4 true)
  · rw [e1, Try.params3]
    exact args_kept laidOut hb _ _ _ _ (by
      intro t ht
      have : t = 22 ∨ t = 2 ∨ t = 3 := by simpa using ht
      rcases this with rfl | rfl | rfl
      all_goals exact ⟨by kernel_rfl, of_decide_eq_true (by kernel_rfl)⟩) hAk (fun x hx => hlt x (by rw [hbe]; exact List.mem_append_left _ hx))
  · rw [e1]; rfl

theorem breakerBest_laid_met (os : Os) : laidMet Try.prog Rows.breakerBestRow.laid ((World.laidAll Try.prog os laidList).forCall (fun _ _ => 0) ⟨#[], #[.slice none 0 0, .int .i64 0, .int .i64 0], []⟩).memory :=
  laidMet_laidAll _ (by kernel_rfl) (by kernel_rfl)
theorem breakerBest_reads (os : Os) {H : Type} (enc : TypeId × Value → H) : ∃ places, DataW.whole enc Try.prog ((World.laidAll Try.prog os laidList).forCall (fun _ _ => 0) ⟨#[], #[.slice none 0 0, .int .i64 0, .int .i64 0], []⟩).memory Try.f3.params.toList Rows.breakerBestSpec.vars false #[Value.slice none 0 0, .int .i64 0, .int .i64 0].toList 8 = some ([.nil, .lit (.int .i64 0), .lit (.int .i64 0)], [], places) :=
  ⟨[], by kernel_rfl⟩

set_option maxRecDepth 100000 in
theorem breakerBest_lifted (os : Os) (started : os.Started) (H : Type) (enc : TypeId × Value → H) (F : Stop.Interp) :
    ReturnsInHanded {} Try.checked os 3 .any ((OpenSpec.ofChange Rows.breakerBestSpec).preRow enc Try.prog Try.f3 Rows.breakerBestRow.domain false Rows.breakerBestRow.laid) (((OpenSpec.ofChange Rows.breakerBestSpec).at F).post enc Try.prog Try.f3 false true false false) := by
  obtain ⟨places, hx⟩ := breakerBest_reads os enc
  refine returnsInHanded_of_row (C := Try.checked) (s := OpenSpec.ofChange Rows.breakerBestSpec) own started (by kernel_rfl) Try.func3
    (witness_row_atRef (enc := enc) (C := Try.checked) false (World.laidAll Try.prog os laidList) #[.slice none 0 0, .int .i64 0, .int .i64 0] (World.laidAll_os _ _ _) (by kernel_rfl) (by kernel_rfl) (by kernel_rfl)
      (OpenSpec.preRow_of_cond 8 hx (by kernel_rfl) (fun k hk => by cases hk) (by kernel_rfl) (breakerBest_laid_met os))) ?_
  intro W base args ds gs before hval hW _ _ hz hL hsh _
  exact breakerBest_contract H enc W base args ds gs before hval hW hz

theorem breakerBest_full : Rows.BreakerBestSaid :=
  OpenClaim.holds_of_cond 3 Try.f3 rfl rfl rfl rfl rfl rfl rfl ⟨rfl, rfl, rfl, rfl, rfl⟩ rfl rfl rfl rfl rfl (by kernel_rfl) Try.func3 (by kernel_rfl)
    (of_decide_eq_true (by kernel_rfl)) (by unfold Func.isWrapper; first | (rw [if_pos (by decide +kernel)]; kernel_rfl) | (rw [if_neg (by decide +kernel)]; exact ⟨rfl, rfl⟩))
    (fun os started H enc _ F => by rw [OpenClaim.pre_eq_preRow]; exact breakerBest_lifted os started H enc F)

end Go.Proofs.Ytdimfmpolbijeaa
