/-
  PROVED: the law BreakerAll at every argument: of all breaks that may be none are less bad, nor as bad with an earlier first one that is unlike.
  Conditions: none.
-/
import Derived.Test.YtdimfmpolbijeaaRows
import Derived.Test.YtdimfmpolbijeaaTot10
import Derived.Deep.Slices
import Derived.ProofKit
import Derived.ChangeSlices
import Derived.Lay
import Derived.Lib.LaidU8T
import Derived.OpenShut
import Derived.Deep.DeepHandedRow
import Derived.Deep.DeepWitnessRowRef
import Derived.LaidMore
import Derived.Stop.LaidErr
import Derived.Lib.SmallJoins
import Derived.SevenTiedAt
import Derived.SizedLaws
import Derived.Test.YtdimfmpolbijeaaCallsM11
import Derived.Test.YtdimfmpolbijeaaRefTotal10
set_option linter.unusedVariables false
set_option linter.unusedSimpArgs false
set_option maxRecDepth 20000
namespace Go.Proofs.Ytdimfmpolbijeaa
open Go.ChangeShapes Go.WideShapes Go.ChangeAt Go.RowKit

theorem cGl9 : Try.prog.cellsOf 45 = 4 := by kernel_rfl
theorem cIt9 : Try.prog.cellsOf 47 = 9 := by kernel_rfl
theorem cI649 : Try.prog.cellsOf 2 = 1 := by kernel_rfl
theorem cInt9 : Try.prog.cellsOf 3 = 1 := by kernel_rfl
theorem cBool9 : Try.prog.cellsOf 4 = 1 := by kernel_rfl
theorem cStr9 : Try.prog.cellsOf 9 = 1 := by kernel_rfl
theorem two_fields {fs : Array Field} {a b : TypeId × Nat} (h : fs.toList.map (fun f => (f.type, f.offset)) = [a, b]) : ∃ f0 f1 : Field, fs = #[f0, f1] ∧ (f0.type = a.1 ∧ f0.offset = a.2) ∧ (f1.type = b.1 ∧ f1.offset = b.2) := by
  obtain ⟨l⟩ := fs
  have hl : l.length = 2 := by simpa using congrArg List.length h
  match l, hl with
  | [x, y], _ =>
    simp only [List.map_cons, List.map_nil, List.cons.injEq] at h
    obtain ⟨rfl, rfl, _⟩ := h
    exact ⟨x, y, rfl, ⟨rfl, rfl⟩, ⟨rfl, rfl⟩⟩
theorem four_fields {fs : Array Field} {a b c d : TypeId × Nat} (h : fs.toList.map (fun f => (f.type, f.offset)) = [a, b, c, d]) : ∃ f0 f1 f2 f3 : Field, fs = #[f0, f1, f2, f3] ∧ (f0.type = a.1 ∧ f0.offset = a.2) ∧ (f1.type = b.1 ∧ f1.offset = b.2) ∧ (f2.type = c.1 ∧ f2.offset = c.2) ∧ (f3.type = d.1 ∧ f3.offset = d.2) := by
  obtain ⟨l⟩ := fs
  have hl : l.length = 4 := by simpa using congrArg List.length h
  match l, hl with
  | [x, y, z, q], _ =>
    simp only [List.map_cons, List.map_nil, List.cons.injEq] at h
    obtain ⟨rfl, rfl, rfl, rfl, _⟩ := h
    exact ⟨x, y, z, q, rfl, ⟨rfl, rfl⟩, ⟨rfl, rfl⟩, ⟨rfl, rfl⟩, ⟨rfl, rfl⟩⟩
theorem six_fields {fs : Array Field} {a b c d e g : TypeId × Nat} (h : fs.toList.map (fun f => (f.type, f.offset)) = [a, b, c, d, e, g]) : ∃ f0 f1 f2 f3 f4 f5 : Field, fs = #[f0, f1, f2, f3, f4, f5] ∧ (f0.type = a.1 ∧ f0.offset = a.2) ∧ (f1.type = b.1 ∧ f1.offset = b.2) ∧ (f2.type = c.1 ∧ f2.offset = c.2) ∧ (f3.type = d.1 ∧ f3.offset = d.2) ∧ (f4.type = e.1 ∧ f4.offset = e.2) ∧ (f5.type = g.1 ∧ f5.offset = g.2) := by
  obtain ⟨l⟩ := fs
  have hl : l.length = 6 := by simpa using congrArg List.length h
  match l, hl with
  | [x, y, z, q, r, s], _ =>
    simp only [List.map_cons, List.map_nil, List.cons.injEq] at h
    obtain ⟨rfl, rfl, rfl, rfl, rfl, rfl, _⟩ := h
    exact ⟨x, y, z, q, r, s, rfl, ⟨rfl, rfl⟩, ⟨rfl, rfl⟩, ⟨rfl, rfl⟩, ⟨rfl, rfl⟩, ⟨rfl, rfl⟩, ⟨rfl, rfl⟩⟩
theorem five_fields {fs : Array Field} {a b c d g : TypeId × Nat} (h : fs.toList.map (fun f => (f.type, f.offset)) = [a, b, c, d, g]) : ∃ f0 f1 f2 f3 f4 : Field, fs = #[f0, f1, f2, f3, f4] ∧ (f0.type = a.1 ∧ f0.offset = a.2) := by
  obtain ⟨l⟩ := fs
  have hl : l.length = 5 := by simpa using congrArg List.length h
  match l, hl with
  | [x, y, z, q, r], _ =>
    simp only [List.map_cons, List.map_nil, List.cons.injEq] at h
    obtain ⟨rfl, rfl, rfl, rfl, rfl, _⟩ := h
    exact ⟨x, y, z, q, r, rfl, ⟨rfl, rfl⟩⟩
instance : Inhabited It.Gl := ⟨⟨0, 0, 0, 0⟩⟩
instance : Inhabited It.Itm := ⟨⟨0, ⟨0, 0, 0, 0⟩, 0, false, 0, 0⟩⟩
instance : Inhabited It.Pt := ⟨⟨ByteArray.empty, 0, 0, 0⟩⟩
section
variable {H : Type} {enc : TypeId × Value → H} {W : World} {base : Nat} {held : Bool} {spare : Nat → Bool}

theorem gl_open {fuel : Nat} {cs : List Value} {x : DataW H × List MemPlace} (h : DataW.trod enc Try.prog W base spare held fuel 45 cs = some x) : ∃ g : It.Gl, cs = glC g := by
  obtain ⟨f0, f1, f2, f3, hfs, ⟨t0, o0⟩, ⟨t1, o1⟩, ⟨t2, o2⟩, ⟨t3, o3⟩⟩ := four_fields (show (Try.prog.fieldsOf 45).toList.map (fun f => (f.type, f.offset)) = [(2, 0), (2, 1), (2, 2), (3, 3)] by kernel_rfl)
  obtain ⟨xs, m, hm', hxe, hcl, hxl, hxi⟩ := DataW.trod_struct uGl9 h
  rw [hfs] at hxl hxi
  rw [cGl9] at hcl
  match cs, hcl, xs, hxl with
  | [v0, v1, v2, v3], _, [y0, y1, y2, y3], _ =>
    have g0 := hxi 0 f0 rfl
    have g1 := hxi 1 f1 rfl
    have g2 := hxi 2 f2 rfl
    have g3 := hxi 3 f3 rfl
    rw [t0, o0, cI649] at g0
    rw [t1, o1, cI649] at g1
    rw [t2, o2, cI649] at g2
    rw [t3, o3, cInt9] at g3
    simp at g0 g1 g2 g3
    obtain ⟨a, e0, _, w0⟩ := DataW.trod_int Try.underlying2 g0
    obtain ⟨b, e1, _, w1⟩ := DataW.trod_int Try.underlying2 g1
    obtain ⟨c, e2, _, w2⟩ := DataW.trod_int Try.underlying2 g2
    obtain ⟨d, e3, _, w3⟩ := DataW.trod_int Try.underlying3 g3
    simp at e0 e1 e2 e3
    subst e0 e1 e2 e3
    exact ⟨⟨a, b, c, d⟩, rfl⟩
theorem it_open {fuel : Nat} {cs : List Value} {x : DataW H × List MemPlace} (h : DataW.trod enc Try.prog W base spare held fuel 47 cs = some x) : ∃ p : It.Itm, cs = itC p := by
  obtain ⟨f0, f1, f2, f3, f4, f5, hfs, ⟨t0, o0⟩, ⟨t1, o1⟩, ⟨t2, o2⟩, ⟨t3, o3⟩, ⟨t4, o4⟩, ⟨t5, o5⟩⟩ := six_fields (show (Try.prog.fieldsOf 47).toList.map (fun f => (f.type, f.offset)) = [(3, 0), (45, 1), (3, 5), (4, 6), (3, 7), (3, 8)] by kernel_rfl)
  obtain ⟨xs, m, hm', hxe, hcl, hxl, hxi⟩ := DataW.trod_struct uIt9 h
  rw [hfs] at hxl hxi
  rw [cIt9] at hcl
  match cs, hcl, xs, hxl with
  | [v0, v1, v2, v3, v4, v5, v6, v7, v8], _, [y0, y1, y2, y3, y4, y5], _ =>
    have g0 := hxi 0 f0 rfl
    have g1 := hxi 1 f1 rfl
    have g2 := hxi 2 f2 rfl
    have g3 := hxi 3 f3 rfl
    have g4 := hxi 4 f4 rfl
    have g5 := hxi 5 f5 rfl
    rw [t0, o0, cInt9] at g0
    rw [t1, o1, cGl9] at g1
    rw [t2, o2, cInt9] at g2
    rw [t3, o3, cBool9] at g3
    rw [t4, o4, cInt9] at g4
    rw [t5, o5, cInt9] at g5
    simp at g0 g1 g2 g3 g4 g5
    obtain ⟨a, e0, _, w0⟩ := DataW.trod_int Try.underlying3 g0
    obtain ⟨g, e1⟩ := gl_open g1
    obtain ⟨c, e2, _, w2⟩ := DataW.trod_int Try.underlying3 g2
    obtain ⟨d, e3, _⟩ := DataW.trod_bool Try.underlying4 g3
    obtain ⟨e, e4, _, w4⟩ := DataW.trod_int Try.underlying3 g4
    obtain ⟨f, e5, _, w5⟩ := DataW.trod_int Try.underlying3 g5
    simp [glC] at e0 e1 e2 e3 e4 e5
    obtain ⟨rfl, rfl, rfl, rfl⟩ := e1
    subst e0 e2 e3 e4 e5
    exact ⟨⟨a, g, c, d, e, f⟩, rfl⟩
theorem bulk_len {H : Type} (ds : List (DataW H)) : ds.length ≤ Rows.uptoBulkAll ds := by
  induction ds with
  | nil => exact Nat.zero_le _
  | cons d r ih =>
    simp only [List.length_cons, Rows.uptoBulkAll]
    have : 1 ≤ Rows.uptoBulk d := by
      unfold Rows.uptoBulk
      split <;> omega
    omega
/-- a slice of records, as it comes in -/
theorem recs_open {α : Type} [Inhabited α] {T S : TypeId} (hS : Try.prog.underlying S = some (.slice T)) {k : Nat} (hk : Try.prog.cellsOf T = k) (hk0 : 0 < k) {f : α → List Value} (hf : ∀ x, (f x).length = k)
    (each : ∀ (fuel : Nat) (cs : List Value) (x : DataW H × List MemPlace), DataW.trod enc Try.prog W base spare held fuel T cs = some x → ∃ a, cs = f a)
    {fuel : Nat} {cs : List Value} {x : DataW H × List MemPlace} (h : DataW.trod enc Try.prog W base spare held fuel S cs = some x) :
    ∃ v l, cs = [v] ∧ SlcAt f k W v l ∧ l.length + 1 ≤ Rows.uptoBulk x.1 ∧ ∃ elems rest, (x.1 = .nil ∧ l = []) ∨ (x.1 = .slice elems rest ∧ l.length ≤ elems.length) := by
  rcases DataW.trod_slice hS h with ⟨rfl, rfl⟩ | ⟨a, len, cap, elems, rest, n, hn, rfl, rfl, _, hl, hm, hlen, hel, _, _⟩
  · exact ⟨_, [], rfl, slc_none _ _ _, by simp [Rows.uptoBulk], [], [], .inl ⟨rfl, rfl⟩⟩
  · have each2 : ∀ i, i < len → ∃ y : α, ∀ j, j < k → W.cell? ((a.add (i * k)).add j) = (f y)[j]? := fun i hi => by
      have h1 := hel i hi
      rw [hk] at h1
      have hlt : i < elems.length := by omega
      rw [List.getElem?_eq_getElem hlt] at h1
      obtain ⟨cs', hc, hy⟩ := Option.bind_eq_some_iff.1 h1
      obtain ⟨y, rfl⟩ := each _ _ _ hy
      obtain ⟨_, _, hcells⟩ := World.cells?_some hc
      exact ⟨y, fun j hj => hcells j hj⟩
    obtain ⟨F, hF⟩ := Go.Deep.choose_lt each2
    have hln : ((List.range len).map F).length = len := by simp
    refine ⟨_, (List.range len).map F, rfl, ⟨⟨some a, cap, by rw [hln], by rw [hln]; exact hl⟩, by rw [hln]; omega, fun hp => ?_⟩, ?_, _, _, .inr ⟨rfl, by rw [hln]; simp [hlen]⟩⟩
    · rw [hln] at hp
      obtain ⟨b, off, spot⟩ := a
      have h00 := (hF 0 (by omega)) 0 hk0
      have hspot : spot = none := by
        have hu : ∃ u, (f (F 0))[0]? = some u := ⟨_, List.getElem?_eq_getElem (by rw [hf]; exact hk0)⟩
        obtain ⟨u, hu⟩ := hu
        rw [hu] at h00
        have h01 : W.cell? ⟨b, off, spot⟩ = some u := by simpa [Addr.add] using h00
        exact World.cell?_spot h01
      subst hspot
      refine ⟨b, off, cap, by rw [hln], fun i t hi j u hj => ?_⟩
      have hil : i < len := by
        rcases Nat.lt_or_ge i len with h' | h'
        · exact h'
        · rw [List.getElem?_eq_none (by rw [hln]; exact h')] at hi; cases hi
      have hti : F i = t := by
        rw [List.getElem?_map, List.getElem?_range hil] at hi
        exact Option.some.inj hi
      have q := (hF i hil) j (by rw [← hf t]; exact (List.getElem?_eq_some_iff.1 hj).1)
      rw [hti, hj, Go.WideShapes.add_plain, Go.WideShapes.add_plain] at q
      exact q
    · rw [hln]
      have := bulk_len (elems.map (·.1))
      simp only [List.length_map] at this
      simp only [Rows.uptoBulk]
      omega
theorem bulk_sum {α : Type} {H : Type} {sz : α → Nat} : ∀ (l : List α) (ds : List (DataW H)), l.length = ds.length → (∀ (i : Nat) (n : α) (d : DataW H), l[i]? = some n → ds[i]? = some d → sz n ≤ Rows.uptoBulk d) → (l.map sz).sum ≤ Rows.uptoBulkAll ds
  | [], ds, _, _ => by simp
  | n :: r, [], h, _ => by simp at h
  | n :: r, d :: ds, h, hi => by
    have h0 := hi 0 n d rfl rfl
    have ih := bulk_sum (sz := sz) r ds (by simpa using h) (fun i n d h1 h2 => hi (i + 1) n d (by simpa using h1) (by simpa using h2))
    simp only [List.map_cons, List.sum_cons, Rows.uptoBulkAll]
    omega
/-- a slice of slices, as it comes in -/
theorem rows_open {α : Type} [Inhabited α] {T S : TypeId} (hS : Try.prog.underlying S = some (.slice T)) (hk : Try.prog.cellsOf T = 1) {R : World → Value → α → Prop} {sz : α → Nat}
    (each : ∀ (fuel : Nat) (cs : List Value) (x : DataW H × List MemPlace), DataW.trod enc Try.prog W base spare held fuel T cs = some x → ∃ v a, cs = [v] ∧ R W v a ∧ sz a ≤ Rows.uptoBulk x.1)
    {fuel : Nat} {cs : List Value} {x : DataW H × List MemPlace} (h : DataW.trod enc Try.prog W base spare held fuel S cs = some x) :
    ∃ v l, cs = [v] ∧ RowAt R W v l ∧ (l.map sz).sum + 1 ≤ Rows.uptoBulk x.1 := by
  rcases DataW.trod_slice hS h with ⟨rfl, rfl⟩ | ⟨a, len, cap, elems, rest, n, hn, rfl, rfl, _, hl, hm, hlen, hel, _, _⟩
  · exact ⟨_, [], rfl, row_none _ _, by simp [Rows.uptoBulk]⟩
  · have each2 : ∀ i, i < len → ∃ y : α, ∃ u z, elems[i]? = some z ∧ sz y ≤ Rows.uptoBulk z.1 ∧ W.cell? (a.add i) = some u ∧ R W u y := fun i hi => by
      have h1 := hel i hi
      rw [hk, Nat.mul_one] at h1
      have hlt : i < elems.length := by omega
      rw [List.getElem?_eq_getElem hlt] at h1
      obtain ⟨cs', hc, hy⟩ := Option.bind_eq_some_iff.1 h1
      obtain ⟨u, y, rfl, hr, hz⟩ := each _ _ _ hy
      obtain ⟨_, _, hcells⟩ := World.cells?_some hc
      have h0 := hcells 0 (by omega)
      refine ⟨y, u, _, List.getElem?_eq_getElem hlt, hz, ?_, hr⟩
      have e : (a.add i).add 0 = a.add i := by unfold Addr.add; split <;> simp_all
      rw [e] at h0
      exact h0
    obtain ⟨F, hF⟩ := Go.Deep.choose_lt each2
    have hln : ((List.range len).map F).length = len := by simp
    refine ⟨_, (List.range len).map F, rfl, ⟨⟨some a, cap, by rw [hln], by rw [hln]; exact hl⟩, by rw [hln]; omega, fun hp => ?_⟩, ?_⟩
    · rw [hln] at hp
      obtain ⟨b, off, spot⟩ := a
      obtain ⟨u0, z0, _, _, h00, _⟩ := hF 0 (by omega)
      have hspot : spot = none := by
        have h01 : W.cell? ⟨b, off, spot⟩ = some u0 := by simpa [Addr.add] using h00
        exact World.cell?_spot h01
      subst hspot
      refine ⟨b, off, cap, by rw [hln], fun i t hi => ?_⟩
      have hil : i < len := by
        rcases Nat.lt_or_ge i len with h' | h'
        · exact h'
        · rw [List.getElem?_eq_none (by rw [hln]; exact h')] at hi; cases hi
      have hti : F i = t := by
        rw [List.getElem?_map, List.getElem?_range hil] at hi
        exact Option.some.inj hi
      obtain ⟨u, z, _, _, hc, hr⟩ := hF i hil
      rw [hti] at hr
      rw [Go.WideShapes.add_plain] at hc
      exact ⟨u, hc, hr⟩
    · have hle : ((List.range len).map F).length ≤ (elems.map (·.1)).length := by simp [hlen]
      have hb := bulk_sum (sz := sz) ((List.range len).map F) ((elems.map (·.1)).take len) (by simp [hlen]) (fun i y d h1 h2 => by
        have hil : i < len := by
          rcases Nat.lt_or_ge i len with h' | h'
          · exact h'
          · rw [List.getElem?_eq_none (by rw [hln]; exact h')] at h1; cases h1
        rw [List.getElem?_map, List.getElem?_range hil] at h1
        have hti : F i = y := Option.some.inj h1
        obtain ⟨u, z, hz1, hz2, _, _⟩ := hF i hil
        rw [List.getElem?_take_of_lt hil, List.getElem?_map, hz1] at h2
        have : z.1 = d := Option.some.inj h2
        rw [hti, this] at hz2
        exact hz2)
      have hb2 : Rows.uptoBulkAll ((elems.map (·.1)).take len) ≤ Rows.uptoBulkAll (elems.map (·.1)) := by
        have e : elems.map (·.1) = (elems.map (·.1)).take len ++ (elems.map (·.1)).drop len := (List.take_append_drop _ _).symm
        have app : ∀ p q : List (DataW H), Rows.uptoBulkAll p ≤ Rows.uptoBulkAll (p ++ q) := fun p q => by
          induction p with
          | nil => simp [Rows.uptoBulkAll]
          | cons y r ih => simp only [List.cons_append, Rows.uptoBulkAll]; omega
        conv => rhs; rw [e]
        exact app _ _
      simp only [Rows.uptoBulk]
      omega

/-! ### how much there is -/
def szP (l : List It.Pt) : Nat := l.length + 1
def szW (ws : List (List It.Pt)) : Nat := (ws.map szP).sum + 1
def szL (ls : List (List (List It.Pt))) : Nat := (ls.map szW).sum + 1
theorem wordsI_len (sp : It.Gl) (hy : Int) : ∀ (ws : List (List It.Pt)) (n : Int) (i : Nat), (It.wordsI sp hy n i ws).length ≤ 2 * (ws.map szP).sum
  | [], n, i => by simp [It.wordsI]
  | w :: r, n, i => by
    have h1 := (It.wordI_len hy n w 0).2
    have h2 := wordsI_len sp hy r (n + 1) (i + 1)
    simp only [It.wordsI, List.length_append, List.map_cons, List.sum_cons, szP] at h2 ⊢
    split <;> simp <;> omega
theorem versI_len (sp : It.Gl) (hy : Int) : ∀ (ls : List (List (List It.Pt))) (n : Int), (It.versI sp hy n ls).length ≤ 3 * (ls.map szW).sum
  | [], n => by simp [It.versI]
  | l :: r, n => by
    have h1 := wordsI_len sp hy l n 0
    have h2 := versI_len sp hy r (n + l.length)
    have h3 : It.endI.length = 3 := rfl
    simp only [It.versI, List.length_append, List.map_cons, List.sum_cons, szW, h3] at h2 ⊢
    omega
theorem items_in {v : Value} {d : DataW H} {p : List MemPlace} (h : DataW.Trod enc Try.prog W base spare held 22 v d p) (hs : v.cells.toList = [v]) : ∃ l, ItsAt W v l ∧ (l = [] ∨ ∃ elems rest, d = .slice elems rest ∧ l.length ≤ elems.length) := by
  obtain ⟨fuel, hf⟩ := h
  rw [hs] at hf
  obtain ⟨v', a, e, h1, _, els, rst, h3⟩ := recs_open Try.underlying22 cIt9 (by decide) (f := itC) (fun x => rfl) (fun fuel cs x h => it_open h) hf
  injection e with e1
  subst e1
  refine ⟨a, h1, ?_⟩
  rcases h3 with ⟨_, h⟩ | ⟨h, h4⟩
  · exact .inl h
  · exact .inr ⟨els, rst, h, h4⟩
/-- numbers, as they come in -/
theorem ints_in {v : Value} {d : DataW H} {p : List MemPlace}
    (h : DataW.Trod enc Try.prog W base spare held 24 v d p) (hs : v.cells.toList = [v]) :
    ∃ xs : List Int, IntsAt .i64 W v xs := by
  obtain ⟨fuel, hf⟩ := h
  rw [hs] at hf
  rcases Go.ChangeShapes.open_ints Try.underlying24 Try.underlying3 cInt9 hf with ⟨hc, hx⟩ | ⟨a, len, cap, zs, hc, _, hl, hm, hlen, hx, hcell, _⟩
  · injection hc with hc _
    exact ⟨[], by rw [hc]; exact ints_none _ _⟩
  · injection hc with hc _
    have hlm : len ≤ zs.length := by rw [hlen]; split <;> omega
    have hln : (zs.take len).length = len := by rw [List.length_take]; omega
    refine ⟨zs.take len, ⟨⟨some a, cap, by rw [hc, hln], by rw [hln]; exact hl⟩, by rw [hln]; omega, fun hp => ?_⟩⟩
    rw [hln] at hp
    obtain ⟨b, off, spot⟩ := a
    have hspot : spot = none := by simpa [Addr.add] using World.cell?_spot (hcell 0 (by omega))
    subst hspot
    refine ⟨b, off, cap, by rw [hc, hln], fun i s hi => ?_⟩
    have hil : i < len := by
      rcases Nat.lt_or_ge i len with h' | h'
      · exact h'
      · rw [List.getElem?_eq_none (by rw [hln]; exact h')] at hi; cases hi
    have h1 := hcell i (by omega)
    rw [Go.WideShapes.add_plain] at h1
    rw [List.getElem?_take_of_lt hil] at hi
    rw [show zs.getD i 0 = s by rw [List.getD_eq_getElem?_getD, hi]; rfl] at h1
    exact h1
end
end Go.Proofs.Ytdimfmpolbijeaa

namespace Go.Proofs.Ytdimfmpolbijeaa
open Go.ChangeShapes Go.WideShapes Go.ChangeAt Go.RowKit
theorem uCh11 : Try.prog.underlying 35 = some (.struct (Try.prog.fieldsOf 35)) := by kernel_rfl
theorem cCh11 : Try.prog.cellsOf 35 = 2 := by kernel_rfl
section
variable {H : Type} {enc : TypeId × Value → H} {W : World} {base : Nat} {held : Bool} {spare : Nat → Bool}
set_option maxRecDepth 100000 in
theorem choice_in {v : Value} {d : DataW H} {p : List MemPlace} (h : DataW.Trod enc Try.prog W base spare held 35 v d p) {cs : Array Value} (hv : v = .agg cs) : ∃ a b : Int, v = .agg #[.int .i64 a, .int .i64 b] := by
  obtain ⟨fuel, hf⟩ := h
  subst hv
  obtain ⟨f0, f1, hfs, ⟨t0, o0⟩, ⟨t1, o1⟩⟩ := two_fields (show (Try.prog.fieldsOf 35).toList.map (fun f => (f.type, f.offset)) = [(3, 0), (3, 1)] by kernel_rfl)
  obtain ⟨xs, m, hm', hxe, hcl, hxl, hxi⟩ := DataW.trod_struct uCh11 hf
  have hcs : (Value.agg cs).cells.toList = cs.toList := rfl
  rw [hcs] at hcl hxi
  rw [hfs] at hxl hxi
  rw [cCh11] at hcl
  obtain ⟨l⟩ := cs
  simp only [] at hcl hxi
  match l, hcl, xs, hxl with
  | [v0, v1], _, [y0, y1], _ =>
    have g0 := hxi 0 f0 rfl
    have g1 := hxi 1 f1 rfl
    rw [t0, o0, cInt9] at g0
    rw [t1, o1, cInt9] at g1
    simp at g0 g1
    obtain ⟨a, e0, _, w0⟩ := DataW.trod_int Try.underlying3 g0
    obtain ⟨b, e1, _, w1⟩ := DataW.trod_int Try.underlying3 g1
    simp at e0 e1
    subst e0 e1
    exact ⟨a, b, rfl⟩
end
end Go.Proofs.Ytdimfmpolbijeaa

namespace Go.Proofs.Ytdimfmpolbijeaa
open Go.ChangeShapes Go.WideShapes Go.ChangeAt Go.RowKit

theorem own : ownKnob Try.prog.godebug = none := by kernel_rfl
theorem laidOut : laidOutB Try.prog = true := by kernel_rfl
/-- the list that every row of this seat bears -/
def laidList : List (String × DataW Unit) := []
section
variable {H : Type} {enc : TypeId × Value → H} {P : Program}
/-- the arguments read behind the call as they did before -/
theorem args_kept (hl : laidOutB P = true) {W W' : World} (hb : Below W.heap.size W W') : ∀ (ts : List TypeId) (vs : List Value) (ds : List (DataW H)) (ps : List MemPlace), (∀ t ∈ ts, P.readableRec t = true ∧ t < P.types.size) →
    DataW.TrodAll enc P W 0 (fun _ => true) true ts vs ds ps → (∀ x ∈ ps, x.block < W.heap.size) → DataW.TrodAll enc P W' 0 (fun b => decide (b < W.heap.size)) true ts vs ds ps
  | [], vs, ds, ps, _, h, _ => by
    obtain ⟨rfl, rfl, rfl⟩ := trodAll_nil h
    exact trodAll_mk0
  | t :: ts, vs, ds, ps, hr, h, hlt => by
    obtain ⟨v, vs', d, ds', p, q, rfl, rfl, rfl, h0, r0⟩ := trodAll_cons h
    have h1 := hr t (List.mem_cons_self ..)
    exact trodAll_cons_mk (Below.trod hl h1.1 h1.2 h0 hb (fun x hx => hlt x (List.mem_append_left _ hx))) (args_kept hl hb ts vs' ds' q (fun t ht => hr t (List.mem_cons_of_mem _ ht)) r0 (fun x hx => hlt x (List.mem_append_right _ hx)))
end
end Go.Proofs.Ytdimfmpolbijeaa

namespace Go.Proofs.Ytdimfmpolbijeaa
open Go.RowKit

namespace It
/-- how many of the m items from i on may be broken at -/
def manyF (l : List Itm) : Nat → Nat → Nat
  | 0, _ => 0
  | m + 1, i => (if legal l i = true then 1 else 0) + manyF l m (i + 1)
theorem manyF_le (l : List Itm) : ∀ m i, manyF l m i ≤ m
  | 0, _ => Nat.le_refl _
  | m + 1, i => by
    have := manyF_le l m (i + 1)
    simp only [manyF]
    split <;> omega
end It
theorem half_bits {z : Int} (h0 : 0 ≤ z) (h1 : z < 9223372036854775808) (r : Int) (hr : r = 0 ∨ r = 1) (h2 : 2 * z + r < 9223372036854775808) : (2 * z + r).tmod 2 = r ∧ RowKit.wrap64 ((2 * z + r).tdiv 2) = z := by
  have e1 : (2 * z + r).tmod 2 = (2 * z + r) % 2 := Int.tmod_eq_emod_of_nonneg (by omega)
  have e2 : (2 * z + r).tdiv 2 = (2 * z + r) / 2 := Int.tdiv_eq_ediv_of_nonneg (by omega)
  rw [e1, e2]
  constructor
  · omega
  · rw [show (2 * z + r) / 2 = z by omega]
    unfold RowKit.wrap64
    omega
theorem run_gt {l : List It.Itm} {t tol : Int} : ∀ {bs : List Int} {a q y : Int}, It.run l t tol a q bs = some y → ∀ b ∈ bs, a < b
  | [], a, q, y, h, b, hb => by simp at hb
  | b :: r, a, q, y, h, x, hx => by
    obtain ⟨d, c, y', h1, h2, h3, h4, h5, h6, h7⟩ := run_cons h
    rcases List.mem_cons.1 hx with rfl | hx
    · exact h4
    · have := run_gt h2 x hx; omega
/-- breaks that go on from a, chosen by bits -/
theorem bits_of {l : List It.Itm} {t tol : Int} : ∀ (m i : Nat) (a q y : Int) (bs : List Int), i + m = l.length → a < (i : Int) → (∀ b ∈ bs, (i : Int) ≤ b) → m ≤ 60 → It.run l t tol a q bs = some y → ∃ z : Int, 0 ≤ z ∧ z < 2 ^ It.manyF l m i ∧ It.chooseF l m i z = bs
  | 0, i, a, q, y, bs, him, hai, hbs, hm, hr => by
    refine ⟨0, Int.le_refl _, by simp [It.manyF], ?_⟩
    cases bs with
    | nil => rfl
    | cons b r =>
      obtain ⟨d, c, y', h1, h2, h3, h4, h5, h6, h7⟩ := run_cons hr
      have := hbs b List.mem_cons_self
      omega
  | m + 1, i, a, q, y, bs, him, hai, hbs, hm, hr => by
    cases bs with
    | nil =>
      have := run_end hr
      omega
    | cons b r =>
      obtain ⟨d, c, y', h1, h2, h3, h4, h5, h6, h7⟩ := run_cons hr
      have hib := hbs b List.mem_cons_self
      have hpow : ∀ k, k ≤ 60 → (2 : Int) ^ k ≤ 2 ^ 60 := fun k hk => by
        have : (2 : Nat) ^ k ≤ 2 ^ 60 := Nat.pow_le_pow_right (by omega) hk
        exact_mod_cast this
      have hml := It.manyF_le l m (i + 1)
      have hp := hpow (It.manyF l m (i + 1)) (by omega)
      by_cases hbi : b = (i : Int)
      · subst hbi
        have hgt : ∀ x ∈ r, ((i + 1 : Nat) : Int) ≤ x := fun x hx => by
          have := (run_gt h2) x hx
          omega
        obtain ⟨z, z0, z1, z2⟩ := bits_of m (i + 1) (i : Int) c y' r (by omega) (by omega) hgt (by omega) h2
        obtain ⟨e1, e2⟩ := half_bits (z := z) z0 (by omega) 1 (.inr rfl) (by omega)
        refine ⟨2 * z + 1, by omega, ?_, ?_⟩
        · simp only [It.manyF]
          rw [if_pos h7, Nat.add_comm, Int.pow_succ]
          omega
        · simp only [It.chooseF]
          rw [if_pos h7, if_pos (.inl e1), e2, z2]
      · have hgt : ∀ x ∈ b :: r, ((i + 1 : Nat) : Int) ≤ x := fun x hx => by
          rcases List.mem_cons.1 hx with rfl | hx
          · omega
          · have := (run_gt h2) x hx
            omega
        obtain ⟨z, z0, z1, z2⟩ := bits_of m (i + 1) a q y (b :: r) (by omega) (by omega) hgt (by omega) hr
        cases hl : It.legal l (i : Int) with
        | false =>
          refine ⟨z, z0, ?_, ?_⟩
          · simp only [It.manyF]
            rw [if_neg (by rw [hl]; simp), Nat.zero_add]
            exact z1
          · simp only [It.chooseF]
            rw [if_neg (by rw [hl]; simp), z2]
        | true =>
          obtain ⟨e1, e2⟩ := half_bits (z := z) z0 (by omega) 0 (.inl rfl) (by omega)
          refine ⟨2 * z + 0, by omega, ?_, ?_⟩
          · simp only [It.manyF]
            rw [if_pos hl, Nat.add_comm, Int.pow_succ]
            omega
          · simp only [It.chooseF]
            rw [if_pos hl, if_neg (by intro h; rcases h with h | h <;> omega), e2, z2]
end Go.Proofs.Ytdimfmpolbijeaa

namespace Go.Proofs.Ytdimfmpolbijeaa
open Go.RowKit

/-- what a list of breaks costs together, as it is told -/
theorem total_told2 (v : Value) (l : List It.Itm) (t tol : Int) (hlen : l.length ≤ 2000) (u : Value) (cs : List Int) (w : World) (h : ItsAt w v l) (hu : NumsAt w u cs) : Calls Try.prog 15 #[v, u, .int .i64 t, .int .i64 tol] w fun e w' => ∃ d q, e = .returned (.tuple #[.int .i64 d, .bool q]) ∧ (q = true → It.total l cs t tol = some d) ∧ (q = false → It.total l cs t tol = none) ∧ Below w.heap.size w w' := by
  refine (refDemTotal_any v u l cs t tol w h hlen (nums_ints hu)).mono ?_
  rintro e w' ⟨rfl, hb⟩
  cases ht : It.total l cs t tol with
  | none => exact ⟨0, false, rfl, fun e => (by cases e), fun _ => rfl, hb⟩
  | some d => exact ⟨d, true, rfl, fun _ => rfl, fun e => (by cases e), hb⟩

set_option maxHeartbeats 4000000 in
set_option maxRecDepth 100000 in
theorem many_any (v : Value) (l : List It.Itm) (w : World) (h : ItsAt w v l) : Calls Try.prog 17 #[v] w (Ret (.int .i64 (It.manyF l l.length 0 : Nat)) w) := by
  have HA := Lib.hid h
  have HLg := Lib.hid (fun b w h => refLegal_any v l b w h)
  obtain ⟨⟨p, cp, rfl, hcap⟩, hm, _⟩ := h
  have hza : l.length ≤ 9223372036854775807 := by unfold maxLen at hm; omega
  obtain ⟨n, hn⟩ : ∃ n, n = l.length := ⟨_, rfl⟩
  have hA' := HA.out
  rw [← hn] at HLg hza hA' ⊢
  have HA' := Lib.hid hA'
  obtain ⟨M, hM⟩ : ∃ M, M = It.manyF l n 0 := ⟨_, rfl⟩
  have HMm := Lib.hid hM
  rw [← hM]
  have HB0 := Lib.hid (Below.refl w.heap.size w)
  clear hcap hm hn hA' hM
  go_enter Try.func17, Try.ntmps17
  go_wp2_with fail
  go_loopw [3, 4] (fun cv iv wr => ∃ c i : Nat, i ≤ n ∧ c ≤ i ∧ cv = .int .i64 c ∧ iv = .int .i64 i ∧ Hid (c + It.manyF l (n - i) i = M) ∧ Hid (Below w.heap.size w wr)) (fun _ iv _ => n - (intOf iv).toNat)
  case atStart => exact ⟨0, 0, Nat.zero_le _, Nat.le_refl _, rfl, rfl, Lib.hid (by rw [HMm.out]; simp), HB0⟩
  case round =>
    obtain ⟨c, i, hi, hci, rfl, rfl, HC, HB⟩ := hrel
    clear HB0
    by_cases hlt : i < n
    · have hni : n - i = (n - (i + 1)) + 1 := by omega
      have HLr := Lib.hid (HLg.out (i : Int) wr (SlcAt.mono HA'.out HB.out))
      have HCn := Lib.hid HC.out
      rw [hni] at HCn
      unfold It.manyF at HCn
      cases hlg : It.legal l (i : Int) with
      | false =>
        rw [hlg] at HLr HCn
        simp only [Bool.false_eq_true, if_false, Nat.zero_add] at HCn
        clear hlg
        go_wp2_with fail
        refine HLr.out.mono ?_
        rintro e w2 ⟨rfl, rfl⟩
        go_wp2
        go_roundw
        case rel => exact ⟨c, i + 1, by omega, by omega, rfl, by go_num, HCn, HB⟩
        case measure => simp [intOf]; omega
      | true =>
        rw [hlg] at HLr HCn
        simp only [if_true] at HCn
        clear hlg
        go_wp2_with fail
        refine HLr.out.mono ?_
        rintro e w2 ⟨rfl, rfl⟩
        go_wp2
        go_roundw
        case rel => exact ⟨c + 1, i + 1, by omega, by omega, by go_num, by go_num, Lib.hid (by have := HCn.out; omega), HB⟩
        case measure => simp [intOf]; omega
    · have hE : n - i = 0 := by omega
      have HCe : Hid (c = M) := Lib.hid (by have := HC.out; rw [hE] at this; unfold It.manyF at this; omega)
      go_wp2
      go_ret
      rw [← HCe.out]
      exact ⟨rfl, HB.out⟩

set_option maxHeartbeats 8000000 in
set_option maxRecDepth 100000 in
theorem ahead_any (u v : Value) (x y : List Int) (w : World) (hu : NumsAt w u x) (hv : NumsAt w v y) : Calls Try.prog 18 #[u, v] w (Ret (.bool (It.aheadL x y)) w) := by
  obtain ⟨a, ca, rfl, hma, hka⟩ := num_cell hu
  obtain ⟨b, cb, rfl, hmb, hkb⟩ := num_cell hv
  have hza : x.length ≤ 9223372036854775807 := by unfold maxLen at hma; omega
  have hzb : y.length ≤ 9223372036854775807 := by unfold maxLen at hmb; omega
  have HKA := Lib.hid hka
  have HKB := Lib.hid hkb
  obtain ⟨n, hn⟩ : ∃ n, n = x.length := ⟨_, rfl⟩
  obtain ⟨m, hm⟩ : ∃ m, m = y.length := ⟨_, rfl⟩
  have Hn := Lib.hid hn
  have Hm := Lib.hid hm
  rw [← hn, ← hm]
  rw [← hn] at hza
  rw [← hm] at hzb
  have HB := Lib.hid (Below.refl w.heap.size w)
  obtain ⟨r, hr⟩ : ∃ r : Bool, r = It.aheadL x y := ⟨_, rfl⟩
  have HRr := Lib.hid hr
  rw [← hr]
  clear hu hv hma hmb hka hkb hn hm hr
  go_enter Try.func18, Try.ntmps18
  go_wp2_with fail
  go_loopw [5] (fun kv wr => ∃ k : Nat, k ≤ n ∧ k ≤ m ∧ kv = .int .i64 k ∧ Hid (r = It.aheadL (x.drop k) (y.drop k)) ∧ Hid (Below w.heap.size w wr)) (fun kv _ => n - (intOf kv).toNat)
  case atStart => exact ⟨0, Nat.zero_le _, Nat.zero_le _, rfl, Lib.hid (by rw [List.drop_zero, List.drop_zero]; exact HRr.out), HB⟩
  case round =>
    obtain ⟨k, hk, hkm, rfl, HT, HBr⟩ := hrel
    clear HB
    by_cases hlt : k < n
    · by_cases hlm : k < m
      · obtain ⟨b1, o1, rfl, h1⟩ := HKA.out (by rw [← Hn.out]; omega)
        obtain ⟨b2, o2, rfl, h2⟩ := HKB.out (by rw [← Hm.out]; omega)
        obtain ⟨p, hp⟩ : ∃ p, x[k]? = some p := ⟨_, List.getElem?_eq_getElem (by rw [← Hn.out]; exact hlt)⟩
        obtain ⟨q, hq⟩ : ∃ q, y[k]? = some q := ⟨_, List.getElem?_eq_getElem (by rw [← Hm.out]; exact hlm)⟩
        have c1 := cell_below HBr.out (h1 k p hp)
        have c2 := cell_below HBr.out (h2 k q hq)
        have k0 : (0 : Int) ≤ (k : Int) := by omega
        have kl : (k : Int) < (n : Int) := by omega
        have km : (k : Int) < (m : Int) := by omega
        have HT2 : Hid (r = It.aheadL (p :: x.drop (k + 1)) (q :: y.drop (k + 1))) := Lib.hid (by
          have e1 : x.drop k = p :: x.drop (k + 1) := by
            have hil := (List.getElem?_eq_some_iff.1 hp).1
            rw [List.drop_eq_getElem_cons hil, (List.getElem?_eq_some_iff.1 hp).2]
          have e2 : y.drop k = q :: y.drop (k + 1) := by
            have hil := (List.getElem?_eq_some_iff.1 hq).1
            rw [List.drop_eq_getElem_cons hil, (List.getElem?_eq_some_iff.1 hq).2]
          rw [← e1, ← e2]; exact HT.out)
        clear h1 h2 hp hq
        by_cases he : p = q
        · subst he
          have HN : Hid (r = It.aheadL (x.drop (k + 1)) (y.drop (k + 1))) := Lib.hid (by rw [HT2.out]; unfold It.aheadL; rw [if_pos rfl]; cases x.drop (k + 1) <;> cases y.drop (k + 1) <;> rfl)
          go_wp2_with fail
          go_quiet (fail)
          go_wp2
          go_roundw
          case rel => exact ⟨k + 1, by omega, by omega, by go_num, HN, Lib.hid (below_step HBr.out (below_drew _ _))⟩
          case measure => simp [intOf]; omega
        · have HE : Hid (r = decide (p < q)) := Lib.hid (by rw [HT2.out]; unfold It.aheadL; rw [if_neg he])
          go_wp2_with fail
          go_quiet (fail)
          go_wp2_with fail
          go_quiet (fail)
          go_wp2
          go_ret
          rw [HE.out]
          exact ⟨rfl, below_step (below_step HBr.out (below_drew _ _)) (below_drew _ _)⟩
      · have kmI : ¬ (k : Int) < (m : Int) := by omega
        have klI : (k : Int) < (n : Int) := by omega
        have HE : Hid (r = false) := Lib.hid (by
          have e : y.drop k = [] := List.drop_eq_nil_of_le (by rw [← Hm.out]; omega)
          rw [HT.out, e]; cases x.drop k <;> rfl)
        go_wp2
        go_ret
        rw [HE.out]
        exact ⟨rfl, HBr.out⟩
    · have klI : ¬ (k : Int) < (n : Int) := by omega
      have HE : Hid (r = false) := Lib.hid (by
        have e : x.drop k = [] := List.drop_eq_nil_of_le (by rw [← Hn.out]; omega)
        rw [HT.out, e]; rfl)
      go_wp2
      go_ret
      rw [HE.out]
      exact ⟨rfl, HBr.out⟩

set_option maxHeartbeats 8000000 in
set_option maxRecDepth 100000 in
theorem lawAll11 (v : Value) (l : List It.Itm) (t tol : Int) (w : World) (h : ItsAt w v l) : Calls Try.prog 5 #[v, .int .i64 t, .int .i64 tol] w (Ret (.bool true) w) := by
  have HF := Lib.hid (fun w => fixed11 w)
  have HA := Lib.hid h
  have HMn := Lib.hid (many_any v l w h)
  have HM := Lib.hid (fun w h => refItMay_any v l w h)
  have HBst := Lib.hid (fun w h => best_any v l t tol w h)
  have HCh := Lib.hid (fun hlen b w h => choice_any v l b hlen w h)
  have HTo := Lib.hid (fun hlen u cs w h hu => total_told2 v l t tol hlen u cs w h hu)
  have HAh := Lib.hid (fun u v x y w hu hv => ahead_any u v x y w hu hv)
  obtain ⟨⟨p, cp, rfl, hcap⟩, hm, _⟩ := h
  have hza : l.length ≤ 9223372036854775807 := by unfold maxLen at hm; omega
  obtain ⟨nm, hnm⟩ : ∃ nm, nm = It.manyF l l.length 0 := ⟨_, rfl⟩
  have Hnm := Lib.hid hnm
  rw [← hnm] at HMn
  obtain ⟨n, hn⟩ : ∃ n, n = l.length := ⟨_, rfl⟩
  have Hn := Lib.hid hn
  have hA' := HA.out
  rw [← hn] at HMn HM HBst HCh HTo hza hA' ⊢
  have HA' := Lib.hid hA'
  clear hcap hm hA' hnm hn
  by_cases hbig : nm > 10 ∨ n > 60
  · by_cases h10 : nm > 10
    · have g0 : (10 : Int) < (nm : Int) := by omega
      clear hbig
      go_enter Try.func5, Try.ntmps5
      go_wp2_with fail
      refine HMn.out.mono ?_
      rintro e w1 ⟨rfl, b1⟩
      have B1 := Lib.hid b1
      clear b1
      go_wp2_with fail
      refine (HF.out _).mono ?_
      rintro e w2 ⟨rfl, b2⟩
      have B2 := Lib.hid (below_step B1.out b2)
      clear b2
      go_wp2_with fail
      refine (HF.out _).mono ?_
      rintro e w3 ⟨rfl, b3⟩
      have B3 := Lib.hid (below_step B2.out b3)
      clear b3
      go_wp2
      go_ret
      exact ⟨rfl, B3.out⟩
    · have g0 : ¬ (10 : Int) < (nm : Int) := by omega
      have g1 : (60 : Int) < (n : Int) := by omega
      clear hbig
      go_enter Try.func5, Try.ntmps5
      go_wp2_with fail
      refine HMn.out.mono ?_
      rintro e w1 ⟨rfl, b1⟩
      have B1 := Lib.hid b1
      clear b1
      go_wp2_with fail
      refine (HF.out _).mono ?_
      rintro e w2 ⟨rfl, b2⟩
      have B2 := Lib.hid (below_step B1.out b2)
      clear b2
      go_wp2_with fail
      refine (HF.out _).mono ?_
      rintro e w3 ⟨rfl, b3⟩
      have B3 := Lib.hid (below_step B2.out b3)
      clear b3
      go_wp2
      go_ret
      exact ⟨rfl, B3.out⟩
  · have g0 : ¬ (10 : Int) < (nm : Int) := by omega
    have g1 : ¬ (60 : Int) < (n : Int) := by omega
    have hn60 : n ≤ 60 := by omega
    have hm10 : nm ≤ 10 := by omega
    have HChh := Lib.hid (HCh.out (by omega))
    have HTt := Lib.hid (HTo.out (by omega))
    clear hbig HCh HTo
    cases hmay : It.may l with
    | false =>
      rw [hmay] at HM
      clear hmay
      go_enter Try.func5, Try.ntmps5
      go_wp2_with fail
      refine HMn.out.mono ?_
      rintro e w1 ⟨rfl, b1⟩
      have B1 := Lib.hid b1
      clear b1
      go_wp2_with fail
      refine (HF.out _).mono ?_
      rintro e w2 ⟨rfl, b2⟩
      have B2 := Lib.hid (below_step B1.out b2)
      have I2 := Lib.hid (SlcAt.mono HA'.out B2.out)
      clear b2
      go_wp2_with fail
      refine (HM.out _ I2.out).mono ?_
      rintro e w3 ⟨rfl, b3⟩
      have B3 := Lib.hid (below_step B2.out b3)
      clear b3
      go_wp2_with fail
      refine (HF.out _).mono ?_
      rintro e w4 ⟨rfl, b4⟩
      have B4 := Lib.hid (below_step B3.out b4)
      clear b4
      go_wp2
      go_ret
      exact ⟨rfl, B4.out⟩
    | true =>
      rw [hmay] at HM
      have HMay := Lib.hid hmay
      clear hmay
      obtain ⟨r, hr⟩ : ∃ r, r = bestW l t tol := ⟨_, rfl⟩
      have HR := Lib.hid hr
      rw [← hr] at HBst
      obtain ⟨O, hO⟩ : ∃ O, O = r.isSome := ⟨_, rfl⟩
      have HO := Lib.hid hO
      obtain ⟨Z, hZ⟩ : ∃ Z, Z = bz r := ⟨_, rfl⟩
      have HZ := Lib.hid hZ
      unfold BestPost at HBst
      rw [← hO, ← hZ] at HBst
      -- none are told: none may be; some are told: some bits choose them
      have HAll : Hid (∀ K : Nat, 2 ^ nm ≤ K → ∀ b : Bool, (b = true ↔ ∃ z : Nat, z < K ∧ (It.total l (It.choose l z) t tol).isSome = true) → b = O) := Lib.hid (fun K hK b hb => by
        rw [hO]
        cases hrb : r with
        | none =>
          cases b with
          | false => rfl
          | true =>
            obtain ⟨z, _, hz⟩ := hb.1 rfl
            rw [best_none HMay.out (by rw [← HR.out]; exact hrb)] at hz
            cases hz
        | some x =>
          obtain ⟨_, h0, hrun, htot, _⟩ := best_some (l := l) (t := t) (tol := tol) (x := x) (by rw [← HR.out]; exact hrb)
          obtain ⟨z, z0, z1, z2⟩ := bits_of l.length 0 (-1) 2 x.1 x.2.2 (by omega) (by omega) (fun b hb => by have := run_gt hrun b hb; omega) (by rw [← Hn.out]; exact hn60) hrun
          rw [← Hnm.out] at z1
          have : b = true := hb.2 ⟨z.toNat, by
            have : (z.toNat : Int) < ((2 ^ nm : Nat) : Int) := by rw [Int.toNat_of_nonneg z0]; push_cast; exact z1
            omega, by
            rw [Int.toNat_of_nonneg z0]
            unfold It.choose
            rw [z2, htot]; rfl⟩
          rw [this]; rfl)
      have HSo : Hid (∀ cs e, It.total l cs t tol = some e → O = true ∧ Z ≤ e ∧ (Z = e → It.aheadL cs (bl r) = false)) := Lib.hid (fun cs e he => by
        cases hrb : r with
        | none =>
          rw [best_none HMay.out (by rw [← HR.out]; exact hrb)] at he
          cases he
        | some x =>
          obtain ⟨_, _, _, _, hl⟩ := best_some (l := l) (t := t) (tol := tol) (x := x) (by rw [← HR.out]; exact hrb)
          rw [hO, hZ, hrb]
          exact ⟨rfl, hl cs e he⟩)
      obtain ⟨LB, hLB⟩ : ∃ LB, LB = bl r := ⟨_, rfl⟩
      rw [← hLB] at HBst HSo
      clear hr hO hZ hLB
      have hwz : RowKit.wrap64 ((2 : Int) ^ nm) = ((2 ^ nm : Nat) : Int) := by
        have : (2 : Nat) ^ nm ≤ 2 ^ 10 := Nat.pow_le_pow_right (by omega) hm10
        have e : ((2 ^ nm : Nat) : Int) = (2 : Int) ^ nm := by push_cast; rfl
        rw [← e]
        obtain ⟨K, hK⟩ : ∃ K : Nat, K = 2 ^ nm := ⟨_, rfl⟩
        rw [← hK] at this ⊢
        unfold RowKit.wrap64
        omega
      have HWz := Lib.hid hwz
      clear hwz
      have h2n : (2 : Nat) ^ nm ≤ 1024 := by
        have : (2 : Nat) ^ nm ≤ 2 ^ 10 := Nat.pow_le_pow_right (by omega) hm10
        omega
      go_enter Try.func5, Try.ntmps5
      go_wp2_with fail
      refine HMn.out.mono ?_
      rintro e w1 ⟨rfl, b1⟩
      have B1 := Lib.hid b1
      clear b1
      go_wp2_with fail
      refine (HF.out _).mono ?_
      rintro e w2 ⟨rfl, b2⟩
      have B2 := Lib.hid (below_step B1.out b2)
      have I2 := Lib.hid (SlcAt.mono HA'.out B2.out)
      clear b2
      go_wp2_with fail
      refine (HM.out _ I2.out).mono ?_
      rintro e w3 ⟨rfl, b3⟩
      have B3 := Lib.hid (below_step B2.out b3)
      have I3 := Lib.hid (SlcAt.mono I2.out b3)
      clear b3
      go_wp2_with fail
      refine (HBst.out _ I3.out).mono ?_
      rintro e w4 ⟨u, rfl, hu, b4⟩
      have B4 := Lib.hid (below_step B3.out b4)
      have I4 := Lib.hid (SlcAt.mono I3.out b4)
      have U4 := Lib.hid (hu.at inC_len)
      clear b4 hu
      go_wp2_with fail
      (try simp only [decide_eq_false g0, decide_eq_false g1, Bool.or_self])
      go_loopw [11, 12] (fun sv kv wr => ∃ (b : Bool) (k : Nat), k ≤ 1024 ∧ sv = .bool b ∧ kv = .int .i64 k ∧ Hid (b = true ↔ ∃ z : Nat, z < k ∧ (It.total l (It.choose l z) t tol).isSome = true) ∧ Hid (Below w4.heap.size w4 wr)) (fun _ kv _ => 1024 - (intOf kv).toNat)
      case atStart => exact ⟨false, 0, Nat.zero_le _, rfl, rfl, Lib.hid ⟨fun h => (by cases h), fun ⟨z, hz, _⟩ => by omega⟩, Lib.hid (Below.refl _ _)⟩
      case round =>
        obtain ⟨b, k, hk, rfl, rfl, HBk, HBr⟩ := hrel
        by_cases hlt : k < 1024
        · have kI : (k : Int) < 1024 := by omega
          by_cases hsh : nm < 10 ∧ 2 ^ nm ≤ k
          · have HE := Lib.hid (HAll.out k hsh.2 b HBk.out)
            have BE := Lib.hid (below_step B4.out HBr.out)
            have nI : (nm : Int) < 10 := by omega
            have hsI : RowKit.wrap64 ((2 : Int) ^ nm) ≤ (k : Int) := by rw [HWz.out]; have := hsh.2; omega
            clear hsh
            go_wp2
            go_ret
            rw [HE.out]
            exact ⟨by cases O <;> rfl, BE.out⟩
          · have hsO : Hid ((nm : Int) < 10 → (k : Int) < RowKit.wrap64 ((2 : Int) ^ nm)) := Lib.hid (fun h => by rw [HWz.out]; have : ¬ 2 ^ nm ≤ k := fun h2 => hsh ⟨by omega, h2⟩; omega)
            have Ir := Lib.hid (SlcAt.mono I4.out HBr.out)
            have Ur := Lib.hid (SlcAt.mono U4.out HBr.out)
            have HCk := Lib.hid (HChh.out (k : Int) wr Ir.out)
            obtain ⟨CS, hCS⟩ : ∃ CS, CS = It.choose l (k : Int) := ⟨_, rfl⟩
            have HCS := Lib.hid hCS
            rw [← hCS] at HCk
            clear hCS hsh
            by_cases nI : (nm : Int) < 10
            · have hsI := hsO.out nI
              go_wp2_with fail
              refine HCk.out.mono ?_
              rintro e w5 ⟨u5, rfl, hu5, b5⟩
              have B5 := Lib.hid (below_step HBr.out b5)
              have I5 := Lib.hid (SlcAt.mono Ir.out b5)
              have U5 := Lib.hid (SlcAt.mono Ur.out b5)
              have C5 := Lib.hid hu5
              clear b5 hu5
              go_wp2_with fail
              refine (HTt.out _ _ _ I5.out C5.out).mono ?_
              rintro e w6 ⟨dd, dq, rfl, hq1, hq2, b6⟩
              have B6 := Lib.hid (below_step B5.out b6)
              have U6 := Lib.hid (SlcAt.mono U5.out b6)
              have C6 := Lib.hid (SlcAt.mono C5.out b6)
              have Q1 := Lib.hid hq1
              have Q2 := Lib.hid hq2
              clear b6 hq1 hq2
              cases dq with
              | false =>
                have HBn : Hid (b = true ↔ ∃ z : Nat, z < k + 1 ∧ (It.total l (It.choose l z) t tol).isSome = true) := Lib.hid (by
                  rw [HBk.out]
                  constructor
                  · rintro ⟨z, hz, h⟩; exact ⟨z, by omega, h⟩
                  · rintro ⟨z, hz, h⟩
                    by_cases hzk : z = k
                    · subst hzk
                      rw [← HCS.out, Q2.out rfl] at h
                      cases h
                    · exact ⟨z, by omega, h⟩)
                go_wp2
                go_roundw
                case rel => exact ⟨b, k + 1, by omega, rfl, by go_num, HBn, B6⟩
                case measure => simp [intOf]; omega
              | true =>
                have htt := Q1.out rfl
                obtain ⟨hOt, hle, hah⟩ := HSo.out CS dd htt
                have HBe : Hid (∃ z : Nat, z < k + 1 ∧ (It.total l (It.choose l z) t tol).isSome = true) := Lib.hid ⟨k, by omega, by rw [← HCS.out, htt]; rfl⟩
                have hnlt : ¬ dd < Z := by omega
                clear htt
                by_cases hez : dd = Z
                · have hA := hah hez.symm
                  have HAc := Lib.hid (HAh.out u5 u CS LB w6 C6.out U6.out)
                  rw [hA] at HAc
                  subst hez
                  have hOn : (!O) = false := by rw [hOt]; rfl
                  clear hA hah hle hOt
                  go_wp2_with fail
                  refine HAc.out.mono ?_
                  rintro e w7 ⟨rfl, b7⟩
                  have B7 := Lib.hid (below_step B6.out b7)
                  clear b7
                  go_wp2
                  go_roundw
                  case rel => exact ⟨true, k + 1, by omega, rfl, by go_num, Lib.hid ⟨fun _ => HBe.out, fun _ => rfl⟩, B7⟩
                  case measure => simp [intOf]; omega
                · have hezb : (dd == Z) = false := by simp [hez]
                  have hOn : (!O) = false := by rw [hOt]; rfl
                  clear hah hle hez hOt
                  go_wp2
                  go_roundw
                  case rel => exact ⟨true, k + 1, by omega, rfl, by go_num, Lib.hid ⟨fun _ => HBe.out, fun _ => rfl⟩, B6⟩
                  case measure => simp [intOf]; omega
            · clear hsO
              go_wp2_with fail
              refine HCk.out.mono ?_
              rintro e w5 ⟨u5, rfl, hu5, b5⟩
              have B5 := Lib.hid (below_step HBr.out b5)
              have I5 := Lib.hid (SlcAt.mono Ir.out b5)
              have U5 := Lib.hid (SlcAt.mono Ur.out b5)
              have C5 := Lib.hid hu5
              clear b5 hu5
              go_wp2_with fail
              refine (HTt.out _ _ _ I5.out C5.out).mono ?_
              rintro e w6 ⟨dd, dq, rfl, hq1, hq2, b6⟩
              have B6 := Lib.hid (below_step B5.out b6)
              have U6 := Lib.hid (SlcAt.mono U5.out b6)
              have C6 := Lib.hid (SlcAt.mono C5.out b6)
              have Q1 := Lib.hid hq1
              have Q2 := Lib.hid hq2
              clear b6 hq1 hq2
              cases dq with
              | false =>
                have HBn : Hid (b = true ↔ ∃ z : Nat, z < k + 1 ∧ (It.total l (It.choose l z) t tol).isSome = true) := Lib.hid (by
                  rw [HBk.out]
                  constructor
                  · rintro ⟨z, hz, h⟩; exact ⟨z, by omega, h⟩
                  · rintro ⟨z, hz, h⟩
                    by_cases hzk : z = k
                    · subst hzk
                      rw [← HCS.out, Q2.out rfl] at h
                      cases h
                    · exact ⟨z, by omega, h⟩)
                go_wp2
                go_roundw
                case rel => exact ⟨b, k + 1, by omega, rfl, by go_num, HBn, B6⟩
                case measure => simp [intOf]; omega
              | true =>
                have htt := Q1.out rfl
                obtain ⟨hOt, hle, hah⟩ := HSo.out CS dd htt
                have HBe : Hid (∃ z : Nat, z < k + 1 ∧ (It.total l (It.choose l z) t tol).isSome = true) := Lib.hid ⟨k, by omega, by rw [← HCS.out, htt]; rfl⟩
                have hnlt : ¬ dd < Z := by omega
                clear htt
                by_cases hez : dd = Z
                · have hA := hah hez.symm
                  have HAc := Lib.hid (HAh.out u5 u CS LB w6 C6.out U6.out)
                  rw [hA] at HAc
                  subst hez
                  have hOn : (!O) = false := by rw [hOt]; rfl
                  clear hA hah hle hOt
                  go_wp2_with fail
                  refine HAc.out.mono ?_
                  rintro e w7 ⟨rfl, b7⟩
                  have B7 := Lib.hid (below_step B6.out b7)
                  clear b7
                  go_wp2
                  go_roundw
                  case rel => exact ⟨true, k + 1, by omega, rfl, by go_num, Lib.hid ⟨fun _ => HBe.out, fun _ => rfl⟩, B7⟩
                  case measure => simp [intOf]; omega
                · have hezb : (dd == Z) = false := by simp [hez]
                  have hOn : (!O) = false := by rw [hOt]; rfl
                  clear hah hle hez hOt
                  go_wp2
                  go_roundw
                  case rel => exact ⟨true, k + 1, by omega, rfl, by go_num, Lib.hid ⟨fun _ => HBe.out, fun _ => rfl⟩, B6⟩
                  case measure => simp [intOf]; omega
        · have hK : k = 1024 := by omega
          have HE := Lib.hid (HAll.out k (by omega) b HBk.out)
          have BE := Lib.hid (below_step B4.out HBr.out)
          have kI : ¬ (k : Int) < 1024 := by omega
          go_wp2
          go_ret
          rw [HE.out]
          exact ⟨by cases O <;> rfl, BE.out⟩
end Go.Proofs.Ytdimfmpolbijeaa

namespace Go.Proofs.Ytdimfmpolbijeaa
open Go.ChangeShapes Go.WideShapes Go.ChangeAt Go.RowKit

set_option maxRecDepth 100000 in
/-- WHAT THE WALK GIVES, FOR EVERY ARGUMENT AND EVERY WORLD. -/
theorem breakerAll_contract (H : Type) (enc : TypeId × Value → H) (W : World) (base : Nat) (args : Array Value) (ds gs : List (DataW H)) (before : List MemPlace)
    (hval : ∀ (j : Nat) t v, Try.f5.params[j]? = some t → args[j]? = some v → Value.okWide Try.prog W .any base t v)
    (hW : DataW.Whole enc Try.prog Try.f5.params.toList Rows.breakerAllSpec.vars false W args.toList ds gs before) (hk : (DataW.weightsEach Try.prog (Try.f5.params.toList ++ (OpenSpec.ofChange Rows.breakerAllSpec).bare.plain.varTypes Try.prog) (ds ++ gs)).all (· ≤ reachBytes) = true) :
    Calls Try.prog 5 args W fun e W' => ∃ v, e = .returned v ∧ Rows.breakerAllSpec.post enc Try.prog Try.f5 false true false false W args v W' := by
  have hW' := hW
  have hlt : ∀ x ∈ before, x.block < W.heap.size := fun x hx => hW'.lt x hx
  obtain ⟨p, q, hA0, hV, hbe, hfz, hnd⟩ := hW
  have hA : DataW.TrodAll enc Try.prog W 0 (fun _ => true) true Try.f5.params.toList args.toList ds p := hA0
  rw [Try.params5] at hA hval hk
  have hAk := hA
  obtain ⟨v0, vs0, d0, ds0, p0, q0, hargs, rfl, rfl, h0, r0⟩ := trodAll_cons hA
  obtain ⟨v1, vs1, d1, ds1, p1, q1, rfl, rfl, rfl, h1, r1⟩ := trodAll_cons r0
  obtain ⟨v2, vs2, d2, ds2, p2, q2, rfl, rfl, rfl, h2, r2⟩ := trodAll_cons r1
  obtain ⟨rfl, rfl, rfl⟩ := trodAll_nil r2
  obtain rfl : args = #[v0, v1, v2] := by cases args; simp_all
  obtain ⟨rfl, rfl⟩ := trodVars_none hV
  obtain ⟨pa0, len0, cap0, hp0⟩ := okWide_slice Try.underlying22 (hval 0 _ v0 rfl rfl)
  obtain ⟨xs0, hxs0, _⟩ := items_in h0 (by rw [hp0]; rfl)
  obtain ⟨x1, rfl⟩ := okWide_int Try.underlying2 (hval 1 _ v1 rfl rfl)
  obtain ⟨x2, rfl⟩ := okWide_int Try.underlying3 (hval 2 _ v2 rfl rfl)
  refine (lawAll11 v0 xs0 x1 x2 W hxs0).mono fun e W' ⟨he, hb⟩ => ?_
  subst he
  have e1 : Rows.breakerAllSpec.fn H ([d0, d1, d2] ++ []) = { results := [.lit (.bool true)], args := [d0, d1, d2] } := rfl
  refine ⟨_, rfl, [d0, d1, d2], [], before, [], p0 ++ (p1 ++ (p2 ++ [])), [], hW', ?_, ?_, ?_, hb.frame _, fun h => by cases h⟩
  · rw [e1]; exact trodAll_mk1 (shut_bool Try.underlying4 true)
  · rw [e1, Try.params5]
    exact args_kept laidOut hb _ _ _ _ (by
      intro t ht
      have : t = 22 ∨ t = 2 ∨ t = 3 := by simpa using ht
      rcases this with rfl | rfl | rfl
      all_goals exact ⟨by kernel_rfl, of_decide_eq_true (by kernel_rfl)⟩) hAk (fun x hx => hlt x (by rw [hbe]; exact List.mem_append_left _ hx))
  · rw [e1]; rfl

theorem breakerAll_laid_met (os : Os) : laidMet Try.prog Rows.breakerAllRow.laid ((World.laidAll Try.prog os laidList).forCall (fun _ _ => 0) ⟨#[], #[.slice none 0 0, .int .i64 0, .int .i64 0], []⟩).memory :=
  laidMet_laidAll _ (by kernel_rfl) (by kernel_rfl)
theorem breakerAll_reads (os : Os) {H : Type} (enc : TypeId × Value → H) : ∃ places, DataW.whole enc Try.prog ((World.laidAll Try.prog os laidList).forCall (fun _ _ => 0) ⟨#[], #[.slice none 0 0, .int .i64 0, .int .i64 0], []⟩).memory Try.f5.params.toList Rows.breakerAllSpec.vars false #[Value.slice none 0 0, .int .i64 0, .int .i64 0].toList 8 = some ([.nil, .lit (.int .i64 0), .lit (.int .i64 0)], [], places) :=
  ⟨[], by kernel_rfl⟩

set_option maxRecDepth 100000 in
theorem breakerAll_lifted (os : Os) (started : os.Started) (H : Type) (enc : TypeId × Value → H) (F : Stop.Interp) :
    ReturnsInHanded {} Try.checked os 5 .any ((OpenSpec.ofChange Rows.breakerAllSpec).preRow enc Try.prog Try.f5 Rows.breakerAllRow.domain false Rows.breakerAllRow.laid) (((OpenSpec.ofChange Rows.breakerAllSpec).at F).post enc Try.prog Try.f5 false true false false) := by
  obtain ⟨places, hx⟩ := breakerAll_reads os enc
  refine returnsInHanded_of_row (C := Try.checked) (s := OpenSpec.ofChange Rows.breakerAllSpec) own started (by kernel_rfl) Try.func5
    (witness_row_atRef (enc := enc) (C := Try.checked) false (World.laidAll Try.prog os laidList) #[.slice none 0 0, .int .i64 0, .int .i64 0] (World.laidAll_os _ _ _) (by kernel_rfl) (by kernel_rfl) (by kernel_rfl)
      (OpenSpec.preRow_of_cond 8 hx (by kernel_rfl) (fun k hk => by cases hk) (by kernel_rfl) (breakerAll_laid_met os))) ?_
  intro W base args ds gs before hval hW _ _ hz hL hsh _
  exact breakerAll_contract H enc W base args ds gs before hval hW hz

theorem breakerAll_full : Rows.BreakerAllSaid :=
  OpenClaim.holds_of_cond 5 Try.f5 rfl rfl rfl rfl rfl rfl rfl ⟨rfl, rfl, rfl, rfl, rfl⟩ rfl rfl rfl rfl rfl (by kernel_rfl) Try.func5 (by kernel_rfl)
    (of_decide_eq_true (by kernel_rfl)) (by unfold Func.isWrapper; first | (rw [if_pos (by decide +kernel)]; kernel_rfl) | (rw [if_neg (by decide +kernel)]; exact ⟨rfl, rfl⟩))
    (fun os started H enc _ F => by rw [OpenClaim.pre_eq_preRow]; exact breakerAll_lifted os started H enc F)

end Go.Proofs.Ytdimfmpolbijeaa
