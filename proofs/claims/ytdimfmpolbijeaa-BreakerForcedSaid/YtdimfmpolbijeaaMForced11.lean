/-
  PROVED: the law BreakerForced at every argument: each forced break is one of the breaks; with a higher tolerance demerits do not rise; and the emergency is told just where there are no breaks with the first tolerance.
  Conditions: none.
-/
import Derived.Test.YtdimfmpolbijeaaRows
import Derived.Test.YtdimfmpolbijeaaTot10
import Derived.Deep.Slices
import Derived.ProofKit
import Derived.ChangeSlices
import Derived.Lay
import Derived.Lib.LaidU8T
import Derived.OpenShut
import Derived.Deep.DeepHandedRow
import Derived.Deep.DeepWitnessRowRef
import Derived.LaidMore
import Derived.Stop.LaidErr
import Derived.Lib.SmallJoins
import Derived.SevenTiedAt
import Derived.SizedLaws
import Derived.Test.YtdimfmpolbijeaaCallsM11
import Derived.Deep.RegionHeld3
import Derived.Deep.RegionLaw
set_option linter.unusedVariables false
set_option linter.unusedSimpArgs false
set_option maxRecDepth 20000
namespace Go.Proofs.Ytdimfmpolbijeaa
open Go.ChangeShapes Go.WideShapes Go.ChangeAt Go.RowKit

theorem cGl9 : Try.prog.cellsOf 45 = 4 := by kernel_rfl
theorem cIt9 : Try.prog.cellsOf 47 = 9 := by kernel_rfl
theorem cI649 : Try.prog.cellsOf 2 = 1 := by kernel_rfl
theorem cInt9 : Try.prog.cellsOf 3 = 1 := by kernel_rfl
theorem cBool9 : Try.prog.cellsOf 4 = 1 := by kernel_rfl
theorem cStr9 : Try.prog.cellsOf 9 = 1 := by kernel_rfl
theorem two_fields {fs : Array Field} {a b : TypeId × Nat} (h : fs.toList.map (fun f => (f.type, f.offset)) = [a, b]) : ∃ f0 f1 : Field, fs = #[f0, f1] ∧ (f0.type = a.1 ∧ f0.offset = a.2) ∧ (f1.type = b.1 ∧ f1.offset = b.2) := by
  obtain ⟨l⟩ := fs
  have hl : l.length = 2 := by simpa using congrArg List.length h
  match l, hl with
  | [x, y], _ =>
    simp only [List.map_cons, List.map_nil, List.cons.injEq] at h
    obtain ⟨rfl, rfl, _⟩ := h
    exact ⟨x, y, rfl, ⟨rfl, rfl⟩, ⟨rfl, rfl⟩⟩
theorem four_fields {fs : Array Field} {a b c d : TypeId × Nat} (h : fs.toList.map (fun f => (f.type, f.offset)) = [a, b, c, d]) : ∃ f0 f1 f2 f3 : Field, fs = #[f0, f1, f2, f3] ∧ (f0.type = a.1 ∧ f0.offset = a.2) ∧ (f1.type = b.1 ∧ f1.offset = b.2) ∧ (f2.type = c.1 ∧ f2.offset = c.2) ∧ (f3.type = d.1 ∧ f3.offset = d.2) := by
  obtain ⟨l⟩ := fs
  have hl : l.length = 4 := by simpa using congrArg List.length h
  match l, hl with
  | [x, y, z, q], _ =>
    simp only [List.map_cons, List.map_nil, List.cons.injEq] at h
    obtain ⟨rfl, rfl, rfl, rfl, _⟩ := h
    exact ⟨x, y, z, q, rfl, ⟨rfl, rfl⟩, ⟨rfl, rfl⟩, ⟨rfl, rfl⟩, ⟨rfl, rfl⟩⟩
theorem six_fields {fs : Array Field} {a b c d e g : TypeId × Nat} (h : fs.toList.map (fun f => (f.type, f.offset)) = [a, b, c, d, e, g]) : ∃ f0 f1 f2 f3 f4 f5 : Field, fs = #[f0, f1, f2, f3, f4, f5] ∧ (f0.type = a.1 ∧ f0.offset = a.2) ∧ (f1.type = b.1 ∧ f1.offset = b.2) ∧ (f2.type = c.1 ∧ f2.offset = c.2) ∧ (f3.type = d.1 ∧ f3.offset = d.2) ∧ (f4.type = e.1 ∧ f4.offset = e.2) ∧ (f5.type = g.1 ∧ f5.offset = g.2) := by
  obtain ⟨l⟩ := fs
  have hl : l.length = 6 := by simpa using congrArg List.length h
  match l, hl with
  | [x, y, z, q, r, s], _ =>
    simp only [List.map_cons, List.map_nil, List.cons.injEq] at h
    obtain ⟨rfl, rfl, rfl, rfl, rfl, rfl, _⟩ := h
    exact ⟨x, y, z, q, r, s, rfl, ⟨rfl, rfl⟩, ⟨rfl, rfl⟩, ⟨rfl, rfl⟩, ⟨rfl, rfl⟩, ⟨rfl, rfl⟩, ⟨rfl, rfl⟩⟩
theorem five_fields {fs : Array Field} {a b c d g : TypeId × Nat} (h : fs.toList.map (fun f => (f.type, f.offset)) = [a, b, c, d, g]) : ∃ f0 f1 f2 f3 f4 : Field, fs = #[f0, f1, f2, f3, f4] ∧ (f0.type = a.1 ∧ f0.offset = a.2) := by
  obtain ⟨l⟩ := fs
  have hl : l.length = 5 := by simpa using congrArg List.length h
  match l, hl with
  | [x, y, z, q, r], _ =>
    simp only [List.map_cons, List.map_nil, List.cons.injEq] at h
    obtain ⟨rfl, rfl, rfl, rfl, rfl, _⟩ := h
    exact ⟨x, y, z, q, r, rfl, ⟨rfl, rfl⟩⟩
instance : Inhabited It.Gl := ⟨⟨0, 0, 0, 0⟩⟩
instance : Inhabited It.Itm := ⟨⟨0, ⟨0, 0, 0, 0⟩, 0, false, 0, 0⟩⟩
instance : Inhabited It.Pt := ⟨⟨ByteArray.empty, 0, 0, 0⟩⟩
section
variable {H : Type} {enc : TypeId × Value → H} {W : World} {base : Nat} {held : Bool} {spare : Nat → Bool}

theorem gl_open {fuel : Nat} {cs : List Value} {x : DataW H × List MemPlace} (h : DataW.trod enc Try.prog W base spare held fuel 45 cs = some x) : ∃ g : It.Gl, cs = glC g := by
  obtain ⟨f0, f1, f2, f3, hfs, ⟨t0, o0⟩, ⟨t1, o1⟩, ⟨t2, o2⟩, ⟨t3, o3⟩⟩ := four_fields (show (Try.prog.fieldsOf 45).toList.map (fun f => (f.type, f.offset)) = [(2, 0), (2, 1), (2, 2), (3, 3)] by kernel_rfl)
  obtain ⟨xs, m, hm', hxe, hcl, hxl, hxi⟩ := DataW.trod_struct uGl9 h
  rw [hfs] at hxl hxi
  rw [cGl9] at hcl
  match cs, hcl, xs, hxl with
  | [v0, v1, v2, v3], _, [y0, y1, y2, y3], _ =>
    have g0 := hxi 0 f0 rfl
    have g1 := hxi 1 f1 rfl
    have g2 := hxi 2 f2 rfl
    have g3 := hxi 3 f3 rfl
    rw [t0, o0, cI649] at g0
    rw [t1, o1, cI649] at g1
    rw [t2, o2, cI649] at g2
    rw [t3, o3, cInt9] at g3
    simp at g0 g1 g2 g3
    obtain ⟨a, e0, _, w0⟩ := DataW.trod_int Try.underlying2 g0
    obtain ⟨b, e1, _, w1⟩ := DataW.trod_int Try.underlying2 g1
    obtain ⟨c, e2, _, w2⟩ := DataW.trod_int Try.underlying2 g2
    obtain ⟨d, e3, _, w3⟩ := DataW.trod_int Try.underlying3 g3
    simp at e0 e1 e2 e3
    subst e0 e1 e2 e3
    exact ⟨⟨a, b, c, d⟩, rfl⟩
theorem it_open {fuel : Nat} {cs : List Value} {x : DataW H × List MemPlace} (h : DataW.trod enc Try.prog W base spare held fuel 47 cs = some x) : ∃ p : It.Itm, cs = itC p := by
  obtain ⟨f0, f1, f2, f3, f4, f5, hfs, ⟨t0, o0⟩, ⟨t1, o1⟩, ⟨t2, o2⟩, ⟨t3, o3⟩, ⟨t4, o4⟩, ⟨t5, o5⟩⟩ := six_fields (show (Try.prog.fieldsOf 47).toList.map (fun f => (f.type, f.offset)) = [(3, 0), (45, 1), (3, 5), (4, 6), (3, 7), (3, 8)] by kernel_rfl)
  obtain ⟨xs, m, hm', hxe, hcl, hxl, hxi⟩ := DataW.trod_struct uIt9 h
  rw [hfs] at hxl hxi
  rw [cIt9] at hcl
  match cs, hcl, xs, hxl with
  | [v0, v1, v2, v3, v4, v5, v6, v7, v8], _, [y0, y1, y2, y3, y4, y5], _ =>
    have g0 := hxi 0 f0 rfl
    have g1 := hxi 1 f1 rfl
    have g2 := hxi 2 f2 rfl
    have g3 := hxi 3 f3 rfl
    have g4 := hxi 4 f4 rfl
    have g5 := hxi 5 f5 rfl
    rw [t0, o0, cInt9] at g0
    rw [t1, o1, cGl9] at g1
    rw [t2, o2, cInt9] at g2
    rw [t3, o3, cBool9] at g3
    rw [t4, o4, cInt9] at g4
    rw [t5, o5, cInt9] at g5
    simp at g0 g1 g2 g3 g4 g5
    obtain ⟨a, e0, _, w0⟩ := DataW.trod_int Try.underlying3 g0
    obtain ⟨g, e1⟩ := gl_open g1
    obtain ⟨c, e2, _, w2⟩ := DataW.trod_int Try.underlying3 g2
    obtain ⟨d, e3, _⟩ := DataW.trod_bool Try.underlying4 g3
    obtain ⟨e, e4, _, w4⟩ := DataW.trod_int Try.underlying3 g4
    obtain ⟨f, e5, _, w5⟩ := DataW.trod_int Try.underlying3 g5
    simp [glC] at e0 e1 e2 e3 e4 e5
    obtain ⟨rfl, rfl, rfl, rfl⟩ := e1
    subst e0 e2 e3 e4 e5
    exact ⟨⟨a, g, c, d, e, f⟩, rfl⟩
theorem bulk_len {H : Type} (ds : List (DataW H)) : ds.length ≤ Rows.uptoBulkAll ds := by
  induction ds with
  | nil => exact Nat.zero_le _
  | cons d r ih =>
    simp only [List.length_cons, Rows.uptoBulkAll]
    have : 1 ≤ Rows.uptoBulk d := by
      unfold Rows.uptoBulk
      split <;> omega
    omega
/-- a slice of records, as it comes in -/
theorem recs_open {α : Type} [Inhabited α] {T S : TypeId} (hS : Try.prog.underlying S = some (.slice T)) {k : Nat} (hk : Try.prog.cellsOf T = k) (hk0 : 0 < k) {f : α → List Value} (hf : ∀ x, (f x).length = k)
    (each : ∀ (fuel : Nat) (cs : List Value) (x : DataW H × List MemPlace), DataW.trod enc Try.prog W base spare held fuel T cs = some x → ∃ a, cs = f a)
    {fuel : Nat} {cs : List Value} {x : DataW H × List MemPlace} (h : DataW.trod enc Try.prog W base spare held fuel S cs = some x) :
    ∃ v l, cs = [v] ∧ SlcAt f k W v l ∧ l.length + 1 ≤ Rows.uptoBulk x.1 ∧ ∃ elems rest, (x.1 = .nil ∧ l = []) ∨ (x.1 = .slice elems rest ∧ l.length ≤ elems.length) := by
  rcases DataW.trod_slice hS h with ⟨rfl, rfl⟩ | ⟨a, len, cap, elems, rest, n, hn, rfl, rfl, _, hl, hm, hlen, hel, _, _⟩
  · exact ⟨_, [], rfl, slc_none _ _ _, by simp [Rows.uptoBulk], [], [], .inl ⟨rfl, rfl⟩⟩
  · have each2 : ∀ i, i < len → ∃ y : α, ∀ j, j < k → W.cell? ((a.add (i * k)).add j) = (f y)[j]? := fun i hi => by
      have h1 := hel i hi
      rw [hk] at h1
      have hlt : i < elems.length := by omega
      rw [List.getElem?_eq_getElem hlt] at h1
      obtain ⟨cs', hc, hy⟩ := Option.bind_eq_some_iff.1 h1
      obtain ⟨y, rfl⟩ := each _ _ _ hy
      obtain ⟨_, _, hcells⟩ := World.cells?_some hc
      exact ⟨y, fun j hj => hcells j hj⟩
    obtain ⟨F, hF⟩ := Go.Deep.choose_lt each2
    have hln : ((List.range len).map F).length = len := by simp
    refine ⟨_, (List.range len).map F, rfl, ⟨⟨some a, cap, by rw [hln], by rw [hln]; exact hl⟩, by rw [hln]; omega, fun hp => ?_⟩, ?_, _, _, .inr ⟨rfl, by rw [hln]; simp [hlen]⟩⟩
    · rw [hln] at hp
      obtain ⟨b, off, spot⟩ := a
      have h00 := (hF 0 (by omega)) 0 hk0
      have hspot : spot = none := by
        have hu : ∃ u, (f (F 0))[0]? = some u := ⟨_, List.getElem?_eq_getElem (by rw [hf]; exact hk0)⟩
        obtain ⟨u, hu⟩ := hu
        rw [hu] at h00
        have h01 : W.cell? ⟨b, off, spot⟩ = some u := by simpa [Addr.add] using h00
        exact World.cell?_spot h01
      subst hspot
      refine ⟨b, off, cap, by rw [hln], fun i t hi j u hj => ?_⟩
      have hil : i < len := by
        rcases Nat.lt_or_ge i len with h' | h'
        · exact h'
        · rw [List.getElem?_eq_none (by rw [hln]; exact h')] at hi; cases hi
      have hti : F i = t := by
        rw [List.getElem?_map, List.getElem?_range hil] at hi
        exact Option.some.inj hi
      have q := (hF i hil) j (by rw [← hf t]; exact (List.getElem?_eq_some_iff.1 hj).1)
      rw [hti, hj, Go.WideShapes.add_plain, Go.WideShapes.add_plain] at q
      exact q
    · rw [hln]
      have := bulk_len (elems.map (·.1))
      simp only [List.length_map] at this
      simp only [Rows.uptoBulk]
      omega
theorem bulk_sum {α : Type} {H : Type} {sz : α → Nat} : ∀ (l : List α) (ds : List (DataW H)), l.length = ds.length → (∀ (i : Nat) (n : α) (d : DataW H), l[i]? = some n → ds[i]? = some d → sz n ≤ Rows.uptoBulk d) → (l.map sz).sum ≤ Rows.uptoBulkAll ds
  | [], ds, _, _ => by simp
  | n :: r, [], h, _ => by simp at h
  | n :: r, d :: ds, h, hi => by
    have h0 := hi 0 n d rfl rfl
    have ih := bulk_sum (sz := sz) r ds (by simpa using h) (fun i n d h1 h2 => hi (i + 1) n d (by simpa using h1) (by simpa using h2))
    simp only [List.map_cons, List.sum_cons, Rows.uptoBulkAll]
    omega
/-- a slice of slices, as it comes in -/
theorem rows_open {α : Type} [Inhabited α] {T S : TypeId} (hS : Try.prog.underlying S = some (.slice T)) (hk : Try.prog.cellsOf T = 1) {R : World → Value → α → Prop} {sz : α → Nat}
    (each : ∀ (fuel : Nat) (cs : List Value) (x : DataW H × List MemPlace), DataW.trod enc Try.prog W base spare held fuel T cs = some x → ∃ v a, cs = [v] ∧ R W v a ∧ sz a ≤ Rows.uptoBulk x.1)
    {fuel : Nat} {cs : List Value} {x : DataW H × List MemPlace} (h : DataW.trod enc Try.prog W base spare held fuel S cs = some x) :
    ∃ v l, cs = [v] ∧ RowAt R W v l ∧ (l.map sz).sum + 1 ≤ Rows.uptoBulk x.1 := by
  rcases DataW.trod_slice hS h with ⟨rfl, rfl⟩ | ⟨a, len, cap, elems, rest, n, hn, rfl, rfl, _, hl, hm, hlen, hel, _, _⟩
  · exact ⟨_, [], rfl, row_none _ _, by simp [Rows.uptoBulk]⟩
  · have each2 : ∀ i, i < len → ∃ y : α, ∃ u z, elems[i]? = some z ∧ sz y ≤ Rows.uptoBulk z.1 ∧ W.cell? (a.add i) = some u ∧ R W u y := fun i hi => by
      have h1 := hel i hi
      rw [hk, Nat.mul_one] at h1
      have hlt : i < elems.length := by omega
      rw [List.getElem?_eq_getElem hlt] at h1
      obtain ⟨cs', hc, hy⟩ := Option.bind_eq_some_iff.1 h1
      obtain ⟨u, y, rfl, hr, hz⟩ := each _ _ _ hy
      obtain ⟨_, _, hcells⟩ := World.cells?_some hc
      have h0 := hcells 0 (by omega)
      refine ⟨y, u, _, List.getElem?_eq_getElem hlt, hz, ?_, hr⟩
      have e : (a.add i).add 0 = a.add i := by unfold Addr.add; split <;> simp_all
      rw [e] at h0
      exact h0
    obtain ⟨F, hF⟩ := Go.Deep.choose_lt each2
    have hln : ((List.range len).map F).length = len := by simp
    refine ⟨_, (List.range len).map F, rfl, ⟨⟨some a, cap, by rw [hln], by rw [hln]; exact hl⟩, by rw [hln]; omega, fun hp => ?_⟩, ?_⟩
    · rw [hln] at hp
      obtain ⟨b, off, spot⟩ := a
      obtain ⟨u0, z0, _, _, h00, _⟩ := hF 0 (by omega)
      have hspot : spot = none := by
        have h01 : W.cell? ⟨b, off, spot⟩ = some u0 := by simpa [Addr.add] using h00
        exact World.cell?_spot h01
      subst hspot
      refine ⟨b, off, cap, by rw [hln], fun i t hi => ?_⟩
      have hil : i < len := by
        rcases Nat.lt_or_ge i len with h' | h'
        · exact h'
        · rw [List.getElem?_eq_none (by rw [hln]; exact h')] at hi; cases hi
      have hti : F i = t := by
        rw [List.getElem?_map, List.getElem?_range hil] at hi
        exact Option.some.inj hi
      obtain ⟨u, z, _, _, hc, hr⟩ := hF i hil
      rw [hti] at hr
      rw [Go.WideShapes.add_plain] at hc
      exact ⟨u, hc, hr⟩
    · have hle : ((List.range len).map F).length ≤ (elems.map (·.1)).length := by simp [hlen]
      have hb := bulk_sum (sz := sz) ((List.range len).map F) ((elems.map (·.1)).take len) (by simp [hlen]) (fun i y d h1 h2 => by
        have hil : i < len := by
          rcases Nat.lt_or_ge i len with h' | h'
          · exact h'
          · rw [List.getElem?_eq_none (by rw [hln]; exact h')] at h1; cases h1
        rw [List.getElem?_map, List.getElem?_range hil] at h1
        have hti : F i = y := Option.some.inj h1
        obtain ⟨u, z, hz1, hz2, _, _⟩ := hF i hil
        rw [List.getElem?_take_of_lt hil, List.getElem?_map, hz1] at h2
        have : z.1 = d := Option.some.inj h2
        rw [hti, this] at hz2
        exact hz2)
      have hb2 : Rows.uptoBulkAll ((elems.map (·.1)).take len) ≤ Rows.uptoBulkAll (elems.map (·.1)) := by
        have e : elems.map (·.1) = (elems.map (·.1)).take len ++ (elems.map (·.1)).drop len := (List.take_append_drop _ _).symm
        have app : ∀ p q : List (DataW H), Rows.uptoBulkAll p ≤ Rows.uptoBulkAll (p ++ q) := fun p q => by
          induction p with
          | nil => simp [Rows.uptoBulkAll]
          | cons y r ih => simp only [List.cons_append, Rows.uptoBulkAll]; omega
        conv => rhs; rw [e]
        exact app _ _
      simp only [Rows.uptoBulk]
      omega

/-! ### how much there is -/
def szP (l : List It.Pt) : Nat := l.length + 1
def szW (ws : List (List It.Pt)) : Nat := (ws.map szP).sum + 1
def szL (ls : List (List (List It.Pt))) : Nat := (ls.map szW).sum + 1
theorem wordsI_len (sp : It.Gl) (hy : Int) : ∀ (ws : List (List It.Pt)) (n : Int) (i : Nat), (It.wordsI sp hy n i ws).length ≤ 2 * (ws.map szP).sum
  | [], n, i => by simp [It.wordsI]
  | w :: r, n, i => by
    have h1 := (It.wordI_len hy n w 0).2
    have h2 := wordsI_len sp hy r (n + 1) (i + 1)
    simp only [It.wordsI, List.length_append, List.map_cons, List.sum_cons, szP] at h2 ⊢
    split <;> simp <;> omega
theorem versI_len (sp : It.Gl) (hy : Int) : ∀ (ls : List (List (List It.Pt))) (n : Int), (It.versI sp hy n ls).length ≤ 3 * (ls.map szW).sum
  | [], n => by simp [It.versI]
  | l :: r, n => by
    have h1 := wordsI_len sp hy l n 0
    have h2 := versI_len sp hy r (n + l.length)
    have h3 : It.endI.length = 3 := rfl
    simp only [It.versI, List.length_append, List.map_cons, List.sum_cons, szW, h3] at h2 ⊢
    omega
theorem items_in {v : Value} {d : DataW H} {p : List MemPlace} (h : DataW.Trod enc Try.prog W base spare held 22 v d p) (hs : v.cells.toList = [v]) : ∃ l, ItsAt W v l ∧ (l = [] ∨ ∃ elems rest, d = .slice elems rest ∧ l.length ≤ elems.length) := by
  obtain ⟨fuel, hf⟩ := h
  rw [hs] at hf
  obtain ⟨v', a, e, h1, _, els, rst, h3⟩ := recs_open Try.underlying22 cIt9 (by decide) (f := itC) (fun x => rfl) (fun fuel cs x h => it_open h) hf
  injection e with e1
  subst e1
  refine ⟨a, h1, ?_⟩
  rcases h3 with ⟨_, h⟩ | ⟨h, h4⟩
  · exact .inl h
  · exact .inr ⟨els, rst, h, h4⟩
/-- numbers, as they come in -/
theorem ints_in {v : Value} {d : DataW H} {p : List MemPlace}
    (h : DataW.Trod enc Try.prog W base spare held 24 v d p) (hs : v.cells.toList = [v]) :
    ∃ xs : List Int, IntsAt .i64 W v xs := by
  obtain ⟨fuel, hf⟩ := h
  rw [hs] at hf
  rcases Go.ChangeShapes.open_ints Try.underlying24 Try.underlying3 cInt9 hf with ⟨hc, hx⟩ | ⟨a, len, cap, zs, hc, _, hl, hm, hlen, hx, hcell, _⟩
  · injection hc with hc _
    exact ⟨[], by rw [hc]; exact ints_none _ _⟩
  · injection hc with hc _
    have hlm : len ≤ zs.length := by rw [hlen]; split <;> omega
    have hln : (zs.take len).length = len := by rw [List.length_take]; omega
    refine ⟨zs.take len, ⟨⟨some a, cap, by rw [hc, hln], by rw [hln]; exact hl⟩, by rw [hln]; omega, fun hp => ?_⟩⟩
    rw [hln] at hp
    obtain ⟨b, off, spot⟩ := a
    have hspot : spot = none := by simpa [Addr.add] using World.cell?_spot (hcell 0 (by omega))
    subst hspot
    refine ⟨b, off, cap, by rw [hc, hln], fun i s hi => ?_⟩
    have hil : i < len := by
      rcases Nat.lt_or_ge i len with h' | h'
      · exact h'
      · rw [List.getElem?_eq_none (by rw [hln]; exact h')] at hi; cases hi
    have h1 := hcell i (by omega)
    rw [Go.WideShapes.add_plain] at h1
    rw [List.getElem?_take_of_lt hil] at hi
    rw [show zs.getD i 0 = s by rw [List.getD_eq_getElem?_getD, hi]; rfl] at h1
    exact h1
end
end Go.Proofs.Ytdimfmpolbijeaa

namespace Go.Proofs.Ytdimfmpolbijeaa
open Go.ChangeShapes Go.WideShapes Go.ChangeAt Go.RowKit
theorem uCh11 : Try.prog.underlying 35 = some (.struct (Try.prog.fieldsOf 35)) := by kernel_rfl
theorem cCh11 : Try.prog.cellsOf 35 = 2 := by kernel_rfl
section
variable {H : Type} {enc : TypeId × Value → H} {W : World} {base : Nat} {held : Bool} {spare : Nat → Bool}
set_option maxRecDepth 100000 in
theorem choice_in {v : Value} {d : DataW H} {p : List MemPlace} (h : DataW.Trod enc Try.prog W base spare held 35 v d p) {cs : Array Value} (hv : v = .agg cs) : ∃ a b : Int, v = .agg #[.int .i64 a, .int .i64 b] := by
  obtain ⟨fuel, hf⟩ := h
  subst hv
  obtain ⟨f0, f1, hfs, ⟨t0, o0⟩, ⟨t1, o1⟩⟩ := two_fields (show (Try.prog.fieldsOf 35).toList.map (fun f => (f.type, f.offset)) = [(3, 0), (3, 1)] by kernel_rfl)
  obtain ⟨xs, m, hm', hxe, hcl, hxl, hxi⟩ := DataW.trod_struct uCh11 hf
  have hcs : (Value.agg cs).cells.toList = cs.toList := rfl
  rw [hcs] at hcl hxi
  rw [hfs] at hxl hxi
  rw [cCh11] at hcl
  obtain ⟨l⟩ := cs
  simp only [] at hcl hxi
  match l, hcl, xs, hxl with
  | [v0, v1], _, [y0, y1], _ =>
    have g0 := hxi 0 f0 rfl
    have g1 := hxi 1 f1 rfl
    rw [t0, o0, cInt9] at g0
    rw [t1, o1, cInt9] at g1
    simp at g0 g1
    obtain ⟨a, e0, _, w0⟩ := DataW.trod_int Try.underlying3 g0
    obtain ⟨b, e1, _, w1⟩ := DataW.trod_int Try.underlying3 g1
    simp at e0 e1
    subst e0 e1
    exact ⟨a, b, rfl⟩
end
end Go.Proofs.Ytdimfmpolbijeaa

namespace Go.Proofs.Ytdimfmpolbijeaa
open Go.ChangeShapes Go.WideShapes Go.ChangeAt Go.RowKit

theorem own : ownKnob Try.prog.godebug = none := by kernel_rfl
theorem laidOut : laidOutB Try.prog = true := by kernel_rfl
/-- the list that every row of this seat bears -/
def laidList : List (String × DataW Unit) := []
section
variable {H : Type} {enc : TypeId × Value → H} {P : Program}
/-- the arguments read behind the call as they did before -/
theorem args_kept (hl : laidOutB P = true) {W W' : World} (hb : Below W.heap.size W W') : ∀ (ts : List TypeId) (vs : List Value) (ds : List (DataW H)) (ps : List MemPlace), (∀ t ∈ ts, P.readableRec t = true ∧ t < P.types.size) →
    DataW.TrodAll enc P W 0 (fun _ => true) true ts vs ds ps → (∀ x ∈ ps, x.block < W.heap.size) → DataW.TrodAll enc P W' 0 (fun b => decide (b < W.heap.size)) true ts vs ds ps
  | [], vs, ds, ps, _, h, _ => by
    obtain ⟨rfl, rfl, rfl⟩ := trodAll_nil h
    exact trodAll_mk0
  | t :: ts, vs, ds, ps, hr, h, hlt => by
    obtain ⟨v, vs', d, ds', p, q, rfl, rfl, rfl, h0, r0⟩ := trodAll_cons h
    have h1 := hr t (List.mem_cons_self ..)
    exact trodAll_cons_mk (Below.trod hl h1.1 h1.2 h0 hb (fun x hx => hlt x (List.mem_append_left _ hx))) (args_kept hl hb ts vs' ds' q (fun t ht => hr t (List.mem_cons_of_mem _ ht)) r0 (fun x hx => hlt x (List.mem_append_right _ hx)))
end
end Go.Proofs.Ytdimfmpolbijeaa

namespace Go.Proofs.Ytdimfmpolbijeaa
open Go.RowKit

theorem run_rises {l : List It.Itm} {t tol : Int} : ∀ {bs : List Int} {a q y : Int}, It.run l t tol a q bs = some y → (∀ b ∈ bs, a < b) ∧ ∀ (i j : Nat) (p r : Int), i < j → bs[i]? = some p → bs[j]? = some r → p < r
  | [], a, q, y, h => ⟨fun b hb => by simp at hb, fun i j p r _ hp => by simp at hp⟩
  | b :: r, a, q, y, h => by
    obtain ⟨d, c, y', h1, h2, h3, h4, h5, h6, h7⟩ := run_cons h
    obtain ⟨i1, i2⟩ := run_rises h2
    refine ⟨fun x hx => ?_, fun i j p s hij hp hs => ?_⟩
    · rcases List.mem_cons.1 hx with rfl | hx
      · exact h4
      · have := i1 x hx; omega
    · match i, j, hij, hp, hs with
      | 0, j + 1, _, hp, hs =>
        simp at hp hs
        subst hp
        exact i1 s (List.mem_of_getElem? hs)
      | i + 1, j + 1, hij, hp, hs =>
        simp at hp hs
        exact i2 i j p s (by omega) hp hs
theorem take_g {P : Program} {md : Region.Mode} {ops : Array Oper} {Q : Exit → Act → World → Prop} {S : World → Prop} {i : Nat} {d : Tmp} {op : Op} {ty : TypeId} {v : Value} {g : Option (Nat × Bool)} {fuel : Nat} {listed : Array Bool} {a : Act} {w : World}
    (hi : (ops[i]?).map (fun o => (o.dst, o.op, o.type)) = some (some d, op, ty)) (hg : (ops[i]?).map (fun o => o.guard) = some g)
    (hw : Region.wanted { dst := some d, op := op, type := ty, pos := "", after := #[], guard := g } (yielded ops a.tmps) = true)
    (hs : Region.noSelect ops = true) (hf : Region.free md ops listed i = true) (hr : (Region.ready md ops listed).contains i = true)
    (hQ : ∀ c a w, Q (.panic c) (a.put (some d) v) w → Q (.panic c) a w)
    (hy : ∀ w, S w → (execOp a.eval { dst := some d, op := op, type := ty, pos := "", after := #[], guard := none }).run P w = .ok (.value v) w) (hS : S w)
    (h : wpAnyH P md ops Q S fuel (listed.setIfInBounds i true) (a.put (some d) v) w) : wpAnyH P md ops Q S (fuel + 1) listed a w := by
  cases ho : ops[i]? with
  | none => rw [ho] at hi; cases hi
  | some o =>
    rw [ho] at hi hg
    obtain ⟨dst, op', ty', pos, aft, gd⟩ := o
    simp only [Option.map_some, Option.some.injEq, Prod.mk.injEq] at hi hg
    obtain ⟨rfl, rfl, rfl⟩ := hi
    subst hg
    exact wpAnyH_take ho hs hf hr hQ (.inl ⟨hw, hy⟩) hS h
/-- an operation that is not wanted -/
theorem skip_g {P : Program} {md : Region.Mode} {ops : Array Oper} {Q : Exit → Act → World → Prop} {S : World → Prop} {i : Nat} {d : Tmp} {g : Nat × Bool} {fuel : Nat} {listed : Array Bool} {a : Act} {w : World}
    (hi : (ops[i]?).map (fun o => o.dst) = some (some d)) (hg : (ops[i]?).map (fun o => o.guard) = some (some g))
    (hw : Region.wanted { dst := some d, op := .move (.tmp 0), type := 0, pos := "", after := #[], guard := some g } (yielded ops a.tmps) = false)
    (hs : Region.noSelect ops = true) (hf : Region.free md ops listed i = true) (hr : (Region.ready md ops listed).contains i = true)
    (hQ : ∀ c a w, Q (.panic c) (a.put (some d) undef) w → Q (.panic c) a w) (hS : S w)
    (h : wpAnyH P md ops Q S fuel (listed.setIfInBounds i true) (a.put (some d) undef) w) : wpAnyH P md ops Q S (fuel + 1) listed a w := by
  cases ho : ops[i]? with
  | none => rw [ho] at hi; cases hi
  | some o =>
    rw [ho] at hi hg
    obtain ⟨dst, op', ty', pos, aft, gd⟩ := o
    simp only [Option.map_some, Option.some.injEq] at hi hg
    subst hi
    subst hg
    exact wpAnyH_take ho hs hf hr hQ (.inr ⟨hw, rfl⟩) hS h
/-- what is told, by cases -/
theorem told_cases (l : List It.Itm) (t : Int) : (It.may l = false ∧ bestW l t 200 = none ∧ bestW l t 10000 = none ∧ brkR l t = (none, false, 90)) ∨ (It.may l = true ∧ ∃ x y, bestW l t 200 = some x ∧ bestW l t 10000 = some y ∧ y.1 ≤ x.1 ∧ brkR l t = (some x, false, 0)) ∨ (It.may l = true ∧ bestW l t 200 = none ∧ ∃ y, bestW l t 10000 = some y ∧ brkR l t = (some y, true, 0)) ∨ (It.may l = true ∧ bestW l t 200 = none ∧ bestW l t 10000 = none ∧ brkR l t = (none, false, 110)) := by
  cases hm : It.may l with
  | false => exact .inl ⟨rfl, by unfold bestW; rw [if_neg (by rw [hm]; simp)], by unfold bestW; rw [if_neg (by rw [hm]; simp)], by unfold brkR; rw [if_pos hm]⟩
  | true =>
    right
    cases h2 : bestW l t 200 with
    | some x =>
      left
      obtain ⟨_, h0, hr, _, _⟩ := best_some h2
      have hr2 := run_more hr
      cases h3 : bestW l t 10000 with
      | none =>
        have := best_none hm h3 x.2.2
        rw [It.total_run hm h0, hr2] at this
        cases this
      | some y =>
        have := ((best_some h3).2.2.2.2 x.2.2 x.1 (by rw [It.total_run hm h0]; exact hr2)).1
        exact ⟨rfl, x, y, rfl, rfl, this, by unfold brkR; rw [if_neg (by rw [hm]; simp), h2]⟩
    | none =>
      right
      cases h3 : bestW l t 10000 with
      | some y => exact .inl ⟨rfl, rfl, y, rfl, by unfold brkR; rw [if_neg (by rw [hm]; simp), h2]; simp only []; rw [h3]⟩
      | none => exact .inr ⟨rfl, rfl, rfl, by unfold brkR; rw [if_neg (by rw [hm]; simp), h2]; simp only []; rw [h3]⟩

set_option maxHeartbeats 16000000 in
set_option maxRecDepth 100000 in
theorem lawForced11 (v : Value) (l : List It.Itm) (t : Int) (w : World) (h : ItsAt w v l) : Calls Try.prog 6 #[v, .int .i64 t] w (Ret (.bool true) w) := by
  have HF := Lib.hid (fun w => fixed11 w)
  have HA := Lib.hid h
  have HB := Lib.hid (fun tol w h => best_any v l t tol w h)
  have HK := Lib.hid (fun w h => break_any v l t w h)
  have HM := Lib.hid (fun w h => refItMay_any v l w h)
  have HI : Hid (∀ x u v w, NumsAt w u x → NumsAt w v x → Calls Try.prog 13 #[u, v] w (Ret (.bool true) w)) := Lib.hid (fun x u v w hu hv => by
    have := ints_any u v x x w hu hv
    rw [decide_eq_true rfl] at this
    exact this)
  obtain ⟨⟨p, cp, rfl, hcap⟩, hm, hk⟩ := h
  have hza : l.length ≤ 9223372036854775807 := by unfold maxLen at hm; omega
  obtain ⟨n, hn⟩ : ∃ n, n = l.length := ⟨_, rfl⟩
  have Hn := Lib.hid hn
  have hA' := HA.out
  rw [← hn] at HB HK HM hza hA' ⊢
  have HA' := Lib.hid hA'
  have hcases := told_cases l t
  clear hcap hm hn hA' hk
  by_cases hl : n ≤ 200
  · have g1 : ¬ ((200 : Int) < (n : Int)) := by omega
    rcases hcases with ⟨hmay, hb2, hb1, hbr⟩ | ⟨hmay, x, y, hb2, hb1, hle, hbr⟩ | ⟨hmay, hb2, y, hb1, hbr⟩ | ⟨hmay, hb2, hb1, hbr⟩
    · have HB2 := Lib.hid (HB.out 200)
      have HB1 := Lib.hid (HB.out 10000)
      rw [hb2] at HB2
      rw [hb1] at HB1
      rw [hbr] at HK
      rw [hmay] at HM
      unfold BestPost bz bl at HB2 HB1
      unfold BreakPost bl at HK
      simp only [Option.isSome] at HB2 HB1 HK
      clear hmay hbr HB
      go_enter Try.func6, Try.ntmps6
      go_wp2_with fail
      refine (HF.out _).mono ?_
      rintro e w1 ⟨rfl, b1⟩
      have B1 := Lib.hid b1
      have I1 := Lib.hid (SlcAt.mono HA'.out b1)
      clear b1
      go_wp2_with fail
      refine (HB2.out _ I1.out).mono ?_
      rintro e w2 ⟨u2, rfl, n2, b2⟩
      have B2 := Lib.hid (below_step B1.out b2)
      have I2 := Lib.hid (SlcAt.mono I1.out b2)
      have N2 := Lib.hid (n2.at inC_len)
      clear b2 n2
      go_wp2_with fail
      refine (HB1.out _ I2.out).mono ?_
      rintro e w3 ⟨u3, rfl, n3, b3⟩
      have B3 := Lib.hid (below_step B2.out b3)
      have I3 := Lib.hid (SlcAt.mono I2.out b3)
      have N3 := Lib.hid (SlcAt.mono N2.out b3)
      clear b3 n3
      go_wp2_with fail
      refine (HK.out _ I3.out).mono ?_
      rintro e w4 ⟨u4, rfl, n4, b4⟩
      have hb4 := below_alloc w4 (.cells #[.int .i64 90, .int .i64 0] 29)
      have X4 := Lib.hid (obj_new w4 _ rfl #[.int .i64 90, .int .i64 0] 29)
      obtain ⟨W4, hW4⟩ : ∃ W4, W4 = w4.alloc (.cells #[.int .i64 90, .int .i64 0] 29) := ⟨_, rfl⟩
      rw [← hW4] at hb4 X4
      have hs4 := below_step b4 hb4
      have M4 := Lib.hid (SlcAt.mono n4 hb4)
      have N4 := Lib.hid (SlcAt.mono N3.out hs4)
      have B4 := Lib.hid (below_step B3.out hs4)
      have I4 := Lib.hid (SlcAt.mono I3.out hs4)
      obtain ⟨P, hP⟩ : ∃ P, P = w4.heap.size := ⟨_, rfl⟩
      rw [← hP] at X4
      clear n4 b4 hb4 hs4
      go_upto_region 6 with fail
      rw [← hW4, ← hP]
      clear hW4 hP
      have c0 : W4.cell? ⟨P, 0, none⟩ = some (.int .i64 90) := Lib.cell_of_heap X4.out 0
      have HD := Lib.hid (below_drew10 W4)
      (try have hgt : ¬ x.1 < y.1 := by omega)
      have HMd := Lib.hid (HM.out W4.drew (SlcAt.mono I4.out HD.out))
      have S0 : (fun w' : World => w'.cell? ⟨P, 0, none⟩ = some (.int .i64 90)) W4.drew := c0
      refine wp_region_held_drew (S := fun w' : World => w'.cell? ⟨P, 0, none⟩ = some (.int .i64 90)) (by kernel_rfl) S0 (fun hHeld => ?_)
      clear S0
      refine take_g (i := 0) (d := 45) (op := Op.move (Operand.tmp 7)) (ty := 4) (v := .bool false) (g := none) (by kernel_rfl) (by kernel_rfl) (by rfl) (by kernel_rfl) (by kernel_rfl) (by kernel_rfl) (fun _ _ _ h => h) (fun wS hS => by clear hS; go_simp) hHeld ?_
      try simp only [Act.put, List.setIfInBounds_toArray, List.set_cons_zero, List.set_cons_succ]
      refine take_g (i := 1) (d := 46) (op := Op.move (Operand.tmp 45)) (ty := 4) (v := .bool false) (g := none) (by kernel_rfl) (by kernel_rfl) (by rfl) (by kernel_rfl) (by kernel_rfl) (by kernel_rfl) (fun _ _ _ h => h) (fun wS hS => by clear hS; go_simp) hHeld ?_
      try simp only [Act.put, List.setIfInBounds_toArray, List.set_cons_zero, List.set_cons_succ]
      refine skip_g (i := 2) (d := 47) (g := (1, true)) (by kernel_rfl) (by kernel_rfl) (by rfl) (by kernel_rfl) (by kernel_rfl) (by kernel_rfl) (fun _ _ _ h => h) hHeld ?_
      try simp only [Act.put, List.setIfInBounds_toArray, List.set_cons_zero, List.set_cons_succ]
      refine skip_g (i := 3) (d := 48) (g := (1, true)) (by kernel_rfl) (by kernel_rfl) (by rfl) (by kernel_rfl) (by kernel_rfl) (by kernel_rfl) (fun _ _ _ h => h) hHeld ?_
      try simp only [Act.put, List.setIfInBounds_toArray, List.set_cons_zero, List.set_cons_succ]
      refine skip_g (i := 4) (d := 49) (g := (1, true)) (by kernel_rfl) (by kernel_rfl) (by rfl) (by kernel_rfl) (by kernel_rfl) (by kernel_rfl) (fun _ _ _ h => h) hHeld ?_
      try simp only [Act.put, List.setIfInBounds_toArray, List.set_cons_zero, List.set_cons_succ]
      refine skip_g (i := 5) (d := 50) (g := (4, false)) (by kernel_rfl) (by kernel_rfl) (by rfl) (by kernel_rfl) (by kernel_rfl) (by kernel_rfl) (fun _ _ _ h => h) hHeld ?_
      try simp only [Act.put, List.setIfInBounds_toArray, List.set_cons_zero, List.set_cons_succ]
      refine skip_g (i := 6) (d := 51) (g := (4, false)) (by kernel_rfl) (by kernel_rfl) (by rfl) (by kernel_rfl) (by kernel_rfl) (by kernel_rfl) (fun _ _ _ h => h) hHeld ?_
      try simp only [Act.put, List.setIfInBounds_toArray, List.set_cons_zero, List.set_cons_succ]
      refine skip_g (i := 7) (d := 52) (g := (4, false)) (by kernel_rfl) (by kernel_rfl) (by rfl) (by kernel_rfl) (by kernel_rfl) (by kernel_rfl) (fun _ _ _ h => h) hHeld ?_
      try simp only [Act.put, List.setIfInBounds_toArray, List.set_cons_zero, List.set_cons_succ]
      refine skip_g (i := 8) (d := 53) (g := (1, true)) (by kernel_rfl) (by kernel_rfl) (by rfl) (by kernel_rfl) (by kernel_rfl) (by kernel_rfl) (fun _ _ _ h => h) hHeld ?_
      try simp only [Act.put, List.setIfInBounds_toArray, List.set_cons_zero, List.set_cons_succ]
      refine take_g (i := 9) (d := 54) (op := Op.pick (Operand.tmp 46) (Operand.tmp 53) (Operand.const (Value.bool false))) (ty := 4) (v := .bool false) (g := none) (by kernel_rfl) (by kernel_rfl) (by rfl) (by kernel_rfl) (by kernel_rfl) (by kernel_rfl) (fun _ _ _ h => h) (fun wS hS => by clear hS; go_simp) hHeld ?_
      try simp only [Act.put, List.setIfInBounds_toArray, List.set_cons_zero, List.set_cons_succ]
      refine take_g (i := 10) (d := 55) (op := Op.move (Operand.tmp 54)) (ty := 4) (v := .bool false) (g := none) (by kernel_rfl) (by kernel_rfl) (by rfl) (by kernel_rfl) (by kernel_rfl) (by kernel_rfl) (fun _ _ _ h => h) (fun wS hS => by clear hS; go_simp) hHeld ?_
      try simp only [Act.put, List.setIfInBounds_toArray, List.set_cons_zero, List.set_cons_succ]
      refine take_g (i := 11) (d := 56) (op := Op.fieldAddr 29 (Operand.tmp 13) 0) (ty := 0) (v := .pointer (some ⟨P, 0, none⟩)) (g := some (10, false)) (by kernel_rfl) (by kernel_rfl) (by rfl) (by kernel_rfl) (by kernel_rfl) (by kernel_rfl) (fun _ _ _ h => h) (fun wS hS => by clear hS; go_simp) hHeld ?_
      try simp only [Act.put, List.setIfInBounds_toArray, List.set_cons_zero, List.set_cons_succ]
      refine take_g (i := 12) (d := 57) (op := Op.load 27 (Operand.tmp 56)) (ty := 27) (v := .int .i64 90) (g := some (10, false)) (by kernel_rfl) (by kernel_rfl) (by rfl) (by kernel_rfl) (by kernel_rfl) (by kernel_rfl) (fun _ _ _ h => h) (fun wS hS => by (try dsimp only at hS); go_simp) hHeld ?_
      try simp only [Act.put, List.setIfInBounds_toArray, List.set_cons_zero, List.set_cons_succ]
      refine take_g (i := 13) (d := 58) (op := Op.binOp BinOp.eql 27 (Operand.tmp 57) (Operand.const (Value.int IntKind.i64 0)) 27) (ty := 4) (v := .bool false) (g := some (10, false)) (by kernel_rfl) (by kernel_rfl) (by rfl) (by kernel_rfl) (by kernel_rfl) (by kernel_rfl) (fun _ _ _ h => h) (fun wS hS => by clear hS; go_simp) hHeld ?_
      try simp only [Act.put, List.setIfInBounds_toArray, List.set_cons_zero, List.set_cons_succ]
      refine take_g (i := 14) (d := 59) (op := Op.move (Operand.tmp 0)) (ty := 22) (v := .slice p n cp) (g := some (10, false)) (by kernel_rfl) (by kernel_rfl) (by rfl) (by kernel_rfl) (by kernel_rfl) (by kernel_rfl) (fun _ _ _ h => h) (fun wS hS => by clear hS; go_simp) hHeld ?_
      try simp only [Act.put, List.setIfInBounds_toArray, List.set_cons_zero, List.set_cons_succ]
      refine wpAnyH_ready (rs := [15]) (by kernel_rfl) (by simp) ?_
      refine AllReadyH.cons rfl (fun K hK => ?_) AllReadyH.nil
      go_simp
      refine HMd.out.mono ?_
      rintro e w5 ⟨rfl, b5⟩
      have HX := Lib.hid (below_step HD.out b5)
      clear b5
      refine hK.out _ _ (cell_below HX.out c0) (fun hHeld => ?_)
      clear hK K
      try simp only [Act.put, List.setIfInBounds_toArray, List.set_cons_zero, List.set_cons_succ]
      refine take_g (i := 16) (d := 61) (op := Op.move (Operand.tmp 60)) (ty := 4) (v := .bool false) (g := some (10, false)) (by kernel_rfl) (by kernel_rfl) (by rfl) (by kernel_rfl) (by kernel_rfl) (by kernel_rfl) (fun _ _ _ h => h) (fun wS hS => by clear hS; go_simp) hHeld ?_
      try simp only [Act.put, List.setIfInBounds_toArray, List.set_cons_zero, List.set_cons_succ]
      refine skip_g (i := 17) (d := 62) (g := (16, true)) (by kernel_rfl) (by kernel_rfl) (by rfl) (by kernel_rfl) (by kernel_rfl) (by kernel_rfl) (fun _ _ _ h => h) hHeld ?_
      try simp only [Act.put, List.setIfInBounds_toArray, List.set_cons_zero, List.set_cons_succ]
      refine skip_g (i := 18) (d := 63) (g := (16, true)) (by kernel_rfl) (by kernel_rfl) (by rfl) (by kernel_rfl) (by kernel_rfl) (by kernel_rfl) (fun _ _ _ h => h) hHeld ?_
      try simp only [Act.put, List.setIfInBounds_toArray, List.set_cons_zero, List.set_cons_succ]
      refine skip_g (i := 19) (d := 64) (g := (18, false)) (by kernel_rfl) (by kernel_rfl) (by rfl) (by kernel_rfl) (by kernel_rfl) (by kernel_rfl) (fun _ _ _ h => h) hHeld ?_
      try simp only [Act.put, List.setIfInBounds_toArray, List.set_cons_zero, List.set_cons_succ]
      refine skip_g (i := 20) (d := 65) (g := (16, true)) (by kernel_rfl) (by kernel_rfl) (by rfl) (by kernel_rfl) (by kernel_rfl) (by kernel_rfl) (fun _ _ _ h => h) hHeld ?_
      try simp only [Act.put, List.setIfInBounds_toArray, List.set_cons_zero, List.set_cons_succ]
      refine take_g (i := 21) (d := 66) (op := Op.pick (Operand.tmp 61) (Operand.tmp 65) (Operand.const (Value.bool false))) (ty := 4) (v := .bool false) (g := some (10, false)) (by kernel_rfl) (by kernel_rfl) (by rfl) (by kernel_rfl) (by kernel_rfl) (by kernel_rfl) (fun _ _ _ h => h) (fun wS hS => by clear hS; go_simp) hHeld ?_
      try simp only [Act.put, List.setIfInBounds_toArray, List.set_cons_zero, List.set_cons_succ]
      refine take_g (i := 22) (d := 67) (op := Op.binOp BinOp.neq 4 (Operand.tmp 58) (Operand.tmp 66) 4) (ty := 4) (v := .bool false) (g := some (10, false)) (by kernel_rfl) (by kernel_rfl) (by rfl) (by kernel_rfl) (by kernel_rfl) (by kernel_rfl) (fun _ _ _ h => h) (fun wS hS => by clear hS; go_simp) hHeld ?_
      try simp only [Act.put, List.setIfInBounds_toArray, List.set_cons_zero, List.set_cons_succ]
      refine take_g (i := 23) (d := 68) (op := Op.pick (Operand.tmp 55) (Operand.const (Value.bool true)) (Operand.tmp 67)) (ty := 4) (v := .bool false) (g := none) (by kernel_rfl) (by kernel_rfl) (by rfl) (by kernel_rfl) (by kernel_rfl) (by kernel_rfl) (fun _ _ _ h => h) (fun wS hS => by clear hS; go_simp) hHeld ?_
      try simp only [Act.put, List.setIfInBounds_toArray, List.set_cons_zero, List.set_cons_succ]
      refine take_g (i := 24) (d := 69) (op := Op.move (Operand.tmp 68)) (ty := 4) (v := .bool false) (g := none) (by kernel_rfl) (by kernel_rfl) (by rfl) (by kernel_rfl) (by kernel_rfl) (by kernel_rfl) (fun _ _ _ h => h) (fun wS hS => by clear hS; go_simp) hHeld ?_
      try simp only [Act.put, List.setIfInBounds_toArray, List.set_cons_zero, List.set_cons_succ]
      refine take_g (i := 25) (d := 70) (op := Op.move (Operand.tmp 12)) (ty := 4) (v := .bool false) (g := some (24, false)) (by kernel_rfl) (by kernel_rfl) (by rfl) (by kernel_rfl) (by kernel_rfl) (by kernel_rfl) (fun _ _ _ h => h) (fun wS hS => by clear hS; go_simp) hHeld ?_
      try simp only [Act.put, List.setIfInBounds_toArray, List.set_cons_zero, List.set_cons_succ]
      refine take_g (i := 26) (d := 71) (op := Op.move (Operand.tmp 7)) (ty := 4) (v := .bool false) (g := some (24, false)) (by kernel_rfl) (by kernel_rfl) (by rfl) (by kernel_rfl) (by kernel_rfl) (by kernel_rfl) (fun _ _ _ h => h) (fun wS hS => by clear hS; go_simp) hHeld ?_
      try simp only [Act.put, List.setIfInBounds_toArray, List.set_cons_zero, List.set_cons_succ]
      refine take_g (i := 27) (d := 72) (op := Op.unOp UnOp.not 4 (Operand.tmp 71)) (ty := 4) (v := .bool true) (g := some (24, false)) (by kernel_rfl) (by kernel_rfl) (by rfl) (by kernel_rfl) (by kernel_rfl) (by kernel_rfl) (fun _ _ _ h => h) (fun wS hS => by clear hS; go_simp) hHeld ?_
      try simp only [Act.put, List.setIfInBounds_toArray, List.set_cons_zero, List.set_cons_succ]
      refine take_g (i := 28) (d := 73) (op := Op.move (Operand.tmp 72)) (ty := 4) (v := .bool true) (g := some (24, false)) (by kernel_rfl) (by kernel_rfl) (by rfl) (by kernel_rfl) (by kernel_rfl) (by kernel_rfl) (fun _ _ _ h => h) (fun wS hS => by clear hS; go_simp) hHeld ?_
      try simp only [Act.put, List.setIfInBounds_toArray, List.set_cons_zero, List.set_cons_succ]
      refine take_g (i := 29) (d := 74) (op := Op.move (Operand.tmp 10)) (ty := 4) (v := .bool false) (g := some (28, true)) (by kernel_rfl) (by kernel_rfl) (by rfl) (by kernel_rfl) (by kernel_rfl) (by kernel_rfl) (fun _ _ _ h => h) (fun wS hS => by clear hS; go_simp) hHeld ?_
      try simp only [Act.put, List.setIfInBounds_toArray, List.set_cons_zero, List.set_cons_succ]
      refine take_g (i := 30) (d := 75) (op := Op.pick (Operand.tmp 73) (Operand.tmp 74) (Operand.const (Value.bool false))) (ty := 4) (v := .bool false) (g := some (24, false)) (by kernel_rfl) (by kernel_rfl) (by rfl) (by kernel_rfl) (by kernel_rfl) (by kernel_rfl) (fun _ _ _ h => h) (fun wS hS => by clear hS; go_simp) hHeld ?_
      try simp only [Act.put, List.setIfInBounds_toArray, List.set_cons_zero, List.set_cons_succ]
      refine take_g (i := 31) (d := 76) (op := Op.binOp BinOp.neq 4 (Operand.tmp 70) (Operand.tmp 75) 4) (ty := 4) (v := .bool false) (g := some (24, false)) (by kernel_rfl) (by kernel_rfl) (by rfl) (by kernel_rfl) (by kernel_rfl) (by kernel_rfl) (fun _ _ _ h => h) (fun wS hS => by clear hS; go_simp) hHeld ?_
      try simp only [Act.put, List.setIfInBounds_toArray, List.set_cons_zero, List.set_cons_succ]
      refine take_g (i := 32) (d := 77) (op := Op.pick (Operand.tmp 69) (Operand.const (Value.bool true)) (Operand.tmp 76)) (ty := 4) (v := .bool false) (g := none) (by kernel_rfl) (by kernel_rfl) (by rfl) (by kernel_rfl) (by kernel_rfl) (by kernel_rfl) (fun _ _ _ h => h) (fun wS hS => by clear hS; go_simp) hHeld ?_
      try simp only [Act.put, List.setIfInBounds_toArray, List.set_cons_zero, List.set_cons_succ]
      refine take_g (i := 33) (d := 78) (op := Op.move (Operand.tmp 77)) (ty := 4) (v := .bool false) (g := none) (by kernel_rfl) (by kernel_rfl) (by rfl) (by kernel_rfl) (by kernel_rfl) (by kernel_rfl) (fun _ _ _ h => h) (fun wS hS => by clear hS; go_simp) hHeld ?_
      try simp only [Act.put, List.setIfInBounds_toArray, List.set_cons_zero, List.set_cons_succ]
      refine take_g (i := 34) (d := 79) (op := Op.move (Operand.tmp 7)) (ty := 4) (v := .bool false) (g := some (33, false)) (by kernel_rfl) (by kernel_rfl) (by rfl) (by kernel_rfl) (by kernel_rfl) (by kernel_rfl) (fun _ _ _ h => h) (fun wS hS => by clear hS; go_simp) hHeld ?_
      try simp only [Act.put, List.setIfInBounds_toArray, List.set_cons_zero, List.set_cons_succ]
      refine take_g (i := 35) (d := 80) (op := Op.move (Operand.tmp 79)) (ty := 4) (v := .bool false) (g := some (33, false)) (by kernel_rfl) (by kernel_rfl) (by rfl) (by kernel_rfl) (by kernel_rfl) (by kernel_rfl) (fun _ _ _ h => h) (fun wS hS => by clear hS; go_simp) hHeld ?_
      try simp only [Act.put, List.setIfInBounds_toArray, List.set_cons_zero, List.set_cons_succ]
      refine skip_g (i := 36) (d := 81) (g := (35, true)) (by kernel_rfl) (by kernel_rfl) (by rfl) (by kernel_rfl) (by kernel_rfl) (by kernel_rfl) (fun _ _ _ h => h) hHeld ?_
      try simp only [Act.put, List.setIfInBounds_toArray, List.set_cons_zero, List.set_cons_succ]
      refine skip_g (i := 37) (d := 82) (g := (35, true)) (by kernel_rfl) (by kernel_rfl) (by rfl) (by kernel_rfl) (by kernel_rfl) (by kernel_rfl) (fun _ _ _ h => h) hHeld ?_
      try simp only [Act.put, List.setIfInBounds_toArray, List.set_cons_zero, List.set_cons_succ]
      refine skip_g (i := 38) (d := 83) (g := (35, true)) (by kernel_rfl) (by kernel_rfl) (by rfl) (by kernel_rfl) (by kernel_rfl) (by kernel_rfl) (fun _ _ _ h => h) hHeld ?_
      try simp only [Act.put, List.setIfInBounds_toArray, List.set_cons_zero, List.set_cons_succ]
      refine skip_g (i := 39) (d := 84) (g := (35, true)) (by kernel_rfl) (by kernel_rfl) (by rfl) (by kernel_rfl) (by kernel_rfl) (by kernel_rfl) (fun _ _ _ h => h) hHeld ?_
      try simp only [Act.put, List.setIfInBounds_toArray, List.set_cons_zero, List.set_cons_succ]
      refine take_g (i := 40) (d := 85) (op := Op.pick (Operand.tmp 80) (Operand.tmp 84) (Operand.const (Value.bool false))) (ty := 4) (v := .bool false) (g := some (33, false)) (by kernel_rfl) (by kernel_rfl) (by rfl) (by kernel_rfl) (by kernel_rfl) (by kernel_rfl) (fun _ _ _ h => h) (fun wS hS => by clear hS; go_simp) hHeld ?_
      try simp only [Act.put, List.setIfInBounds_toArray, List.set_cons_zero, List.set_cons_succ]
      refine take_g (i := 41) (d := 86) (op := Op.pick (Operand.tmp 78) (Operand.const (Value.bool true)) (Operand.tmp 85)) (ty := 4) (v := .bool false) (g := none) (by kernel_rfl) (by kernel_rfl) (by rfl) (by kernel_rfl) (by kernel_rfl) (by kernel_rfl) (fun _ _ _ h => h) (fun wS hS => by clear hS; go_simp) hHeld ?_
      try simp only [Act.put, List.setIfInBounds_toArray, List.set_cons_zero, List.set_cons_succ]
      refine wpAnyH_done (by kernel_rfl) ?_ _
      clear hHeld
      all_goals (
        have BX := Lib.hid (below_step B4.out HX.out)
        have XX := Lib.hid (obj_kept HX.out X4.out)
        clear c0
        have c0 : w5.cell? ⟨P, 0, none⟩ = some (.int .i64 90) := Lib.cell_of_heap XX.out 0
        go_wp2_with fail
        go_loopw [15] (fun iv wr => iv = .int .i64 0 ∧ Hid (Below w5.heap.size w5 wr)) (fun _ _ => 0)
        case atStart => exact ⟨rfl, Lib.hid (Below.refl _ _)⟩
        case round =>
          obtain ⟨rfl, HBr⟩ := hrel
          have z0 : wr.cell? ⟨P, 0, none⟩ = some (.int .i64 90) := Lib.cell_of_heap (obj_kept HBr.out XX.out) 0
          by_cases hn0 : (0 : Int) < (n : Int)
          · go_wp2
            go_ret
            exact ⟨rfl, below_step BX.out HBr.out⟩
          · go_wp2
            go_ret
            exact ⟨rfl, below_step BX.out HBr.out⟩)
    · have HB2 := Lib.hid (HB.out 200)
      have HB1 := Lib.hid (HB.out 10000)
      rw [hb2] at HB2
      rw [hb1] at HB1
      rw [hbr] at HK
      rw [hmay] at HM
      unfold BestPost bz bl at HB2 HB1
      unfold BreakPost bl at HK
      simp only [Option.isSome] at HB2 HB1 HK
      obtain ⟨bmay, bn0, brun, _, _⟩ := best_some hb2
      have HFrc : Hid (∀ (i : Nat) (it : It.Itm), l[i]? = some it → It.forced it = true → (i : Int) ∈ x.2.2) := Lib.hid (fun i it hi hf => run_forced brun i it (by omega) hi hf)
      have HRs := Lib.hid (run_rises brun).2
      clear bmay bn0 brun
      clear hmay hbr HB
      go_enter Try.func6, Try.ntmps6
      go_wp2_with fail
      refine (HF.out _).mono ?_
      rintro e w1 ⟨rfl, b1⟩
      have B1 := Lib.hid b1
      have I1 := Lib.hid (SlcAt.mono HA'.out b1)
      clear b1
      go_wp2_with fail
      refine (HB2.out _ I1.out).mono ?_
      rintro e w2 ⟨u2, rfl, n2, b2⟩
      have B2 := Lib.hid (below_step B1.out b2)
      have I2 := Lib.hid (SlcAt.mono I1.out b2)
      have N2 := Lib.hid (n2.at inC_len)
      clear b2 n2
      go_wp2_with fail
      refine (HB1.out _ I2.out).mono ?_
      rintro e w3 ⟨u3, rfl, n3, b3⟩
      have B3 := Lib.hid (below_step B2.out b3)
      have I3 := Lib.hid (SlcAt.mono I2.out b3)
      have N3 := Lib.hid (SlcAt.mono N2.out b3)
      clear b3 n3
      go_wp2_with fail
      refine (HK.out _ I3.out).mono ?_
      rintro e w4 ⟨u4, rfl, n4, b4⟩
      have hb4 := below_alloc w4 (.cells #[.int .i64 0, .int .i64 0] 29)
      have X4 := Lib.hid (obj_new w4 _ rfl #[.int .i64 0, .int .i64 0] 29)
      obtain ⟨W4, hW4⟩ : ∃ W4, W4 = w4.alloc (.cells #[.int .i64 0, .int .i64 0] 29) := ⟨_, rfl⟩
      rw [← hW4] at hb4 X4
      have hs4 := below_step b4 hb4
      have M4 := Lib.hid (SlcAt.mono n4 hb4)
      have N4 := Lib.hid (SlcAt.mono N3.out hs4)
      have B4 := Lib.hid (below_step B3.out hs4)
      have I4 := Lib.hid (SlcAt.mono I3.out hs4)
      obtain ⟨P, hP⟩ : ∃ P, P = w4.heap.size := ⟨_, rfl⟩
      rw [← hP] at X4
      clear n4 b4 hb4 hs4
      go_upto_region 6 with fail
      rw [← hW4, ← hP]
      clear hW4 hP
      have c0 : W4.cell? ⟨P, 0, none⟩ = some (.int .i64 0) := Lib.cell_of_heap X4.out 0
      have HD := Lib.hid (below_drew10 W4)
      (try have hgt : ¬ x.1 < y.1 := by omega)
      have HMd := Lib.hid (HM.out W4.drew (SlcAt.mono I4.out HD.out))
      have S0 : (fun w' : World => w'.cell? ⟨P, 0, none⟩ = some (.int .i64 0)) W4.drew := c0
      refine wp_region_held_drew (S := fun w' : World => w'.cell? ⟨P, 0, none⟩ = some (.int .i64 0)) (by kernel_rfl) S0 (fun hHeld => ?_)
      clear S0
      refine take_g (i := 0) (d := 45) (op := Op.move (Operand.tmp 7)) (ty := 4) (v := .bool true) (g := none) (by kernel_rfl) (by kernel_rfl) (by rfl) (by kernel_rfl) (by kernel_rfl) (by kernel_rfl) (fun _ _ _ h => h) (fun wS hS => by clear hS; go_simp) hHeld ?_
      try simp only [Act.put, List.setIfInBounds_toArray, List.set_cons_zero, List.set_cons_succ]
      refine take_g (i := 1) (d := 46) (op := Op.move (Operand.tmp 45)) (ty := 4) (v := .bool true) (g := none) (by kernel_rfl) (by kernel_rfl) (by rfl) (by kernel_rfl) (by kernel_rfl) (by kernel_rfl) (fun _ _ _ h => h) (fun wS hS => by clear hS; go_simp) hHeld ?_
      try simp only [Act.put, List.setIfInBounds_toArray, List.set_cons_zero, List.set_cons_succ]
      refine take_g (i := 2) (d := 47) (op := Op.move (Operand.tmp 10)) (ty := 4) (v := .bool true) (g := some (1, true)) (by kernel_rfl) (by kernel_rfl) (by rfl) (by kernel_rfl) (by kernel_rfl) (by kernel_rfl) (fun _ _ _ h => h) (fun wS hS => by clear hS; go_simp) hHeld ?_
      try simp only [Act.put, List.setIfInBounds_toArray, List.set_cons_zero, List.set_cons_succ]
      refine take_g (i := 3) (d := 48) (op := Op.unOp UnOp.not 4 (Operand.tmp 47)) (ty := 4) (v := .bool false) (g := some (1, true)) (by kernel_rfl) (by kernel_rfl) (by rfl) (by kernel_rfl) (by kernel_rfl) (by kernel_rfl) (fun _ _ _ h => h) (fun wS hS => by clear hS; go_simp) hHeld ?_
      try simp only [Act.put, List.setIfInBounds_toArray, List.set_cons_zero, List.set_cons_succ]
      refine take_g (i := 4) (d := 49) (op := Op.move (Operand.tmp 48)) (ty := 4) (v := .bool false) (g := some (1, true)) (by kernel_rfl) (by kernel_rfl) (by rfl) (by kernel_rfl) (by kernel_rfl) (by kernel_rfl) (fun _ _ _ h => h) (fun wS hS => by clear hS; go_simp) hHeld ?_
      try simp only [Act.put, List.setIfInBounds_toArray, List.set_cons_zero, List.set_cons_succ]
      refine take_g (i := 5) (d := 50) (op := Op.move (Operand.tmp 9)) (ty := 2) (v := .int .i64 y.1) (g := some (4, false)) (by kernel_rfl) (by kernel_rfl) (by rfl) (by kernel_rfl) (by kernel_rfl) (by kernel_rfl) (fun _ _ _ h => h) (fun wS hS => by clear hS; go_simp) hHeld ?_
      try simp only [Act.put, List.setIfInBounds_toArray, List.set_cons_zero, List.set_cons_succ]
      refine take_g (i := 6) (d := 51) (op := Op.move (Operand.tmp 6)) (ty := 2) (v := .int .i64 x.1) (g := some (4, false)) (by kernel_rfl) (by kernel_rfl) (by rfl) (by kernel_rfl) (by kernel_rfl) (by kernel_rfl) (fun _ _ _ h => h) (fun wS hS => by clear hS; go_simp) hHeld ?_
      try simp only [Act.put, List.setIfInBounds_toArray, List.set_cons_zero, List.set_cons_succ]
      refine take_g (i := 7) (d := 52) (op := Op.binOp BinOp.gtr 2 (Operand.tmp 50) (Operand.tmp 51) 2) (ty := 4) (v := .bool false) (g := some (4, false)) (by kernel_rfl) (by kernel_rfl) (by rfl) (by kernel_rfl) (by kernel_rfl) (by kernel_rfl) (fun _ _ _ h => h) (fun wS hS => by clear hS; go_simp) hHeld ?_
      try simp only [Act.put, List.setIfInBounds_toArray, List.set_cons_zero, List.set_cons_succ]
      refine take_g (i := 8) (d := 53) (op := Op.pick (Operand.tmp 49) (Operand.const (Value.bool true)) (Operand.tmp 52)) (ty := 4) (v := .bool false) (g := some (1, true)) (by kernel_rfl) (by kernel_rfl) (by rfl) (by kernel_rfl) (by kernel_rfl) (by kernel_rfl) (fun _ _ _ h => h) (fun wS hS => by clear hS; go_simp) hHeld ?_
      try simp only [Act.put, List.setIfInBounds_toArray, List.set_cons_zero, List.set_cons_succ]
      refine take_g (i := 9) (d := 54) (op := Op.pick (Operand.tmp 46) (Operand.tmp 53) (Operand.const (Value.bool false))) (ty := 4) (v := .bool false) (g := none) (by kernel_rfl) (by kernel_rfl) (by rfl) (by kernel_rfl) (by kernel_rfl) (by kernel_rfl) (fun _ _ _ h => h) (fun wS hS => by clear hS; go_simp) hHeld ?_
      try simp only [Act.put, List.setIfInBounds_toArray, List.set_cons_zero, List.set_cons_succ]
      refine take_g (i := 10) (d := 55) (op := Op.move (Operand.tmp 54)) (ty := 4) (v := .bool false) (g := none) (by kernel_rfl) (by kernel_rfl) (by rfl) (by kernel_rfl) (by kernel_rfl) (by kernel_rfl) (fun _ _ _ h => h) (fun wS hS => by clear hS; go_simp) hHeld ?_
      try simp only [Act.put, List.setIfInBounds_toArray, List.set_cons_zero, List.set_cons_succ]
      refine take_g (i := 11) (d := 56) (op := Op.fieldAddr 29 (Operand.tmp 13) 0) (ty := 0) (v := .pointer (some ⟨P, 0, none⟩)) (g := some (10, false)) (by kernel_rfl) (by kernel_rfl) (by rfl) (by kernel_rfl) (by kernel_rfl) (by kernel_rfl) (fun _ _ _ h => h) (fun wS hS => by clear hS; go_simp) hHeld ?_
      try simp only [Act.put, List.setIfInBounds_toArray, List.set_cons_zero, List.set_cons_succ]
      refine take_g (i := 12) (d := 57) (op := Op.load 27 (Operand.tmp 56)) (ty := 27) (v := .int .i64 0) (g := some (10, false)) (by kernel_rfl) (by kernel_rfl) (by rfl) (by kernel_rfl) (by kernel_rfl) (by kernel_rfl) (fun _ _ _ h => h) (fun wS hS => by (try dsimp only at hS); go_simp) hHeld ?_
      try simp only [Act.put, List.setIfInBounds_toArray, List.set_cons_zero, List.set_cons_succ]
      refine take_g (i := 13) (d := 58) (op := Op.binOp BinOp.eql 27 (Operand.tmp 57) (Operand.const (Value.int IntKind.i64 0)) 27) (ty := 4) (v := .bool true) (g := some (10, false)) (by kernel_rfl) (by kernel_rfl) (by rfl) (by kernel_rfl) (by kernel_rfl) (by kernel_rfl) (fun _ _ _ h => h) (fun wS hS => by clear hS; go_simp) hHeld ?_
      try simp only [Act.put, List.setIfInBounds_toArray, List.set_cons_zero, List.set_cons_succ]
      refine take_g (i := 14) (d := 59) (op := Op.move (Operand.tmp 0)) (ty := 22) (v := .slice p n cp) (g := some (10, false)) (by kernel_rfl) (by kernel_rfl) (by rfl) (by kernel_rfl) (by kernel_rfl) (by kernel_rfl) (fun _ _ _ h => h) (fun wS hS => by clear hS; go_simp) hHeld ?_
      try simp only [Act.put, List.setIfInBounds_toArray, List.set_cons_zero, List.set_cons_succ]
      refine wpAnyH_ready (rs := [15]) (by kernel_rfl) (by simp) ?_
      refine AllReadyH.cons rfl (fun K hK => ?_) AllReadyH.nil
      go_simp
      refine HMd.out.mono ?_
      rintro e w5 ⟨rfl, b5⟩
      have HX := Lib.hid (below_step HD.out b5)
      clear b5
      refine hK.out _ _ (cell_below HX.out c0) (fun hHeld => ?_)
      clear hK K
      try simp only [Act.put, List.setIfInBounds_toArray, List.set_cons_zero, List.set_cons_succ]
      refine take_g (i := 16) (d := 61) (op := Op.move (Operand.tmp 60)) (ty := 4) (v := .bool true) (g := some (10, false)) (by kernel_rfl) (by kernel_rfl) (by rfl) (by kernel_rfl) (by kernel_rfl) (by kernel_rfl) (fun _ _ _ h => h) (fun wS hS => by clear hS; go_simp) hHeld ?_
      try simp only [Act.put, List.setIfInBounds_toArray, List.set_cons_zero, List.set_cons_succ]
      refine take_g (i := 17) (d := 62) (op := Op.move (Operand.tmp 7)) (ty := 4) (v := .bool true) (g := some (16, true)) (by kernel_rfl) (by kernel_rfl) (by rfl) (by kernel_rfl) (by kernel_rfl) (by kernel_rfl) (fun _ _ _ h => h) (fun wS hS => by clear hS; go_simp) hHeld ?_
      try simp only [Act.put, List.setIfInBounds_toArray, List.set_cons_zero, List.set_cons_succ]
      refine take_g (i := 18) (d := 63) (op := Op.move (Operand.tmp 62)) (ty := 4) (v := .bool true) (g := some (16, true)) (by kernel_rfl) (by kernel_rfl) (by rfl) (by kernel_rfl) (by kernel_rfl) (by kernel_rfl) (fun _ _ _ h => h) (fun wS hS => by clear hS; go_simp) hHeld ?_
      try simp only [Act.put, List.setIfInBounds_toArray, List.set_cons_zero, List.set_cons_succ]
      refine skip_g (i := 19) (d := 64) (g := (18, false)) (by kernel_rfl) (by kernel_rfl) (by rfl) (by kernel_rfl) (by kernel_rfl) (by kernel_rfl) (fun _ _ _ h => h) hHeld ?_
      try simp only [Act.put, List.setIfInBounds_toArray, List.set_cons_zero, List.set_cons_succ]
      refine take_g (i := 20) (d := 65) (op := Op.pick (Operand.tmp 63) (Operand.const (Value.bool true)) (Operand.tmp 64)) (ty := 4) (v := .bool true) (g := some (16, true)) (by kernel_rfl) (by kernel_rfl) (by rfl) (by kernel_rfl) (by kernel_rfl) (by kernel_rfl) (fun _ _ _ h => h) (fun wS hS => by clear hS; go_simp) hHeld ?_
      try simp only [Act.put, List.setIfInBounds_toArray, List.set_cons_zero, List.set_cons_succ]
      refine take_g (i := 21) (d := 66) (op := Op.pick (Operand.tmp 61) (Operand.tmp 65) (Operand.const (Value.bool false))) (ty := 4) (v := .bool true) (g := some (10, false)) (by kernel_rfl) (by kernel_rfl) (by rfl) (by kernel_rfl) (by kernel_rfl) (by kernel_rfl) (fun _ _ _ h => h) (fun wS hS => by clear hS; go_simp) hHeld ?_
      try simp only [Act.put, List.setIfInBounds_toArray, List.set_cons_zero, List.set_cons_succ]
      refine take_g (i := 22) (d := 67) (op := Op.binOp BinOp.neq 4 (Operand.tmp 58) (Operand.tmp 66) 4) (ty := 4) (v := .bool false) (g := some (10, false)) (by kernel_rfl) (by kernel_rfl) (by rfl) (by kernel_rfl) (by kernel_rfl) (by kernel_rfl) (fun _ _ _ h => h) (fun wS hS => by clear hS; go_simp) hHeld ?_
      try simp only [Act.put, List.setIfInBounds_toArray, List.set_cons_zero, List.set_cons_succ]
      refine take_g (i := 23) (d := 68) (op := Op.pick (Operand.tmp 55) (Operand.const (Value.bool true)) (Operand.tmp 67)) (ty := 4) (v := .bool false) (g := none) (by kernel_rfl) (by kernel_rfl) (by rfl) (by kernel_rfl) (by kernel_rfl) (by kernel_rfl) (fun _ _ _ h => h) (fun wS hS => by clear hS; go_simp) hHeld ?_
      try simp only [Act.put, List.setIfInBounds_toArray, List.set_cons_zero, List.set_cons_succ]
      refine take_g (i := 24) (d := 69) (op := Op.move (Operand.tmp 68)) (ty := 4) (v := .bool false) (g := none) (by kernel_rfl) (by kernel_rfl) (by rfl) (by kernel_rfl) (by kernel_rfl) (by kernel_rfl) (fun _ _ _ h => h) (fun wS hS => by clear hS; go_simp) hHeld ?_
      try simp only [Act.put, List.setIfInBounds_toArray, List.set_cons_zero, List.set_cons_succ]
      refine take_g (i := 25) (d := 70) (op := Op.move (Operand.tmp 12)) (ty := 4) (v := .bool false) (g := some (24, false)) (by kernel_rfl) (by kernel_rfl) (by rfl) (by kernel_rfl) (by kernel_rfl) (by kernel_rfl) (fun _ _ _ h => h) (fun wS hS => by clear hS; go_simp) hHeld ?_
      try simp only [Act.put, List.setIfInBounds_toArray, List.set_cons_zero, List.set_cons_succ]
      refine take_g (i := 26) (d := 71) (op := Op.move (Operand.tmp 7)) (ty := 4) (v := .bool true) (g := some (24, false)) (by kernel_rfl) (by kernel_rfl) (by rfl) (by kernel_rfl) (by kernel_rfl) (by kernel_rfl) (fun _ _ _ h => h) (fun wS hS => by clear hS; go_simp) hHeld ?_
      try simp only [Act.put, List.setIfInBounds_toArray, List.set_cons_zero, List.set_cons_succ]
      refine take_g (i := 27) (d := 72) (op := Op.unOp UnOp.not 4 (Operand.tmp 71)) (ty := 4) (v := .bool false) (g := some (24, false)) (by kernel_rfl) (by kernel_rfl) (by rfl) (by kernel_rfl) (by kernel_rfl) (by kernel_rfl) (fun _ _ _ h => h) (fun wS hS => by clear hS; go_simp) hHeld ?_
      try simp only [Act.put, List.setIfInBounds_toArray, List.set_cons_zero, List.set_cons_succ]
      refine take_g (i := 28) (d := 73) (op := Op.move (Operand.tmp 72)) (ty := 4) (v := .bool false) (g := some (24, false)) (by kernel_rfl) (by kernel_rfl) (by rfl) (by kernel_rfl) (by kernel_rfl) (by kernel_rfl) (fun _ _ _ h => h) (fun wS hS => by clear hS; go_simp) hHeld ?_
      try simp only [Act.put, List.setIfInBounds_toArray, List.set_cons_zero, List.set_cons_succ]
      refine skip_g (i := 29) (d := 74) (g := (28, true)) (by kernel_rfl) (by kernel_rfl) (by rfl) (by kernel_rfl) (by kernel_rfl) (by kernel_rfl) (fun _ _ _ h => h) hHeld ?_
      try simp only [Act.put, List.setIfInBounds_toArray, List.set_cons_zero, List.set_cons_succ]
      refine take_g (i := 30) (d := 75) (op := Op.pick (Operand.tmp 73) (Operand.tmp 74) (Operand.const (Value.bool false))) (ty := 4) (v := .bool false) (g := some (24, false)) (by kernel_rfl) (by kernel_rfl) (by rfl) (by kernel_rfl) (by kernel_rfl) (by kernel_rfl) (fun _ _ _ h => h) (fun wS hS => by clear hS; go_simp) hHeld ?_
      try simp only [Act.put, List.setIfInBounds_toArray, List.set_cons_zero, List.set_cons_succ]
      refine take_g (i := 31) (d := 76) (op := Op.binOp BinOp.neq 4 (Operand.tmp 70) (Operand.tmp 75) 4) (ty := 4) (v := .bool false) (g := some (24, false)) (by kernel_rfl) (by kernel_rfl) (by rfl) (by kernel_rfl) (by kernel_rfl) (by kernel_rfl) (fun _ _ _ h => h) (fun wS hS => by clear hS; go_simp) hHeld ?_
      try simp only [Act.put, List.setIfInBounds_toArray, List.set_cons_zero, List.set_cons_succ]
      refine take_g (i := 32) (d := 77) (op := Op.pick (Operand.tmp 69) (Operand.const (Value.bool true)) (Operand.tmp 76)) (ty := 4) (v := .bool false) (g := none) (by kernel_rfl) (by kernel_rfl) (by rfl) (by kernel_rfl) (by kernel_rfl) (by kernel_rfl) (fun _ _ _ h => h) (fun wS hS => by clear hS; go_simp) hHeld ?_
      try simp only [Act.put, List.setIfInBounds_toArray, List.set_cons_zero, List.set_cons_succ]
      refine take_g (i := 33) (d := 78) (op := Op.move (Operand.tmp 77)) (ty := 4) (v := .bool false) (g := none) (by kernel_rfl) (by kernel_rfl) (by rfl) (by kernel_rfl) (by kernel_rfl) (by kernel_rfl) (fun _ _ _ h => h) (fun wS hS => by clear hS; go_simp) hHeld ?_
      try simp only [Act.put, List.setIfInBounds_toArray, List.set_cons_zero, List.set_cons_succ]
      refine take_g (i := 34) (d := 79) (op := Op.move (Operand.tmp 7)) (ty := 4) (v := .bool true) (g := some (33, false)) (by kernel_rfl) (by kernel_rfl) (by rfl) (by kernel_rfl) (by kernel_rfl) (by kernel_rfl) (fun _ _ _ h => h) (fun wS hS => by clear hS; go_simp) hHeld ?_
      try simp only [Act.put, List.setIfInBounds_toArray, List.set_cons_zero, List.set_cons_succ]
      refine take_g (i := 35) (d := 80) (op := Op.move (Operand.tmp 79)) (ty := 4) (v := .bool true) (g := some (33, false)) (by kernel_rfl) (by kernel_rfl) (by rfl) (by kernel_rfl) (by kernel_rfl) (by kernel_rfl) (fun _ _ _ h => h) (fun wS hS => by clear hS; go_simp) hHeld ?_
      try simp only [Act.put, List.setIfInBounds_toArray, List.set_cons_zero, List.set_cons_succ]
      refine take_g (i := 36) (d := 81) (op := Op.move (Operand.tmp 5)) (ty := 24) (v := u2) (g := some (35, true)) (by kernel_rfl) (by kernel_rfl) (by rfl) (by kernel_rfl) (by kernel_rfl) (by kernel_rfl) (fun _ _ _ h => h) (fun wS hS => by clear hS; go_simp) hHeld ?_
      try simp only [Act.put, List.setIfInBounds_toArray, List.set_cons_zero, List.set_cons_succ]
      refine take_g (i := 37) (d := 82) (op := Op.move (Operand.tmp 11)) (ty := 24) (v := u4) (g := some (35, true)) (by kernel_rfl) (by kernel_rfl) (by rfl) (by kernel_rfl) (by kernel_rfl) (by kernel_rfl) (fun _ _ _ h => h) (fun wS hS => by clear hS; go_simp) hHeld ?_
      try simp only [Act.put, List.setIfInBounds_toArray, List.set_cons_zero, List.set_cons_succ]
      refine wpAnyH_ready (rs := [38]) (by kernel_rfl) (by simp) ?_
      refine AllReadyH.cons rfl (fun K hK => ?_) AllReadyH.nil
      go_simp
      refine (HI.out _ _ _ _ (SlcAt.mono N4.out HX.out) (SlcAt.mono M4.out HX.out)).mono ?_
      rintro e w6 ⟨rfl, b6⟩
      have HY := Lib.hid (below_step HX.out b6)
      clear b6
      refine hK.out _ _ (cell_below HY.out c0) (fun hHeld => ?_)
      clear hK K
      try simp only [Act.put, List.setIfInBounds_toArray, List.set_cons_zero, List.set_cons_succ]
      refine take_g (i := 39) (d := 84) (op := Op.unOp UnOp.not 4 (Operand.tmp 83)) (ty := 4) (v := .bool false) (g := some (35, true)) (by kernel_rfl) (by kernel_rfl) (by rfl) (by kernel_rfl) (by kernel_rfl) (by kernel_rfl) (fun _ _ _ h => h) (fun wS hS => by clear hS; go_simp) hHeld ?_
      try simp only [Act.put, List.setIfInBounds_toArray, List.set_cons_zero, List.set_cons_succ]
      refine take_g (i := 40) (d := 85) (op := Op.pick (Operand.tmp 80) (Operand.tmp 84) (Operand.const (Value.bool false))) (ty := 4) (v := .bool false) (g := some (33, false)) (by kernel_rfl) (by kernel_rfl) (by rfl) (by kernel_rfl) (by kernel_rfl) (by kernel_rfl) (fun _ _ _ h => h) (fun wS hS => by clear hS; go_simp) hHeld ?_
      try simp only [Act.put, List.setIfInBounds_toArray, List.set_cons_zero, List.set_cons_succ]
      refine take_g (i := 41) (d := 86) (op := Op.pick (Operand.tmp 78) (Operand.const (Value.bool true)) (Operand.tmp 85)) (ty := 4) (v := .bool false) (g := none) (by kernel_rfl) (by kernel_rfl) (by rfl) (by kernel_rfl) (by kernel_rfl) (by kernel_rfl) (fun _ _ _ h => h) (fun wS hS => by clear hS; go_simp) hHeld ?_
      try simp only [Act.put, List.setIfInBounds_toArray, List.set_cons_zero, List.set_cons_succ]
      refine wpAnyH_done (by kernel_rfl) ?_ _
      clear hHeld
      all_goals (
        have IX := Lib.hid (SlcAt.mono I4.out HY.out)
        have MX := Lib.hid (SlcAt.mono M4.out HY.out)
        have BX := Lib.hid (below_step B4.out HY.out)
        have XX := Lib.hid (obj_kept HY.out X4.out)
        obtain ⟨ua, uc, ue, hum, huk⟩ := num_cell MX.out
        subst ue
        have HKc := Lib.hid huk
        obtain ⟨m, hmm⟩ : ∃ m, m = x.2.2.length := ⟨_, rfl⟩
        have Hm := Lib.hid hmm
        have hzm : m ≤ 9223372036854775807 := by rw [hmm]; unfold maxLen at hum; omega
        (try rw [← hmm])
        clear hum huk hmm c0
        go_wp2_with fail
        go_loopw [14, 15] (fun kv iv wr => ∃ k i : Nat, k ≤ m ∧ i ≤ n ∧ kv = .int .i64 k ∧ iv = .int .i64 i ∧ Hid (∀ j p, j < k → x.2.2[j]? = some p → p < (i : Int)) ∧ Hid (Below w6.heap.size w6 wr)) (fun _ iv _ => n - (intOf iv).toNat)
        case atStart => exact ⟨0, 0, Nat.zero_le _, Nat.zero_le _, rfl, rfl, Lib.hid (fun j p hj => by omega), Lib.hid (Below.refl _ _)⟩
        case round =>
          obtain ⟨k, i, hk, hi, rfl, rfl, HLt, HBr⟩ := hrel
          have z0 : wr.cell? ⟨P, 0, none⟩ = some (.int .i64 0) := Lib.cell_of_heap (obj_kept HBr.out XX.out) 0
          by_cases hin : i < n
          · have hinI : (i : Int) < (n : Int) := by omega
            go_wp2_with fail
            go_loopw [14] (fun kv wr => ∃ k : Nat, k ≤ m ∧ kv = .int .i64 k ∧ Hid (∀ j p, j < k → x.2.2[j]? = some p → p < (i : Int)) ∧ Hid (Below w6.heap.size w6 wr)) (fun kv _ => m - (intOf kv).toNat)
            case atStart => exact ⟨k, hk, rfl, HLt, HBr⟩
            case round =>
              clear HLt HBr z0
              obtain ⟨k, hk, rfl, HLt, HBr⟩ := hrel
              have z0 : wr.cell? ⟨P, 0, none⟩ = some (.int .i64 0) := Lib.cell_of_heap (obj_kept HBr.out XX.out) 0
              obtain ⟨it, hit⟩ : ∃ it, l[i]? = some it := ⟨_, List.getElem?_eq_getElem (by rw [← Hn.out]; exact hin)⟩
              have i0 : (0 : Int) ≤ (i : Int) := by omega
              obtain ⟨ib, io, ic, ie, ir⟩ := (SlcAt.mono IX.out HBr.out).2.2 (by rw [← Hn.out]; omega)
              rw [← Hn.out] at ie
              obtain ⟨rfl, rfl⟩ : p = some ⟨ib, io, none⟩ ∧ cp = ic := by injection ie with a1 a2 a3; exact ⟨a1, a3⟩
              obtain ⟨y0, y1, y2, y3, y4, y5, y6, y7, y8⟩ := it_cells (ir i it hit)
              have HFc := Lib.hid (fun w => refForced_any it w)
              unfold itV at HFc
              have HFo : Hid (It.forced it = true → (i : Int) ∈ x.2.2) := Lib.hid (fun hf => HFrc.out i it hit hf)
              clear ie ir hit
              by_cases hkm : k < m
              · have hkmI : (k : Int) < (m : Int) := by omega
                have k0 : (0 : Int) ≤ (k : Int) := by omega
                obtain ⟨cb, co, hca, hcell⟩ := HKc.out (by rw [← Hm.out]; omega)
                subst hca
                obtain ⟨q, hq⟩ : ∃ q, x.2.2[k]? = some q := ⟨_, List.getElem?_eq_getElem (by rw [← Hm.out]; exact hkm)⟩
                have cq := cell_below HBr.out (hcell k q hq)
                have HQ := Lib.hid hq
                clear hcell hq
                by_cases hqi : q < (i : Int)
                · have HL2 : Hid (∀ j p, j < k + 1 → x.2.2[j]? = some p → p < (i : Int)) := Lib.hid (fun j p hj hp => by
                    by_cases hjk : j < k
                    · exact HLt.out j p hjk hp
                    · obtain rfl : j = k := by omega
                      rw [HQ.out] at hp
                      cases hp
                      exact hqi)
                  go_wp2
                  go_roundw
                  case rel => exact ⟨k + 1, by omega, by go_num, HL2, HBr⟩
                  case measure => simp [intOf]; omega
                · have HL2 : Hid (∀ j p, j < k → x.2.2[j]? = some p → p < ((i + 1 : Nat) : Int)) := Lib.hid (fun j p hj hp => by have := HLt.out j p hj hp; omega)
                  cases hf : It.forced it with
                  | false =>
                    rw [hf] at HFc
                    clear hf
                    go_wp2_with fail
                    refine (HFc.out _).mono ?_
                    rintro e w9 ⟨rfl, b9⟩
                    have HB9 := Lib.hid (below_step HBr.out b9)
                    clear b9
                    go_wp2
                    go_roundw
                    case rel => exact ⟨k, i + 1, by omega, by omega, rfl, by go_num, HL2, HB9⟩
                    case measure => simp [intOf]; omega
                  | true =>
                    have heq : q = (i : Int) := by
                      obtain ⟨j, hj⟩ := List.mem_iff_getElem?.1 (HFo.out hf)
                      by_cases hjk : j < k
                      · have := HLt.out j _ hjk hj; omega
                      · by_cases hje : j = k
                        · subst hje
                          rw [HQ.out] at hj
                          exact Option.some.inj hj
                        · have := HRs.out k j q _ (by omega) HQ.out hj
                          omega
                    subst heq
                    rw [hf] at HFc
                    clear hf
                    have hmk : ¬ (m : Int) ≤ (k : Int) := by omega
                    go_wp2_with fail
                    refine (HFc.out _).mono ?_
                    rintro e w9 ⟨rfl, b9⟩
                    have cq9 := cell_below b9 cq
                    have HB9 := Lib.hid (below_step HBr.out b9)
                    clear b9
                    go_wp2
                    go_roundw
                    case rel => exact ⟨k, i + 1, by omega, by omega, rfl, by go_num, HL2, HB9⟩
                    case measure => simp [intOf]; omega
              · have hkmI : ¬ (k : Int) < (m : Int) := by omega
                have HL2 : Hid (∀ j p, j < k → x.2.2[j]? = some p → p < ((i + 1 : Nat) : Int)) := Lib.hid (fun j p hj hp => by have := HLt.out j p hj hp; omega)
                have hf : It.forced it = false := by
                  cases hf : It.forced it with
                  | false => rfl
                  | true =>
                    obtain ⟨j, hj⟩ := List.mem_iff_getElem?.1 (HFo.out hf)
                    have := HLt.out j _ (by have := (List.getElem?_eq_some_iff.1 hj).1; rw [← Hm.out] at this; omega) hj
                    omega
                rw [hf] at HFc
                clear hf
                go_wp2_with fail
                refine (HFc.out _).mono ?_
                rintro e w9 ⟨rfl, b9⟩
                have HB9 := Lib.hid (below_step HBr.out b9)
                clear b9
                go_wp2
                go_roundw
                case rel => exact ⟨k, i + 1, by omega, by omega, rfl, by go_num, HL2, HB9⟩
                case measure => simp [intOf]; omega
          · have hinI : ¬ (i : Int) < (n : Int) := by omega
            go_wp2
            go_ret
            exact ⟨rfl, below_step BX.out HBr.out⟩)
    · have HB2 := Lib.hid (HB.out 200)
      have HB1 := Lib.hid (HB.out 10000)
      rw [hb2] at HB2
      rw [hb1] at HB1
      rw [hbr] at HK
      rw [hmay] at HM
      unfold BestPost bz bl at HB2 HB1
      unfold BreakPost bl at HK
      simp only [Option.isSome] at HB2 HB1 HK
      obtain ⟨bmay, bn0, brun, _, _⟩ := best_some hb1
      have HFrc : Hid (∀ (i : Nat) (it : It.Itm), l[i]? = some it → It.forced it = true → (i : Int) ∈ y.2.2) := Lib.hid (fun i it hi hf => run_forced brun i it (by omega) hi hf)
      have HRs := Lib.hid (run_rises brun).2
      clear bmay bn0 brun
      clear hmay hbr HB
      go_enter Try.func6, Try.ntmps6
      go_wp2_with fail
      refine (HF.out _).mono ?_
      rintro e w1 ⟨rfl, b1⟩
      have B1 := Lib.hid b1
      have I1 := Lib.hid (SlcAt.mono HA'.out b1)
      clear b1
      go_wp2_with fail
      refine (HB2.out _ I1.out).mono ?_
      rintro e w2 ⟨u2, rfl, n2, b2⟩
      have B2 := Lib.hid (below_step B1.out b2)
      have I2 := Lib.hid (SlcAt.mono I1.out b2)
      have N2 := Lib.hid (n2.at inC_len)
      clear b2 n2
      go_wp2_with fail
      refine (HB1.out _ I2.out).mono ?_
      rintro e w3 ⟨u3, rfl, n3, b3⟩
      have B3 := Lib.hid (below_step B2.out b3)
      have I3 := Lib.hid (SlcAt.mono I2.out b3)
      have N3 := Lib.hid (SlcAt.mono N2.out b3)
      clear b3 n3
      go_wp2_with fail
      refine (HK.out _ I3.out).mono ?_
      rintro e w4 ⟨u4, rfl, n4, b4⟩
      have hb4 := below_alloc w4 (.cells #[.int .i64 0, .int .i64 0] 29)
      have X4 := Lib.hid (obj_new w4 _ rfl #[.int .i64 0, .int .i64 0] 29)
      obtain ⟨W4, hW4⟩ : ∃ W4, W4 = w4.alloc (.cells #[.int .i64 0, .int .i64 0] 29) := ⟨_, rfl⟩
      rw [← hW4] at hb4 X4
      have hs4 := below_step b4 hb4
      have M4 := Lib.hid (SlcAt.mono n4 hb4)
      have N4 := Lib.hid (SlcAt.mono N3.out hs4)
      have B4 := Lib.hid (below_step B3.out hs4)
      have I4 := Lib.hid (SlcAt.mono I3.out hs4)
      obtain ⟨P, hP⟩ : ∃ P, P = w4.heap.size := ⟨_, rfl⟩
      rw [← hP] at X4
      clear n4 b4 hb4 hs4
      go_upto_region 6 with fail
      rw [← hW4, ← hP]
      clear hW4 hP
      have c0 : W4.cell? ⟨P, 0, none⟩ = some (.int .i64 0) := Lib.cell_of_heap X4.out 0
      have HD := Lib.hid (below_drew10 W4)
      (try have hgt : ¬ x.1 < y.1 := by omega)
      have HMd := Lib.hid (HM.out W4.drew (SlcAt.mono I4.out HD.out))
      have S0 : (fun w' : World => w'.cell? ⟨P, 0, none⟩ = some (.int .i64 0)) W4.drew := c0
      refine wp_region_held_drew (S := fun w' : World => w'.cell? ⟨P, 0, none⟩ = some (.int .i64 0)) (by kernel_rfl) S0 (fun hHeld => ?_)
      clear S0
      refine take_g (i := 0) (d := 45) (op := Op.move (Operand.tmp 7)) (ty := 4) (v := .bool false) (g := none) (by kernel_rfl) (by kernel_rfl) (by rfl) (by kernel_rfl) (by kernel_rfl) (by kernel_rfl) (fun _ _ _ h => h) (fun wS hS => by clear hS; go_simp) hHeld ?_
      try simp only [Act.put, List.setIfInBounds_toArray, List.set_cons_zero, List.set_cons_succ]
      refine take_g (i := 1) (d := 46) (op := Op.move (Operand.tmp 45)) (ty := 4) (v := .bool false) (g := none) (by kernel_rfl) (by kernel_rfl) (by rfl) (by kernel_rfl) (by kernel_rfl) (by kernel_rfl) (fun _ _ _ h => h) (fun wS hS => by clear hS; go_simp) hHeld ?_
      try simp only [Act.put, List.setIfInBounds_toArray, List.set_cons_zero, List.set_cons_succ]
      refine skip_g (i := 2) (d := 47) (g := (1, true)) (by kernel_rfl) (by kernel_rfl) (by rfl) (by kernel_rfl) (by kernel_rfl) (by kernel_rfl) (fun _ _ _ h => h) hHeld ?_
      try simp only [Act.put, List.setIfInBounds_toArray, List.set_cons_zero, List.set_cons_succ]
      refine skip_g (i := 3) (d := 48) (g := (1, true)) (by kernel_rfl) (by kernel_rfl) (by rfl) (by kernel_rfl) (by kernel_rfl) (by kernel_rfl) (fun _ _ _ h => h) hHeld ?_
      try simp only [Act.put, List.setIfInBounds_toArray, List.set_cons_zero, List.set_cons_succ]
      refine skip_g (i := 4) (d := 49) (g := (1, true)) (by kernel_rfl) (by kernel_rfl) (by rfl) (by kernel_rfl) (by kernel_rfl) (by kernel_rfl) (fun _ _ _ h => h) hHeld ?_
      try simp only [Act.put, List.setIfInBounds_toArray, List.set_cons_zero, List.set_cons_succ]
      refine skip_g (i := 5) (d := 50) (g := (4, false)) (by kernel_rfl) (by kernel_rfl) (by rfl) (by kernel_rfl) (by kernel_rfl) (by kernel_rfl) (fun _ _ _ h => h) hHeld ?_
      try simp only [Act.put, List.setIfInBounds_toArray, List.set_cons_zero, List.set_cons_succ]
      refine skip_g (i := 6) (d := 51) (g := (4, false)) (by kernel_rfl) (by kernel_rfl) (by rfl) (by kernel_rfl) (by kernel_rfl) (by kernel_rfl) (fun _ _ _ h => h) hHeld ?_
      try simp only [Act.put, List.setIfInBounds_toArray, List.set_cons_zero, List.set_cons_succ]
      refine skip_g (i := 7) (d := 52) (g := (4, false)) (by kernel_rfl) (by kernel_rfl) (by rfl) (by kernel_rfl) (by kernel_rfl) (by kernel_rfl) (fun _ _ _ h => h) hHeld ?_
      try simp only [Act.put, List.setIfInBounds_toArray, List.set_cons_zero, List.set_cons_succ]
      refine skip_g (i := 8) (d := 53) (g := (1, true)) (by kernel_rfl) (by kernel_rfl) (by rfl) (by kernel_rfl) (by kernel_rfl) (by kernel_rfl) (fun _ _ _ h => h) hHeld ?_
      try simp only [Act.put, List.setIfInBounds_toArray, List.set_cons_zero, List.set_cons_succ]
      refine take_g (i := 9) (d := 54) (op := Op.pick (Operand.tmp 46) (Operand.tmp 53) (Operand.const (Value.bool false))) (ty := 4) (v := .bool false) (g := none) (by kernel_rfl) (by kernel_rfl) (by rfl) (by kernel_rfl) (by kernel_rfl) (by kernel_rfl) (fun _ _ _ h => h) (fun wS hS => by clear hS; go_simp) hHeld ?_
      try simp only [Act.put, List.setIfInBounds_toArray, List.set_cons_zero, List.set_cons_succ]
      refine take_g (i := 10) (d := 55) (op := Op.move (Operand.tmp 54)) (ty := 4) (v := .bool false) (g := none) (by kernel_rfl) (by kernel_rfl) (by rfl) (by kernel_rfl) (by kernel_rfl) (by kernel_rfl) (fun _ _ _ h => h) (fun wS hS => by clear hS; go_simp) hHeld ?_
      try simp only [Act.put, List.setIfInBounds_toArray, List.set_cons_zero, List.set_cons_succ]
      refine take_g (i := 11) (d := 56) (op := Op.fieldAddr 29 (Operand.tmp 13) 0) (ty := 0) (v := .pointer (some ⟨P, 0, none⟩)) (g := some (10, false)) (by kernel_rfl) (by kernel_rfl) (by rfl) (by kernel_rfl) (by kernel_rfl) (by kernel_rfl) (fun _ _ _ h => h) (fun wS hS => by clear hS; go_simp) hHeld ?_
      try simp only [Act.put, List.setIfInBounds_toArray, List.set_cons_zero, List.set_cons_succ]
      refine take_g (i := 12) (d := 57) (op := Op.load 27 (Operand.tmp 56)) (ty := 27) (v := .int .i64 0) (g := some (10, false)) (by kernel_rfl) (by kernel_rfl) (by rfl) (by kernel_rfl) (by kernel_rfl) (by kernel_rfl) (fun _ _ _ h => h) (fun wS hS => by (try dsimp only at hS); go_simp) hHeld ?_
      try simp only [Act.put, List.setIfInBounds_toArray, List.set_cons_zero, List.set_cons_succ]
      refine take_g (i := 13) (d := 58) (op := Op.binOp BinOp.eql 27 (Operand.tmp 57) (Operand.const (Value.int IntKind.i64 0)) 27) (ty := 4) (v := .bool true) (g := some (10, false)) (by kernel_rfl) (by kernel_rfl) (by rfl) (by kernel_rfl) (by kernel_rfl) (by kernel_rfl) (fun _ _ _ h => h) (fun wS hS => by clear hS; go_simp) hHeld ?_
      try simp only [Act.put, List.setIfInBounds_toArray, List.set_cons_zero, List.set_cons_succ]
      refine take_g (i := 14) (d := 59) (op := Op.move (Operand.tmp 0)) (ty := 22) (v := .slice p n cp) (g := some (10, false)) (by kernel_rfl) (by kernel_rfl) (by rfl) (by kernel_rfl) (by kernel_rfl) (by kernel_rfl) (fun _ _ _ h => h) (fun wS hS => by clear hS; go_simp) hHeld ?_
      try simp only [Act.put, List.setIfInBounds_toArray, List.set_cons_zero, List.set_cons_succ]
      refine wpAnyH_ready (rs := [15]) (by kernel_rfl) (by simp) ?_
      refine AllReadyH.cons rfl (fun K hK => ?_) AllReadyH.nil
      go_simp
      refine HMd.out.mono ?_
      rintro e w5 ⟨rfl, b5⟩
      have HX := Lib.hid (below_step HD.out b5)
      clear b5
      refine hK.out _ _ (cell_below HX.out c0) (fun hHeld => ?_)
      clear hK K
      try simp only [Act.put, List.setIfInBounds_toArray, List.set_cons_zero, List.set_cons_succ]
      refine take_g (i := 16) (d := 61) (op := Op.move (Operand.tmp 60)) (ty := 4) (v := .bool true) (g := some (10, false)) (by kernel_rfl) (by kernel_rfl) (by rfl) (by kernel_rfl) (by kernel_rfl) (by kernel_rfl) (fun _ _ _ h => h) (fun wS hS => by clear hS; go_simp) hHeld ?_
      try simp only [Act.put, List.setIfInBounds_toArray, List.set_cons_zero, List.set_cons_succ]
      refine take_g (i := 17) (d := 62) (op := Op.move (Operand.tmp 7)) (ty := 4) (v := .bool false) (g := some (16, true)) (by kernel_rfl) (by kernel_rfl) (by rfl) (by kernel_rfl) (by kernel_rfl) (by kernel_rfl) (fun _ _ _ h => h) (fun wS hS => by clear hS; go_simp) hHeld ?_
      try simp only [Act.put, List.setIfInBounds_toArray, List.set_cons_zero, List.set_cons_succ]
      refine take_g (i := 18) (d := 63) (op := Op.move (Operand.tmp 62)) (ty := 4) (v := .bool false) (g := some (16, true)) (by kernel_rfl) (by kernel_rfl) (by rfl) (by kernel_rfl) (by kernel_rfl) (by kernel_rfl) (fun _ _ _ h => h) (fun wS hS => by clear hS; go_simp) hHeld ?_
      try simp only [Act.put, List.setIfInBounds_toArray, List.set_cons_zero, List.set_cons_succ]
      refine take_g (i := 19) (d := 64) (op := Op.move (Operand.tmp 10)) (ty := 4) (v := .bool true) (g := some (18, false)) (by kernel_rfl) (by kernel_rfl) (by rfl) (by kernel_rfl) (by kernel_rfl) (by kernel_rfl) (fun _ _ _ h => h) (fun wS hS => by clear hS; go_simp) hHeld ?_
      try simp only [Act.put, List.setIfInBounds_toArray, List.set_cons_zero, List.set_cons_succ]
      refine take_g (i := 20) (d := 65) (op := Op.pick (Operand.tmp 63) (Operand.const (Value.bool true)) (Operand.tmp 64)) (ty := 4) (v := .bool true) (g := some (16, true)) (by kernel_rfl) (by kernel_rfl) (by rfl) (by kernel_rfl) (by kernel_rfl) (by kernel_rfl) (fun _ _ _ h => h) (fun wS hS => by clear hS; go_simp) hHeld ?_
      try simp only [Act.put, List.setIfInBounds_toArray, List.set_cons_zero, List.set_cons_succ]
      refine take_g (i := 21) (d := 66) (op := Op.pick (Operand.tmp 61) (Operand.tmp 65) (Operand.const (Value.bool false))) (ty := 4) (v := .bool true) (g := some (10, false)) (by kernel_rfl) (by kernel_rfl) (by rfl) (by kernel_rfl) (by kernel_rfl) (by kernel_rfl) (fun _ _ _ h => h) (fun wS hS => by clear hS; go_simp) hHeld ?_
      try simp only [Act.put, List.setIfInBounds_toArray, List.set_cons_zero, List.set_cons_succ]
      refine take_g (i := 22) (d := 67) (op := Op.binOp BinOp.neq 4 (Operand.tmp 58) (Operand.tmp 66) 4) (ty := 4) (v := .bool false) (g := some (10, false)) (by kernel_rfl) (by kernel_rfl) (by rfl) (by kernel_rfl) (by kernel_rfl) (by kernel_rfl) (fun _ _ _ h => h) (fun wS hS => by clear hS; go_simp) hHeld ?_
      try simp only [Act.put, List.setIfInBounds_toArray, List.set_cons_zero, List.set_cons_succ]
      refine take_g (i := 23) (d := 68) (op := Op.pick (Operand.tmp 55) (Operand.const (Value.bool true)) (Operand.tmp 67)) (ty := 4) (v := .bool false) (g := none) (by kernel_rfl) (by kernel_rfl) (by rfl) (by kernel_rfl) (by kernel_rfl) (by kernel_rfl) (fun _ _ _ h => h) (fun wS hS => by clear hS; go_simp) hHeld ?_
      try simp only [Act.put, List.setIfInBounds_toArray, List.set_cons_zero, List.set_cons_succ]
      refine take_g (i := 24) (d := 69) (op := Op.move (Operand.tmp 68)) (ty := 4) (v := .bool false) (g := none) (by kernel_rfl) (by kernel_rfl) (by rfl) (by kernel_rfl) (by kernel_rfl) (by kernel_rfl) (fun _ _ _ h => h) (fun wS hS => by clear hS; go_simp) hHeld ?_
      try simp only [Act.put, List.setIfInBounds_toArray, List.set_cons_zero, List.set_cons_succ]
      refine take_g (i := 25) (d := 70) (op := Op.move (Operand.tmp 12)) (ty := 4) (v := .bool true) (g := some (24, false)) (by kernel_rfl) (by kernel_rfl) (by rfl) (by kernel_rfl) (by kernel_rfl) (by kernel_rfl) (fun _ _ _ h => h) (fun wS hS => by clear hS; go_simp) hHeld ?_
      try simp only [Act.put, List.setIfInBounds_toArray, List.set_cons_zero, List.set_cons_succ]
      refine take_g (i := 26) (d := 71) (op := Op.move (Operand.tmp 7)) (ty := 4) (v := .bool false) (g := some (24, false)) (by kernel_rfl) (by kernel_rfl) (by rfl) (by kernel_rfl) (by kernel_rfl) (by kernel_rfl) (fun _ _ _ h => h) (fun wS hS => by clear hS; go_simp) hHeld ?_
      try simp only [Act.put, List.setIfInBounds_toArray, List.set_cons_zero, List.set_cons_succ]
      refine take_g (i := 27) (d := 72) (op := Op.unOp UnOp.not 4 (Operand.tmp 71)) (ty := 4) (v := .bool true) (g := some (24, false)) (by kernel_rfl) (by kernel_rfl) (by rfl) (by kernel_rfl) (by kernel_rfl) (by kernel_rfl) (fun _ _ _ h => h) (fun wS hS => by clear hS; go_simp) hHeld ?_
      try simp only [Act.put, List.setIfInBounds_toArray, List.set_cons_zero, List.set_cons_succ]
      refine take_g (i := 28) (d := 73) (op := Op.move (Operand.tmp 72)) (ty := 4) (v := .bool true) (g := some (24, false)) (by kernel_rfl) (by kernel_rfl) (by rfl) (by kernel_rfl) (by kernel_rfl) (by kernel_rfl) (fun _ _ _ h => h) (fun wS hS => by clear hS; go_simp) hHeld ?_
      try simp only [Act.put, List.setIfInBounds_toArray, List.set_cons_zero, List.set_cons_succ]
      refine take_g (i := 29) (d := 74) (op := Op.move (Operand.tmp 10)) (ty := 4) (v := .bool true) (g := some (28, true)) (by kernel_rfl) (by kernel_rfl) (by rfl) (by kernel_rfl) (by kernel_rfl) (by kernel_rfl) (fun _ _ _ h => h) (fun wS hS => by clear hS; go_simp) hHeld ?_
      try simp only [Act.put, List.setIfInBounds_toArray, List.set_cons_zero, List.set_cons_succ]
      refine take_g (i := 30) (d := 75) (op := Op.pick (Operand.tmp 73) (Operand.tmp 74) (Operand.const (Value.bool false))) (ty := 4) (v := .bool true) (g := some (24, false)) (by kernel_rfl) (by kernel_rfl) (by rfl) (by kernel_rfl) (by kernel_rfl) (by kernel_rfl) (fun _ _ _ h => h) (fun wS hS => by clear hS; go_simp) hHeld ?_
      try simp only [Act.put, List.setIfInBounds_toArray, List.set_cons_zero, List.set_cons_succ]
      refine take_g (i := 31) (d := 76) (op := Op.binOp BinOp.neq 4 (Operand.tmp 70) (Operand.tmp 75) 4) (ty := 4) (v := .bool false) (g := some (24, false)) (by kernel_rfl) (by kernel_rfl) (by rfl) (by kernel_rfl) (by kernel_rfl) (by kernel_rfl) (fun _ _ _ h => h) (fun wS hS => by clear hS; go_simp) hHeld ?_
      try simp only [Act.put, List.setIfInBounds_toArray, List.set_cons_zero, List.set_cons_succ]
      refine take_g (i := 32) (d := 77) (op := Op.pick (Operand.tmp 69) (Operand.const (Value.bool true)) (Operand.tmp 76)) (ty := 4) (v := .bool false) (g := none) (by kernel_rfl) (by kernel_rfl) (by rfl) (by kernel_rfl) (by kernel_rfl) (by kernel_rfl) (fun _ _ _ h => h) (fun wS hS => by clear hS; go_simp) hHeld ?_
      try simp only [Act.put, List.setIfInBounds_toArray, List.set_cons_zero, List.set_cons_succ]
      refine take_g (i := 33) (d := 78) (op := Op.move (Operand.tmp 77)) (ty := 4) (v := .bool false) (g := none) (by kernel_rfl) (by kernel_rfl) (by rfl) (by kernel_rfl) (by kernel_rfl) (by kernel_rfl) (fun _ _ _ h => h) (fun wS hS => by clear hS; go_simp) hHeld ?_
      try simp only [Act.put, List.setIfInBounds_toArray, List.set_cons_zero, List.set_cons_succ]
      refine take_g (i := 34) (d := 79) (op := Op.move (Operand.tmp 7)) (ty := 4) (v := .bool false) (g := some (33, false)) (by kernel_rfl) (by kernel_rfl) (by rfl) (by kernel_rfl) (by kernel_rfl) (by kernel_rfl) (fun _ _ _ h => h) (fun wS hS => by clear hS; go_simp) hHeld ?_
      try simp only [Act.put, List.setIfInBounds_toArray, List.set_cons_zero, List.set_cons_succ]
      refine take_g (i := 35) (d := 80) (op := Op.move (Operand.tmp 79)) (ty := 4) (v := .bool false) (g := some (33, false)) (by kernel_rfl) (by kernel_rfl) (by rfl) (by kernel_rfl) (by kernel_rfl) (by kernel_rfl) (fun _ _ _ h => h) (fun wS hS => by clear hS; go_simp) hHeld ?_
      try simp only [Act.put, List.setIfInBounds_toArray, List.set_cons_zero, List.set_cons_succ]
      refine skip_g (i := 36) (d := 81) (g := (35, true)) (by kernel_rfl) (by kernel_rfl) (by rfl) (by kernel_rfl) (by kernel_rfl) (by kernel_rfl) (fun _ _ _ h => h) hHeld ?_
      try simp only [Act.put, List.setIfInBounds_toArray, List.set_cons_zero, List.set_cons_succ]
      refine skip_g (i := 37) (d := 82) (g := (35, true)) (by kernel_rfl) (by kernel_rfl) (by rfl) (by kernel_rfl) (by kernel_rfl) (by kernel_rfl) (fun _ _ _ h => h) hHeld ?_
      try simp only [Act.put, List.setIfInBounds_toArray, List.set_cons_zero, List.set_cons_succ]
      refine skip_g (i := 38) (d := 83) (g := (35, true)) (by kernel_rfl) (by kernel_rfl) (by rfl) (by kernel_rfl) (by kernel_rfl) (by kernel_rfl) (fun _ _ _ h => h) hHeld ?_
      try simp only [Act.put, List.setIfInBounds_toArray, List.set_cons_zero, List.set_cons_succ]
      refine skip_g (i := 39) (d := 84) (g := (35, true)) (by kernel_rfl) (by kernel_rfl) (by rfl) (by kernel_rfl) (by kernel_rfl) (by kernel_rfl) (fun _ _ _ h => h) hHeld ?_
      try simp only [Act.put, List.setIfInBounds_toArray, List.set_cons_zero, List.set_cons_succ]
      refine take_g (i := 40) (d := 85) (op := Op.pick (Operand.tmp 80) (Operand.tmp 84) (Operand.const (Value.bool false))) (ty := 4) (v := .bool false) (g := some (33, false)) (by kernel_rfl) (by kernel_rfl) (by rfl) (by kernel_rfl) (by kernel_rfl) (by kernel_rfl) (fun _ _ _ h => h) (fun wS hS => by clear hS; go_simp) hHeld ?_
      try simp only [Act.put, List.setIfInBounds_toArray, List.set_cons_zero, List.set_cons_succ]
      refine take_g (i := 41) (d := 86) (op := Op.pick (Operand.tmp 78) (Operand.const (Value.bool true)) (Operand.tmp 85)) (ty := 4) (v := .bool false) (g := none) (by kernel_rfl) (by kernel_rfl) (by rfl) (by kernel_rfl) (by kernel_rfl) (by kernel_rfl) (fun _ _ _ h => h) (fun wS hS => by clear hS; go_simp) hHeld ?_
      try simp only [Act.put, List.setIfInBounds_toArray, List.set_cons_zero, List.set_cons_succ]
      refine wpAnyH_done (by kernel_rfl) ?_ _
      clear hHeld
      all_goals (
        have IX := Lib.hid (SlcAt.mono I4.out HX.out)
        have MX := Lib.hid (SlcAt.mono M4.out HX.out)
        have BX := Lib.hid (below_step B4.out HX.out)
        have XX := Lib.hid (obj_kept HX.out X4.out)
        obtain ⟨ua, uc, ue, hum, huk⟩ := num_cell MX.out
        subst ue
        have HKc := Lib.hid huk
        obtain ⟨m, hmm⟩ : ∃ m, m = y.2.2.length := ⟨_, rfl⟩
        have Hm := Lib.hid hmm
        have hzm : m ≤ 9223372036854775807 := by rw [hmm]; unfold maxLen at hum; omega
        (try rw [← hmm])
        clear hum huk hmm c0
        go_wp2_with fail
        go_loopw [14, 15] (fun kv iv wr => ∃ k i : Nat, k ≤ m ∧ i ≤ n ∧ kv = .int .i64 k ∧ iv = .int .i64 i ∧ Hid (∀ j p, j < k → y.2.2[j]? = some p → p < (i : Int)) ∧ Hid (Below w5.heap.size w5 wr)) (fun _ iv _ => n - (intOf iv).toNat)
        case atStart => exact ⟨0, 0, Nat.zero_le _, Nat.zero_le _, rfl, rfl, Lib.hid (fun j p hj => by omega), Lib.hid (Below.refl _ _)⟩
        case round =>
          obtain ⟨k, i, hk, hi, rfl, rfl, HLt, HBr⟩ := hrel
          have z0 : wr.cell? ⟨P, 0, none⟩ = some (.int .i64 0) := Lib.cell_of_heap (obj_kept HBr.out XX.out) 0
          by_cases hin : i < n
          · have hinI : (i : Int) < (n : Int) := by omega
            go_wp2_with fail
            go_loopw [14] (fun kv wr => ∃ k : Nat, k ≤ m ∧ kv = .int .i64 k ∧ Hid (∀ j p, j < k → y.2.2[j]? = some p → p < (i : Int)) ∧ Hid (Below w5.heap.size w5 wr)) (fun kv _ => m - (intOf kv).toNat)
            case atStart => exact ⟨k, hk, rfl, HLt, HBr⟩
            case round =>
              clear HLt HBr z0
              obtain ⟨k, hk, rfl, HLt, HBr⟩ := hrel
              have z0 : wr.cell? ⟨P, 0, none⟩ = some (.int .i64 0) := Lib.cell_of_heap (obj_kept HBr.out XX.out) 0
              obtain ⟨it, hit⟩ : ∃ it, l[i]? = some it := ⟨_, List.getElem?_eq_getElem (by rw [← Hn.out]; exact hin)⟩
              have i0 : (0 : Int) ≤ (i : Int) := by omega
              obtain ⟨ib, io, ic, ie, ir⟩ := (SlcAt.mono IX.out HBr.out).2.2 (by rw [← Hn.out]; omega)
              rw [← Hn.out] at ie
              obtain ⟨rfl, rfl⟩ : p = some ⟨ib, io, none⟩ ∧ cp = ic := by injection ie with a1 a2 a3; exact ⟨a1, a3⟩
              obtain ⟨y0, y1, y2, y3, y4, y5, y6, y7, y8⟩ := it_cells (ir i it hit)
              have HFc := Lib.hid (fun w => refForced_any it w)
              unfold itV at HFc
              have HFo : Hid (It.forced it = true → (i : Int) ∈ y.2.2) := Lib.hid (fun hf => HFrc.out i it hit hf)
              clear ie ir hit
              by_cases hkm : k < m
              · have hkmI : (k : Int) < (m : Int) := by omega
                have k0 : (0 : Int) ≤ (k : Int) := by omega
                obtain ⟨cb, co, hca, hcell⟩ := HKc.out (by rw [← Hm.out]; omega)
                subst hca
                obtain ⟨q, hq⟩ : ∃ q, y.2.2[k]? = some q := ⟨_, List.getElem?_eq_getElem (by rw [← Hm.out]; exact hkm)⟩
                have cq := cell_below HBr.out (hcell k q hq)
                have HQ := Lib.hid hq
                clear hcell hq
                by_cases hqi : q < (i : Int)
                · have HL2 : Hid (∀ j p, j < k + 1 → y.2.2[j]? = some p → p < (i : Int)) := Lib.hid (fun j p hj hp => by
                    by_cases hjk : j < k
                    · exact HLt.out j p hjk hp
                    · obtain rfl : j = k := by omega
                      rw [HQ.out] at hp
                      cases hp
                      exact hqi)
                  go_wp2
                  go_roundw
                  case rel => exact ⟨k + 1, by omega, by go_num, HL2, HBr⟩
                  case measure => simp [intOf]; omega
                · have HL2 : Hid (∀ j p, j < k → y.2.2[j]? = some p → p < ((i + 1 : Nat) : Int)) := Lib.hid (fun j p hj hp => by have := HLt.out j p hj hp; omega)
                  cases hf : It.forced it with
                  | false =>
                    rw [hf] at HFc
                    clear hf
                    go_wp2_with fail
                    refine (HFc.out _).mono ?_
                    rintro e w9 ⟨rfl, b9⟩
                    have HB9 := Lib.hid (below_step HBr.out b9)
                    clear b9
                    go_wp2
                    go_roundw
                    case rel => exact ⟨k, i + 1, by omega, by omega, rfl, by go_num, HL2, HB9⟩
                    case measure => simp [intOf]; omega
                  | true =>
                    have heq : q = (i : Int) := by
                      obtain ⟨j, hj⟩ := List.mem_iff_getElem?.1 (HFo.out hf)
                      by_cases hjk : j < k
                      · have := HLt.out j _ hjk hj; omega
                      · by_cases hje : j = k
                        · subst hje
                          rw [HQ.out] at hj
                          exact Option.some.inj hj
                        · have := HRs.out k j q _ (by omega) HQ.out hj
                          omega
                    subst heq
                    rw [hf] at HFc
                    clear hf
                    have hmk : ¬ (m : Int) ≤ (k : Int) := by omega
                    go_wp2_with fail
                    refine (HFc.out _).mono ?_
                    rintro e w9 ⟨rfl, b9⟩
                    have cq9 := cell_below b9 cq
                    have HB9 := Lib.hid (below_step HBr.out b9)
                    clear b9
                    go_wp2
                    go_roundw
                    case rel => exact ⟨k, i + 1, by omega, by omega, rfl, by go_num, HL2, HB9⟩
                    case measure => simp [intOf]; omega
              · have hkmI : ¬ (k : Int) < (m : Int) := by omega
                have HL2 : Hid (∀ j p, j < k → y.2.2[j]? = some p → p < ((i + 1 : Nat) : Int)) := Lib.hid (fun j p hj hp => by have := HLt.out j p hj hp; omega)
                have hf : It.forced it = false := by
                  cases hf : It.forced it with
                  | false => rfl
                  | true =>
                    obtain ⟨j, hj⟩ := List.mem_iff_getElem?.1 (HFo.out hf)
                    have := HLt.out j _ (by have := (List.getElem?_eq_some_iff.1 hj).1; rw [← Hm.out] at this; omega) hj
                    omega
                rw [hf] at HFc
                clear hf
                go_wp2_with fail
                refine (HFc.out _).mono ?_
                rintro e w9 ⟨rfl, b9⟩
                have HB9 := Lib.hid (below_step HBr.out b9)
                clear b9
                go_wp2
                go_roundw
                case rel => exact ⟨k, i + 1, by omega, by omega, rfl, by go_num, HL2, HB9⟩
                case measure => simp [intOf]; omega
          · have hinI : ¬ (i : Int) < (n : Int) := by omega
            go_wp2
            go_ret
            exact ⟨rfl, below_step BX.out HBr.out⟩)
    · have HB2 := Lib.hid (HB.out 200)
      have HB1 := Lib.hid (HB.out 10000)
      rw [hb2] at HB2
      rw [hb1] at HB1
      rw [hbr] at HK
      rw [hmay] at HM
      unfold BestPost bz bl at HB2 HB1
      unfold BreakPost bl at HK
      simp only [Option.isSome] at HB2 HB1 HK
      clear hmay hbr HB
      go_enter Try.func6, Try.ntmps6
      go_wp2_with fail
      refine (HF.out _).mono ?_
      rintro e w1 ⟨rfl, b1⟩
      have B1 := Lib.hid b1
      have I1 := Lib.hid (SlcAt.mono HA'.out b1)
      clear b1
      go_wp2_with fail
      refine (HB2.out _ I1.out).mono ?_
      rintro e w2 ⟨u2, rfl, n2, b2⟩
      have B2 := Lib.hid (below_step B1.out b2)
      have I2 := Lib.hid (SlcAt.mono I1.out b2)
      have N2 := Lib.hid (n2.at inC_len)
      clear b2 n2
      go_wp2_with fail
      refine (HB1.out _ I2.out).mono ?_
      rintro e w3 ⟨u3, rfl, n3, b3⟩
      have B3 := Lib.hid (below_step B2.out b3)
      have I3 := Lib.hid (SlcAt.mono I2.out b3)
      have N3 := Lib.hid (SlcAt.mono N2.out b3)
      clear b3 n3
      go_wp2_with fail
      refine (HK.out _ I3.out).mono ?_
      rintro e w4 ⟨u4, rfl, n4, b4⟩
      have hb4 := below_alloc w4 (.cells #[.int .i64 110, .int .i64 0] 29)
      have X4 := Lib.hid (obj_new w4 _ rfl #[.int .i64 110, .int .i64 0] 29)
      obtain ⟨W4, hW4⟩ : ∃ W4, W4 = w4.alloc (.cells #[.int .i64 110, .int .i64 0] 29) := ⟨_, rfl⟩
      rw [← hW4] at hb4 X4
      have hs4 := below_step b4 hb4
      have M4 := Lib.hid (SlcAt.mono n4 hb4)
      have N4 := Lib.hid (SlcAt.mono N3.out hs4)
      have B4 := Lib.hid (below_step B3.out hs4)
      have I4 := Lib.hid (SlcAt.mono I3.out hs4)
      obtain ⟨P, hP⟩ : ∃ P, P = w4.heap.size := ⟨_, rfl⟩
      rw [← hP] at X4
      clear n4 b4 hb4 hs4
      go_upto_region 6 with fail
      rw [← hW4, ← hP]
      clear hW4 hP
      have c0 : W4.cell? ⟨P, 0, none⟩ = some (.int .i64 110) := Lib.cell_of_heap X4.out 0
      have HD := Lib.hid (below_drew10 W4)
      (try have hgt : ¬ x.1 < y.1 := by omega)
      have HMd := Lib.hid (HM.out W4.drew (SlcAt.mono I4.out HD.out))
      have S0 : (fun w' : World => w'.cell? ⟨P, 0, none⟩ = some (.int .i64 110)) W4.drew := c0
      refine wp_region_held_drew (S := fun w' : World => w'.cell? ⟨P, 0, none⟩ = some (.int .i64 110)) (by kernel_rfl) S0 (fun hHeld => ?_)
      clear S0
      refine take_g (i := 0) (d := 45) (op := Op.move (Operand.tmp 7)) (ty := 4) (v := .bool false) (g := none) (by kernel_rfl) (by kernel_rfl) (by rfl) (by kernel_rfl) (by kernel_rfl) (by kernel_rfl) (fun _ _ _ h => h) (fun wS hS => by clear hS; go_simp) hHeld ?_
      try simp only [Act.put, List.setIfInBounds_toArray, List.set_cons_zero, List.set_cons_succ]
      refine take_g (i := 1) (d := 46) (op := Op.move (Operand.tmp 45)) (ty := 4) (v := .bool false) (g := none) (by kernel_rfl) (by kernel_rfl) (by rfl) (by kernel_rfl) (by kernel_rfl) (by kernel_rfl) (fun _ _ _ h => h) (fun wS hS => by clear hS; go_simp) hHeld ?_
      try simp only [Act.put, List.setIfInBounds_toArray, List.set_cons_zero, List.set_cons_succ]
      refine skip_g (i := 2) (d := 47) (g := (1, true)) (by kernel_rfl) (by kernel_rfl) (by rfl) (by kernel_rfl) (by kernel_rfl) (by kernel_rfl) (fun _ _ _ h => h) hHeld ?_
      try simp only [Act.put, List.setIfInBounds_toArray, List.set_cons_zero, List.set_cons_succ]
      refine skip_g (i := 3) (d := 48) (g := (1, true)) (by kernel_rfl) (by kernel_rfl) (by rfl) (by kernel_rfl) (by kernel_rfl) (by kernel_rfl) (fun _ _ _ h => h) hHeld ?_
      try simp only [Act.put, List.setIfInBounds_toArray, List.set_cons_zero, List.set_cons_succ]
      refine skip_g (i := 4) (d := 49) (g := (1, true)) (by kernel_rfl) (by kernel_rfl) (by rfl) (by kernel_rfl) (by kernel_rfl) (by kernel_rfl) (fun _ _ _ h => h) hHeld ?_
      try simp only [Act.put, List.setIfInBounds_toArray, List.set_cons_zero, List.set_cons_succ]
      refine skip_g (i := 5) (d := 50) (g := (4, false)) (by kernel_rfl) (by kernel_rfl) (by rfl) (by kernel_rfl) (by kernel_rfl) (by kernel_rfl) (fun _ _ _ h => h) hHeld ?_
      try simp only [Act.put, List.setIfInBounds_toArray, List.set_cons_zero, List.set_cons_succ]
      refine skip_g (i := 6) (d := 51) (g := (4, false)) (by kernel_rfl) (by kernel_rfl) (by rfl) (by kernel_rfl) (by kernel_rfl) (by kernel_rfl) (fun _ _ _ h => h) hHeld ?_
      try simp only [Act.put, List.setIfInBounds_toArray, List.set_cons_zero, List.set_cons_succ]
      refine skip_g (i := 7) (d := 52) (g := (4, false)) (by kernel_rfl) (by kernel_rfl) (by rfl) (by kernel_rfl) (by kernel_rfl) (by kernel_rfl) (fun _ _ _ h => h) hHeld ?_
      try simp only [Act.put, List.setIfInBounds_toArray, List.set_cons_zero, List.set_cons_succ]
      refine skip_g (i := 8) (d := 53) (g := (1, true)) (by kernel_rfl) (by kernel_rfl) (by rfl) (by kernel_rfl) (by kernel_rfl) (by kernel_rfl) (fun _ _ _ h => h) hHeld ?_
      try simp only [Act.put, List.setIfInBounds_toArray, List.set_cons_zero, List.set_cons_succ]
      refine take_g (i := 9) (d := 54) (op := Op.pick (Operand.tmp 46) (Operand.tmp 53) (Operand.const (Value.bool false))) (ty := 4) (v := .bool false) (g := none) (by kernel_rfl) (by kernel_rfl) (by rfl) (by kernel_rfl) (by kernel_rfl) (by kernel_rfl) (fun _ _ _ h => h) (fun wS hS => by clear hS; go_simp) hHeld ?_
      try simp only [Act.put, List.setIfInBounds_toArray, List.set_cons_zero, List.set_cons_succ]
      refine take_g (i := 10) (d := 55) (op := Op.move (Operand.tmp 54)) (ty := 4) (v := .bool false) (g := none) (by kernel_rfl) (by kernel_rfl) (by rfl) (by kernel_rfl) (by kernel_rfl) (by kernel_rfl) (fun _ _ _ h => h) (fun wS hS => by clear hS; go_simp) hHeld ?_
      try simp only [Act.put, List.setIfInBounds_toArray, List.set_cons_zero, List.set_cons_succ]
      refine take_g (i := 11) (d := 56) (op := Op.fieldAddr 29 (Operand.tmp 13) 0) (ty := 0) (v := .pointer (some ⟨P, 0, none⟩)) (g := some (10, false)) (by kernel_rfl) (by kernel_rfl) (by rfl) (by kernel_rfl) (by kernel_rfl) (by kernel_rfl) (fun _ _ _ h => h) (fun wS hS => by clear hS; go_simp) hHeld ?_
      try simp only [Act.put, List.setIfInBounds_toArray, List.set_cons_zero, List.set_cons_succ]
      refine take_g (i := 12) (d := 57) (op := Op.load 27 (Operand.tmp 56)) (ty := 27) (v := .int .i64 110) (g := some (10, false)) (by kernel_rfl) (by kernel_rfl) (by rfl) (by kernel_rfl) (by kernel_rfl) (by kernel_rfl) (fun _ _ _ h => h) (fun wS hS => by (try dsimp only at hS); go_simp) hHeld ?_
      try simp only [Act.put, List.setIfInBounds_toArray, List.set_cons_zero, List.set_cons_succ]
      refine take_g (i := 13) (d := 58) (op := Op.binOp BinOp.eql 27 (Operand.tmp 57) (Operand.const (Value.int IntKind.i64 0)) 27) (ty := 4) (v := .bool false) (g := some (10, false)) (by kernel_rfl) (by kernel_rfl) (by rfl) (by kernel_rfl) (by kernel_rfl) (by kernel_rfl) (fun _ _ _ h => h) (fun wS hS => by clear hS; go_simp) hHeld ?_
      try simp only [Act.put, List.setIfInBounds_toArray, List.set_cons_zero, List.set_cons_succ]
      refine take_g (i := 14) (d := 59) (op := Op.move (Operand.tmp 0)) (ty := 22) (v := .slice p n cp) (g := some (10, false)) (by kernel_rfl) (by kernel_rfl) (by rfl) (by kernel_rfl) (by kernel_rfl) (by kernel_rfl) (fun _ _ _ h => h) (fun wS hS => by clear hS; go_simp) hHeld ?_
      try simp only [Act.put, List.setIfInBounds_toArray, List.set_cons_zero, List.set_cons_succ]
      refine wpAnyH_ready (rs := [15]) (by kernel_rfl) (by simp) ?_
      refine AllReadyH.cons rfl (fun K hK => ?_) AllReadyH.nil
      go_simp
      refine HMd.out.mono ?_
      rintro e w5 ⟨rfl, b5⟩
      have HX := Lib.hid (below_step HD.out b5)
      clear b5
      refine hK.out _ _ (cell_below HX.out c0) (fun hHeld => ?_)
      clear hK K
      try simp only [Act.put, List.setIfInBounds_toArray, List.set_cons_zero, List.set_cons_succ]
      refine take_g (i := 16) (d := 61) (op := Op.move (Operand.tmp 60)) (ty := 4) (v := .bool true) (g := some (10, false)) (by kernel_rfl) (by kernel_rfl) (by rfl) (by kernel_rfl) (by kernel_rfl) (by kernel_rfl) (fun _ _ _ h => h) (fun wS hS => by clear hS; go_simp) hHeld ?_
      try simp only [Act.put, List.setIfInBounds_toArray, List.set_cons_zero, List.set_cons_succ]
      refine take_g (i := 17) (d := 62) (op := Op.move (Operand.tmp 7)) (ty := 4) (v := .bool false) (g := some (16, true)) (by kernel_rfl) (by kernel_rfl) (by rfl) (by kernel_rfl) (by kernel_rfl) (by kernel_rfl) (fun _ _ _ h => h) (fun wS hS => by clear hS; go_simp) hHeld ?_
      try simp only [Act.put, List.setIfInBounds_toArray, List.set_cons_zero, List.set_cons_succ]
      refine take_g (i := 18) (d := 63) (op := Op.move (Operand.tmp 62)) (ty := 4) (v := .bool false) (g := some (16, true)) (by kernel_rfl) (by kernel_rfl) (by rfl) (by kernel_rfl) (by kernel_rfl) (by kernel_rfl) (fun _ _ _ h => h) (fun wS hS => by clear hS; go_simp) hHeld ?_
      try simp only [Act.put, List.setIfInBounds_toArray, List.set_cons_zero, List.set_cons_succ]
      refine take_g (i := 19) (d := 64) (op := Op.move (Operand.tmp 10)) (ty := 4) (v := .bool false) (g := some (18, false)) (by kernel_rfl) (by kernel_rfl) (by rfl) (by kernel_rfl) (by kernel_rfl) (by kernel_rfl) (fun _ _ _ h => h) (fun wS hS => by clear hS; go_simp) hHeld ?_
      try simp only [Act.put, List.setIfInBounds_toArray, List.set_cons_zero, List.set_cons_succ]
      refine take_g (i := 20) (d := 65) (op := Op.pick (Operand.tmp 63) (Operand.const (Value.bool true)) (Operand.tmp 64)) (ty := 4) (v := .bool false) (g := some (16, true)) (by kernel_rfl) (by kernel_rfl) (by rfl) (by kernel_rfl) (by kernel_rfl) (by kernel_rfl) (fun _ _ _ h => h) (fun wS hS => by clear hS; go_simp) hHeld ?_
      try simp only [Act.put, List.setIfInBounds_toArray, List.set_cons_zero, List.set_cons_succ]
      refine take_g (i := 21) (d := 66) (op := Op.pick (Operand.tmp 61) (Operand.tmp 65) (Operand.const (Value.bool false))) (ty := 4) (v := .bool false) (g := some (10, false)) (by kernel_rfl) (by kernel_rfl) (by rfl) (by kernel_rfl) (by kernel_rfl) (by kernel_rfl) (fun _ _ _ h => h) (fun wS hS => by clear hS; go_simp) hHeld ?_
      try simp only [Act.put, List.setIfInBounds_toArray, List.set_cons_zero, List.set_cons_succ]
      refine take_g (i := 22) (d := 67) (op := Op.binOp BinOp.neq 4 (Operand.tmp 58) (Operand.tmp 66) 4) (ty := 4) (v := .bool false) (g := some (10, false)) (by kernel_rfl) (by kernel_rfl) (by rfl) (by kernel_rfl) (by kernel_rfl) (by kernel_rfl) (fun _ _ _ h => h) (fun wS hS => by clear hS; go_simp) hHeld ?_
      try simp only [Act.put, List.setIfInBounds_toArray, List.set_cons_zero, List.set_cons_succ]
      refine take_g (i := 23) (d := 68) (op := Op.pick (Operand.tmp 55) (Operand.const (Value.bool true)) (Operand.tmp 67)) (ty := 4) (v := .bool false) (g := none) (by kernel_rfl) (by kernel_rfl) (by rfl) (by kernel_rfl) (by kernel_rfl) (by kernel_rfl) (fun _ _ _ h => h) (fun wS hS => by clear hS; go_simp) hHeld ?_
      try simp only [Act.put, List.setIfInBounds_toArray, List.set_cons_zero, List.set_cons_succ]
      refine take_g (i := 24) (d := 69) (op := Op.move (Operand.tmp 68)) (ty := 4) (v := .bool false) (g := none) (by kernel_rfl) (by kernel_rfl) (by rfl) (by kernel_rfl) (by kernel_rfl) (by kernel_rfl) (fun _ _ _ h => h) (fun wS hS => by clear hS; go_simp) hHeld ?_
      try simp only [Act.put, List.setIfInBounds_toArray, List.set_cons_zero, List.set_cons_succ]
      refine take_g (i := 25) (d := 70) (op := Op.move (Operand.tmp 12)) (ty := 4) (v := .bool false) (g := some (24, false)) (by kernel_rfl) (by kernel_rfl) (by rfl) (by kernel_rfl) (by kernel_rfl) (by kernel_rfl) (fun _ _ _ h => h) (fun wS hS => by clear hS; go_simp) hHeld ?_
      try simp only [Act.put, List.setIfInBounds_toArray, List.set_cons_zero, List.set_cons_succ]
      refine take_g (i := 26) (d := 71) (op := Op.move (Operand.tmp 7)) (ty := 4) (v := .bool false) (g := some (24, false)) (by kernel_rfl) (by kernel_rfl) (by rfl) (by kernel_rfl) (by kernel_rfl) (by kernel_rfl) (fun _ _ _ h => h) (fun wS hS => by clear hS; go_simp) hHeld ?_
      try simp only [Act.put, List.setIfInBounds_toArray, List.set_cons_zero, List.set_cons_succ]
      refine take_g (i := 27) (d := 72) (op := Op.unOp UnOp.not 4 (Operand.tmp 71)) (ty := 4) (v := .bool true) (g := some (24, false)) (by kernel_rfl) (by kernel_rfl) (by rfl) (by kernel_rfl) (by kernel_rfl) (by kernel_rfl) (fun _ _ _ h => h) (fun wS hS => by clear hS; go_simp) hHeld ?_
      try simp only [Act.put, List.setIfInBounds_toArray, List.set_cons_zero, List.set_cons_succ]
      refine take_g (i := 28) (d := 73) (op := Op.move (Operand.tmp 72)) (ty := 4) (v := .bool true) (g := some (24, false)) (by kernel_rfl) (by kernel_rfl) (by rfl) (by kernel_rfl) (by kernel_rfl) (by kernel_rfl) (fun _ _ _ h => h) (fun wS hS => by clear hS; go_simp) hHeld ?_
      try simp only [Act.put, List.setIfInBounds_toArray, List.set_cons_zero, List.set_cons_succ]
      refine take_g (i := 29) (d := 74) (op := Op.move (Operand.tmp 10)) (ty := 4) (v := .bool false) (g := some (28, true)) (by kernel_rfl) (by kernel_rfl) (by rfl) (by kernel_rfl) (by kernel_rfl) (by kernel_rfl) (fun _ _ _ h => h) (fun wS hS => by clear hS; go_simp) hHeld ?_
      try simp only [Act.put, List.setIfInBounds_toArray, List.set_cons_zero, List.set_cons_succ]
      refine take_g (i := 30) (d := 75) (op := Op.pick (Operand.tmp 73) (Operand.tmp 74) (Operand.const (Value.bool false))) (ty := 4) (v := .bool false) (g := some (24, false)) (by kernel_rfl) (by kernel_rfl) (by rfl) (by kernel_rfl) (by kernel_rfl) (by kernel_rfl) (fun _ _ _ h => h) (fun wS hS => by clear hS; go_simp) hHeld ?_
      try simp only [Act.put, List.setIfInBounds_toArray, List.set_cons_zero, List.set_cons_succ]
      refine take_g (i := 31) (d := 76) (op := Op.binOp BinOp.neq 4 (Operand.tmp 70) (Operand.tmp 75) 4) (ty := 4) (v := .bool false) (g := some (24, false)) (by kernel_rfl) (by kernel_rfl) (by rfl) (by kernel_rfl) (by kernel_rfl) (by kernel_rfl) (fun _ _ _ h => h) (fun wS hS => by clear hS; go_simp) hHeld ?_
      try simp only [Act.put, List.setIfInBounds_toArray, List.set_cons_zero, List.set_cons_succ]
      refine take_g (i := 32) (d := 77) (op := Op.pick (Operand.tmp 69) (Operand.const (Value.bool true)) (Operand.tmp 76)) (ty := 4) (v := .bool false) (g := none) (by kernel_rfl) (by kernel_rfl) (by rfl) (by kernel_rfl) (by kernel_rfl) (by kernel_rfl) (fun _ _ _ h => h) (fun wS hS => by clear hS; go_simp) hHeld ?_
      try simp only [Act.put, List.setIfInBounds_toArray, List.set_cons_zero, List.set_cons_succ]
      refine take_g (i := 33) (d := 78) (op := Op.move (Operand.tmp 77)) (ty := 4) (v := .bool false) (g := none) (by kernel_rfl) (by kernel_rfl) (by rfl) (by kernel_rfl) (by kernel_rfl) (by kernel_rfl) (fun _ _ _ h => h) (fun wS hS => by clear hS; go_simp) hHeld ?_
      try simp only [Act.put, List.setIfInBounds_toArray, List.set_cons_zero, List.set_cons_succ]
      refine take_g (i := 34) (d := 79) (op := Op.move (Operand.tmp 7)) (ty := 4) (v := .bool false) (g := some (33, false)) (by kernel_rfl) (by kernel_rfl) (by rfl) (by kernel_rfl) (by kernel_rfl) (by kernel_rfl) (fun _ _ _ h => h) (fun wS hS => by clear hS; go_simp) hHeld ?_
      try simp only [Act.put, List.setIfInBounds_toArray, List.set_cons_zero, List.set_cons_succ]
      refine take_g (i := 35) (d := 80) (op := Op.move (Operand.tmp 79)) (ty := 4) (v := .bool false) (g := some (33, false)) (by kernel_rfl) (by kernel_rfl) (by rfl) (by kernel_rfl) (by kernel_rfl) (by kernel_rfl) (fun _ _ _ h => h) (fun wS hS => by clear hS; go_simp) hHeld ?_
      try simp only [Act.put, List.setIfInBounds_toArray, List.set_cons_zero, List.set_cons_succ]
      refine skip_g (i := 36) (d := 81) (g := (35, true)) (by kernel_rfl) (by kernel_rfl) (by rfl) (by kernel_rfl) (by kernel_rfl) (by kernel_rfl) (fun _ _ _ h => h) hHeld ?_
      try simp only [Act.put, List.setIfInBounds_toArray, List.set_cons_zero, List.set_cons_succ]
      refine skip_g (i := 37) (d := 82) (g := (35, true)) (by kernel_rfl) (by kernel_rfl) (by rfl) (by kernel_rfl) (by kernel_rfl) (by kernel_rfl) (fun _ _ _ h => h) hHeld ?_
      try simp only [Act.put, List.setIfInBounds_toArray, List.set_cons_zero, List.set_cons_succ]
      refine skip_g (i := 38) (d := 83) (g := (35, true)) (by kernel_rfl) (by kernel_rfl) (by rfl) (by kernel_rfl) (by kernel_rfl) (by kernel_rfl) (fun _ _ _ h => h) hHeld ?_
      try simp only [Act.put, List.setIfInBounds_toArray, List.set_cons_zero, List.set_cons_succ]
      refine skip_g (i := 39) (d := 84) (g := (35, true)) (by kernel_rfl) (by kernel_rfl) (by rfl) (by kernel_rfl) (by kernel_rfl) (by kernel_rfl) (fun _ _ _ h => h) hHeld ?_
      try simp only [Act.put, List.setIfInBounds_toArray, List.set_cons_zero, List.set_cons_succ]
      refine take_g (i := 40) (d := 85) (op := Op.pick (Operand.tmp 80) (Operand.tmp 84) (Operand.const (Value.bool false))) (ty := 4) (v := .bool false) (g := some (33, false)) (by kernel_rfl) (by kernel_rfl) (by rfl) (by kernel_rfl) (by kernel_rfl) (by kernel_rfl) (fun _ _ _ h => h) (fun wS hS => by clear hS; go_simp) hHeld ?_
      try simp only [Act.put, List.setIfInBounds_toArray, List.set_cons_zero, List.set_cons_succ]
      refine take_g (i := 41) (d := 86) (op := Op.pick (Operand.tmp 78) (Operand.const (Value.bool true)) (Operand.tmp 85)) (ty := 4) (v := .bool false) (g := none) (by kernel_rfl) (by kernel_rfl) (by rfl) (by kernel_rfl) (by kernel_rfl) (by kernel_rfl) (fun _ _ _ h => h) (fun wS hS => by clear hS; go_simp) hHeld ?_
      try simp only [Act.put, List.setIfInBounds_toArray, List.set_cons_zero, List.set_cons_succ]
      refine wpAnyH_done (by kernel_rfl) ?_ _
      clear hHeld
      all_goals (
        have BX := Lib.hid (below_step B4.out HX.out)
        have XX := Lib.hid (obj_kept HX.out X4.out)
        clear c0
        have c0 : w5.cell? ⟨P, 0, none⟩ = some (.int .i64 110) := Lib.cell_of_heap XX.out 0
        go_wp2_with fail
        go_loopw [15] (fun iv wr => iv = .int .i64 0 ∧ Hid (Below w5.heap.size w5 wr)) (fun _ _ => 0)
        case atStart => exact ⟨rfl, Lib.hid (Below.refl _ _)⟩
        case round =>
          obtain ⟨rfl, HBr⟩ := hrel
          have z0 : wr.cell? ⟨P, 0, none⟩ = some (.int .i64 110) := Lib.cell_of_heap (obj_kept HBr.out XX.out) 0
          by_cases hn0 : (0 : Int) < (n : Int)
          · go_wp2
            go_ret
            exact ⟨rfl, below_step BX.out HBr.out⟩
          · go_wp2
            go_ret
            exact ⟨rfl, below_step BX.out HBr.out⟩)
  · have g1 : (200 : Int) < (n : Int) := by omega
    go_enter Try.func6, Try.ntmps6
    go_wp2_with fail
    refine (HF.out _).mono ?_
    rintro e w2 ⟨rfl, hb2⟩
    have HB2 := Lib.hid hb2
    clear hb2
    go_wp2_with fail
    refine (HF.out _).mono ?_
    rintro e w3 ⟨rfl, hb3⟩
    have HB3 := Lib.hid (below_step HB2.out hb3)
    clear hb3
    go_wp2
    go_ret
    exact ⟨rfl, HB3.out⟩
end Go.Proofs.Ytdimfmpolbijeaa

namespace Go.Proofs.Ytdimfmpolbijeaa
open Go.ChangeShapes Go.WideShapes Go.ChangeAt Go.RowKit

set_option maxRecDepth 100000 in
/-- WHAT THE WALK GIVES, FOR EVERY ARGUMENT AND EVERY WORLD. -/
theorem breakerForced_contract (H : Type) (enc : TypeId × Value → H) (W : World) (base : Nat) (args : Array Value) (ds gs : List (DataW H)) (before : List MemPlace)
    (hval : ∀ (j : Nat) t v, Try.f6.params[j]? = some t → args[j]? = some v → Value.okWide Try.prog W .any base t v)
    (hW : DataW.Whole enc Try.prog Try.f6.params.toList Rows.breakerForcedSpec.vars false W args.toList ds gs before) (hk : (DataW.weightsEach Try.prog (Try.f6.params.toList ++ (OpenSpec.ofChange Rows.breakerForcedSpec).bare.plain.varTypes Try.prog) (ds ++ gs)).all (· ≤ reachBytes) = true) :
    Calls Try.prog 6 args W fun e W' => ∃ v, e = .returned v ∧ Rows.breakerForcedSpec.post enc Try.prog Try.f6 false true false false W args v W' := by
  have hW' := hW
  have hlt : ∀ x ∈ before, x.block < W.heap.size := fun x hx => hW'.lt x hx
  obtain ⟨p, q, hA0, hV, hbe, hfz, hnd⟩ := hW
  have hA : DataW.TrodAll enc Try.prog W 0 (fun _ => true) true Try.f6.params.toList args.toList ds p := hA0
  rw [Try.params6] at hA hval hk
  have hAk := hA
  obtain ⟨v0, vs0, d0, ds0, p0, q0, hargs, rfl, rfl, h0, r0⟩ := trodAll_cons hA
  obtain ⟨v1, vs1, d1, ds1, p1, q1, rfl, rfl, rfl, h1, r1⟩ := trodAll_cons r0
  obtain ⟨rfl, rfl, rfl⟩ := trodAll_nil r1
  obtain rfl : args = #[v0, v1] := by cases args; simp_all
  obtain ⟨rfl, rfl⟩ := trodVars_none hV
  obtain ⟨pa0, len0, cap0, hp0⟩ := okWide_slice Try.underlying22 (hval 0 _ v0 rfl rfl)
  obtain ⟨xs0, hxs0, _⟩ := items_in h0 (by rw [hp0]; rfl)
  obtain ⟨x1, rfl⟩ := okWide_int Try.underlying2 (hval 1 _ v1 rfl rfl)
  refine (lawForced11 v0 xs0 x1 W hxs0).mono fun e W' ⟨he, hb⟩ => ?_
  subst he
  have e1 : Rows.breakerForcedSpec.fn H ([d0, d1] ++ []) = { results := [.lit (.bool true)], args := [d0, d1] } := rfl
  refine ⟨_, rfl, [d0, d1], [], before, [], p0 ++ (p1 ++ []), [], hW', ?_, ?_, ?_, hb.frame _, fun h => by cases h⟩
  · rw [e1]; exact trodAll_mk1 (shut_bool Try.underlying4 true)
  · rw [e1, Try.params6]
    exact args_kept laidOut hb _ _ _ _ (by
      intro t ht
      have : t = 22 ∨ t = 2 := by simpa using ht
      rcases this with rfl | rfl
      all_goals exact ⟨by kernel_rfl, of_decide_eq_true (by kernel_rfl)⟩) hAk (fun x hx => hlt x (by rw [hbe]; exact List.mem_append_left _ hx))
  · rw [e1]; rfl

theorem breakerForced_laid_met (os : Os) : laidMet Try.prog Rows.breakerForcedRow.laid ((World.laidAll Try.prog os laidList).forCall (fun _ _ => 0) ⟨#[], #[.slice none 0 0, .int .i64 0], []⟩).memory :=
  laidMet_laidAll _ (by kernel_rfl) (by kernel_rfl)
theorem breakerForced_reads (os : Os) {H : Type} (enc : TypeId × Value → H) : ∃ places, DataW.whole enc Try.prog ((World.laidAll Try.prog os laidList).forCall (fun _ _ => 0) ⟨#[], #[.slice none 0 0, .int .i64 0], []⟩).memory Try.f6.params.toList Rows.breakerForcedSpec.vars false #[Value.slice none 0 0, .int .i64 0].toList 8 = some ([.nil, .lit (.int .i64 0)], [], places) :=
  ⟨[], by kernel_rfl⟩

set_option maxRecDepth 100000 in
theorem breakerForced_lifted (os : Os) (started : os.Started) (H : Type) (enc : TypeId × Value → H) (F : Stop.Interp) :
    ReturnsInHanded {} Try.checked os 6 .any ((OpenSpec.ofChange Rows.breakerForcedSpec).preRow enc Try.prog Try.f6 Rows.breakerForcedRow.domain false Rows.breakerForcedRow.laid) (((OpenSpec.ofChange Rows.breakerForcedSpec).at F).post enc Try.prog Try.f6 false true false false) := by
  obtain ⟨places, hx⟩ := breakerForced_reads os enc
  refine returnsInHanded_of_row (C := Try.checked) (s := OpenSpec.ofChange Rows.breakerForcedSpec) own started (by kernel_rfl) Try.func6
    (witness_row_atRef (enc := enc) (C := Try.checked) false (World.laidAll Try.prog os laidList) #[.slice none 0 0, .int .i64 0] (World.laidAll_os _ _ _) (by kernel_rfl) (by kernel_rfl) (by kernel_rfl)
      (OpenSpec.preRow_of_cond 8 hx (by kernel_rfl) (fun k hk => by cases hk) (by kernel_rfl) (breakerForced_laid_met os))) ?_
  intro W base args ds gs before hval hW _ _ hz hL hsh _
  exact breakerForced_contract H enc W base args ds gs before hval hW hz

theorem breakerForced_full : Rows.BreakerForcedSaid :=
  OpenClaim.holds_of_cond 6 Try.f6 rfl rfl rfl rfl rfl rfl rfl ⟨rfl, rfl, rfl, rfl, rfl⟩ rfl rfl rfl rfl rfl (by kernel_rfl) Try.func6 (by kernel_rfl)
    (of_decide_eq_true (by kernel_rfl)) (by unfold Func.isWrapper; first | (rw [if_pos (by decide +kernel)]; kernel_rfl) | (rw [if_neg (by decide +kernel)]; exact ⟨rfl, rfl⟩))
    (fun os started H enc _ F => by rw [OpenClaim.pre_eq_preRow]; exact breakerForced_lifted os started H enc F)

end Go.Proofs.Ytdimfmpolbijeaa
