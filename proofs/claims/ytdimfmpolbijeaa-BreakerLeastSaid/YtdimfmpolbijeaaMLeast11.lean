/-
  PROVED: the law BreakerLeast at every argument: no breaks that may be are less bad than those that are told, whatever breaks one chooses; and if none are told, none may be.
  Conditions: none.
-/
import Derived.Test.YtdimfmpolbijeaaRows
import Derived.Test.YtdimfmpolbijeaaTot10
import Derived.Deep.Slices
import Derived.ProofKit
import Derived.ChangeSlices
import Derived.Lay
import Derived.Lib.LaidU8T
import Derived.OpenShut
import Derived.Deep.DeepHandedRow
import Derived.Deep.DeepWitnessRowRef
import Derived.LaidMore
import Derived.Stop.LaidErr
import Derived.Lib.SmallJoins
import Derived.SevenTiedAt
import Derived.SizedLaws
import Derived.Test.YtdimfmpolbijeaaCallsM11
import Derived.Test.YtdimfmpolbijeaaRefTotal10
set_option linter.unusedVariables false
set_option linter.unusedSimpArgs false
set_option maxRecDepth 20000
namespace Go.Proofs.Ytdimfmpolbijeaa
open Go.ChangeShapes Go.WideShapes Go.ChangeAt Go.RowKit

theorem cGl9 : Try.prog.cellsOf 45 = 4 := by kernel_rfl
theorem cIt9 : Try.prog.cellsOf 47 = 9 := by kernel_rfl
theorem cI649 : Try.prog.cellsOf 2 = 1 := by kernel_rfl
theorem cInt9 : Try.prog.cellsOf 3 = 1 := by kernel_rfl
theorem cBool9 : Try.prog.cellsOf 4 = 1 := by kernel_rfl
theorem cStr9 : Try.prog.cellsOf 9 = 1 := by kernel_rfl
theorem two_fields {fs : Array Field} {a b : TypeId × Nat} (h : fs.toList.map (fun f => (f.type, f.offset)) = [a, b]) : ∃ f0 f1 : Field, fs = #[f0, f1] ∧ (f0.type = a.1 ∧ f0.offset = a.2) ∧ (f1.type = b.1 ∧ f1.offset = b.2) := by
  obtain ⟨l⟩ := fs
  have hl : l.length = 2 := by simpa using congrArg List.length h
  match l, hl with
  | [x, y], _ =>
    simp only [List.map_cons, List.map_nil, List.cons.injEq] at h
    obtain ⟨rfl, rfl, _⟩ := h
    exact ⟨x, y, rfl, ⟨rfl, rfl⟩, ⟨rfl, rfl⟩⟩
theorem four_fields {fs : Array Field} {a b c d : TypeId × Nat} (h : fs.toList.map (fun f => (f.type, f.offset)) = [a, b, c, d]) : ∃ f0 f1 f2 f3 : Field, fs = #[f0, f1, f2, f3] ∧ (f0.type = a.1 ∧ f0.offset = a.2) ∧ (f1.type = b.1 ∧ f1.offset = b.2) ∧ (f2.type = c.1 ∧ f2.offset = c.2) ∧ (f3.type = d.1 ∧ f3.offset = d.2) := by
  obtain ⟨l⟩ := fs
  have hl : l.length = 4 := by simpa using congrArg List.length h
  match l, hl with
  | [x, y, z, q], _ =>
    simp only [List.map_cons, List.map_nil, List.cons.injEq] at h
    obtain ⟨rfl, rfl, rfl, rfl, _⟩ := h
    exact ⟨x, y, z, q, rfl, ⟨rfl, rfl⟩, ⟨rfl, rfl⟩, ⟨rfl, rfl⟩, ⟨rfl, rfl⟩⟩
theorem six_fields {fs : Array Field} {a b c d e g : TypeId × Nat} (h : fs.toList.map (fun f => (f.type, f.offset)) = [a, b, c, d, e, g]) : ∃ f0 f1 f2 f3 f4 f5 : Field, fs = #[f0, f1, f2, f3, f4, f5] ∧ (f0.type = a.1 ∧ f0.offset = a.2) ∧ (f1.type = b.1 ∧ f1.offset = b.2) ∧ (f2.type = c.1 ∧ f2.offset = c.2) ∧ (f3.type = d.1 ∧ f3.offset = d.2) ∧ (f4.type = e.1 ∧ f4.offset = e.2) ∧ (f5.type = g.1 ∧ f5.offset = g.2) := by
  obtain ⟨l⟩ := fs
  have hl : l.length = 6 := by simpa using congrArg List.length h
  match l, hl with
  | [x, y, z, q, r, s], _ =>
    simp only [List.map_cons, List.map_nil, List.cons.injEq] at h
    obtain ⟨rfl, rfl, rfl, rfl, rfl, rfl, _⟩ := h
    exact ⟨x, y, z, q, r, s, rfl, ⟨rfl, rfl⟩, ⟨rfl, rfl⟩, ⟨rfl, rfl⟩, ⟨rfl, rfl⟩, ⟨rfl, rfl⟩, ⟨rfl, rfl⟩⟩
theorem five_fields {fs : Array Field} {a b c d g : TypeId × Nat} (h : fs.toList.map (fun f => (f.type, f.offset)) = [a, b, c, d, g]) : ∃ f0 f1 f2 f3 f4 : Field, fs = #[f0, f1, f2, f3, f4] ∧ (f0.type = a.1 ∧ f0.offset = a.2) := by
  obtain ⟨l⟩ := fs
  have hl : l.length = 5 := by simpa using congrArg List.length h
  match l, hl with
  | [x, y, z, q, r], _ =>
    simp only [List.map_cons, List.map_nil, List.cons.injEq] at h
    obtain ⟨rfl, rfl, rfl, rfl, rfl, _⟩ := h
    exact ⟨x, y, z, q, r, rfl, ⟨rfl, rfl⟩⟩
instance : Inhabited It.Gl := ⟨⟨0, 0, 0, 0⟩⟩
instance : Inhabited It.Itm := ⟨⟨0, ⟨0, 0, 0, 0⟩, 0, false, 0, 0⟩⟩
instance : Inhabited It.Pt := ⟨⟨ByteArray.empty, 0, 0, 0⟩⟩
section
variable {H : Type} {enc : TypeId × Value → H} {W : World} {base : Nat} {held : Bool} {spare : Nat → Bool}

theorem gl_open {fuel : Nat} {cs : List Value} {x : DataW H × List MemPlace} (h : DataW.trod enc Try.prog W base spare held fuel 45 cs = some x) : ∃ g : It.Gl, cs = glC g := by
  obtain ⟨f0, f1, f2, f3, hfs, ⟨t0, o0⟩, ⟨t1, o1⟩, ⟨t2, o2⟩, ⟨t3, o3⟩⟩ := four_fields (show (Try.prog.fieldsOf 45).toList.map (fun f => (f.type, f.offset)) = [(2, 0), (2, 1), (2, 2), (3, 3)] by kernel_rfl)
  obtain ⟨xs, m, hm', hxe, hcl, hxl, hxi⟩ := DataW.trod_struct uGl9 h
  rw [hfs] at hxl hxi
  rw [cGl9] at hcl
  match cs, hcl, xs, hxl with
  | [v0, v1, v2, v3], _, [y0, y1, y2, y3], _ =>
    have g0 := hxi 0 f0 rfl
    have g1 := hxi 1 f1 rfl
    have g2 := hxi 2 f2 rfl
    have g3 := hxi 3 f3 rfl
    rw [t0, o0, cI649] at g0
    rw [t1, o1, cI649] at g1
    rw [t2, o2, cI649] at g2
    rw [t3, o3, cInt9] at g3
    simp at g0 g1 g2 g3
    obtain ⟨a, e0, _, w0⟩ := DataW.trod_int Try.underlying2 g0
    obtain ⟨b, e1, _, w1⟩ := DataW.trod_int Try.underlying2 g1
    obtain ⟨c, e2, _, w2⟩ := DataW.trod_int Try.underlying2 g2
    obtain ⟨d, e3, _, w3⟩ := DataW.trod_int Try.underlying3 g3
    simp at e0 e1 e2 e3
    subst e0 e1 e2 e3
    exact ⟨⟨a, b, c, d⟩, rfl⟩
theorem it_open {fuel : Nat} {cs : List Value} {x : DataW H × List MemPlace} (h : DataW.trod enc Try.prog W base spare held fuel 47 cs = some x) : ∃ p : It.Itm, cs = itC p := by
  obtain ⟨f0, f1, f2, f3, f4, f5, hfs, ⟨t0, o0⟩, ⟨t1, o1⟩, ⟨t2, o2⟩, ⟨t3, o3⟩, ⟨t4, o4⟩, ⟨t5, o5⟩⟩ := six_fields (show (Try.prog.fieldsOf 47).toList.map (fun f => (f.type, f.offset)) = [(3, 0), (45, 1), (3, 5), (4, 6), (3, 7), (3, 8)] by kernel_rfl)
  obtain ⟨xs, m, hm', hxe, hcl, hxl, hxi⟩ := DataW.trod_struct uIt9 h
  rw [hfs] at hxl hxi
  rw [cIt9] at hcl
  match cs, hcl, xs, hxl with
  | [v0, v1, v2, v3, v4, v5, v6, v7, v8], _, [y0, y1, y2, y3, y4, y5], _ =>
    have g0 := hxi 0 f0 rfl
    have g1 := hxi 1 f1 rfl
    have g2 := hxi 2 f2 rfl
    have g3 := hxi 3 f3 rfl
    have g4 := hxi 4 f4 rfl
    have g5 := hxi 5 f5 rfl
    rw [t0, o0, cInt9] at g0
    rw [t1, o1, cGl9] at g1
    rw [t2, o2, cInt9] at g2
    rw [t3, o3, cBool9] at g3
    rw [t4, o4, cInt9] at g4
    rw [t5, o5, cInt9] at g5
    simp at g0 g1 g2 g3 g4 g5
    obtain ⟨a, e0, _, w0⟩ := DataW.trod_int Try.underlying3 g0
    obtain ⟨g, e1⟩ := gl_open g1
    obtain ⟨c, e2, _, w2⟩ := DataW.trod_int Try.underlying3 g2
    obtain ⟨d, e3, _⟩ := DataW.trod_bool Try.underlying4 g3
    obtain ⟨e, e4, _, w4⟩ := DataW.trod_int Try.underlying3 g4
    obtain ⟨f, e5, _, w5⟩ := DataW.trod_int Try.underlying3 g5
    simp [glC] at e0 e1 e2 e3 e4 e5
    obtain ⟨rfl, rfl, rfl, rfl⟩ := e1
    subst e0 e2 e3 e4 e5
    exact ⟨⟨a, g, c, d, e, f⟩, rfl⟩
theorem bulk_len {H : Type} (ds : List (DataW H)) : ds.length ≤ Rows.uptoBulkAll ds := by
  induction ds with
  | nil => exact Nat.zero_le _
  | cons d r ih =>
    simp only [List.length_cons, Rows.uptoBulkAll]
    have : 1 ≤ Rows.uptoBulk d := by
      unfold Rows.uptoBulk
      split <;> omega
    omega
/-- a slice of records, as it comes in -/
theorem recs_open {α : Type} [Inhabited α] {T S : TypeId} (hS : Try.prog.underlying S = some (.slice T)) {k : Nat} (hk : Try.prog.cellsOf T = k) (hk0 : 0 < k) {f : α → List Value} (hf : ∀ x, (f x).length = k)
    (each : ∀ (fuel : Nat) (cs : List Value) (x : DataW H × List MemPlace), DataW.trod enc Try.prog W base spare held fuel T cs = some x → ∃ a, cs = f a)
    {fuel : Nat} {cs : List Value} {x : DataW H × List MemPlace} (h : DataW.trod enc Try.prog W base spare held fuel S cs = some x) :
    ∃ v l, cs = [v] ∧ SlcAt f k W v l ∧ l.length + 1 ≤ Rows.uptoBulk x.1 ∧ ∃ elems rest, (x.1 = .nil ∧ l = []) ∨ (x.1 = .slice elems rest ∧ l.length ≤ elems.length) := by
  rcases DataW.trod_slice hS h with ⟨rfl, rfl⟩ | ⟨a, len, cap, elems, rest, n, hn, rfl, rfl, _, hl, hm, hlen, hel, _, _⟩
  · exact ⟨_, [], rfl, slc_none _ _ _, by simp [Rows.uptoBulk], [], [], .inl ⟨rfl, rfl⟩⟩
  · have each2 : ∀ i, i < len → ∃ y : α, ∀ j, j < k → W.cell? ((a.add (i * k)).add j) = (f y)[j]? := fun i hi => by
      have h1 := hel i hi
      rw [hk] at h1
      have hlt : i < elems.length := by omega
      rw [List.getElem?_eq_getElem hlt] at h1
      obtain ⟨cs', hc, hy⟩ := Option.bind_eq_some_iff.1 h1
      obtain ⟨y, rfl⟩ := each _ _ _ hy
      obtain ⟨_, _, hcells⟩ := World.cells?_some hc
      exact ⟨y, fun j hj => hcells j hj⟩
    obtain ⟨F, hF⟩ := Go.Deep.choose_lt each2
    have hln : ((List.range len).map F).length = len := by simp
    refine ⟨_, (List.range len).map F, rfl, ⟨⟨some a, cap, by rw [hln], by rw [hln]; exact hl⟩, by rw [hln]; omega, fun hp => ?_⟩, ?_, _, _, .inr ⟨rfl, by rw [hln]; simp [hlen]⟩⟩
    · rw [hln] at hp
      obtain ⟨b, off, spot⟩ := a
      have h00 := (hF 0 (by omega)) 0 hk0
      have hspot : spot = none := by
        have hu : ∃ u, (f (F 0))[0]? = some u := ⟨_, List.getElem?_eq_getElem (by rw [hf]; exact hk0)⟩
        obtain ⟨u, hu⟩ := hu
        rw [hu] at h00
        have h01 : W.cell? ⟨b, off, spot⟩ = some u := by simpa [Addr.add] using h00
        exact World.cell?_spot h01
      subst hspot
      refine ⟨b, off, cap, by rw [hln], fun i t hi j u hj => ?_⟩
      have hil : i < len := by
        rcases Nat.lt_or_ge i len with h' | h'
        · exact h'
        · rw [List.getElem?_eq_none (by rw [hln]; exact h')] at hi; cases hi
      have hti : F i = t := by
        rw [List.getElem?_map, List.getElem?_range hil] at hi
        exact Option.some.inj hi
      have q := (hF i hil) j (by rw [← hf t]; exact (List.getElem?_eq_some_iff.1 hj).1)
      rw [hti, hj, Go.WideShapes.add_plain, Go.WideShapes.add_plain] at q
      exact q
    · rw [hln]
      have := bulk_len (elems.map (·.1))
      simp only [List.length_map] at this
      simp only [Rows.uptoBulk]
      omega
theorem bulk_sum {α : Type} {H : Type} {sz : α → Nat} : ∀ (l : List α) (ds : List (DataW H)), l.length = ds.length → (∀ (i : Nat) (n : α) (d : DataW H), l[i]? = some n → ds[i]? = some d → sz n ≤ Rows.uptoBulk d) → (l.map sz).sum ≤ Rows.uptoBulkAll ds
  | [], ds, _, _ => by simp
  | n :: r, [], h, _ => by simp at h
  | n :: r, d :: ds, h, hi => by
    have h0 := hi 0 n d rfl rfl
    have ih := bulk_sum (sz := sz) r ds (by simpa using h) (fun i n d h1 h2 => hi (i + 1) n d (by simpa using h1) (by simpa using h2))
    simp only [List.map_cons, List.sum_cons, Rows.uptoBulkAll]
    omega
/-- a slice of slices, as it comes in -/
theorem rows_open {α : Type} [Inhabited α] {T S : TypeId} (hS : Try.prog.underlying S = some (.slice T)) (hk : Try.prog.cellsOf T = 1) {R : World → Value → α → Prop} {sz : α → Nat}
    (each : ∀ (fuel : Nat) (cs : List Value) (x : DataW H × List MemPlace), DataW.trod enc Try.prog W base spare held fuel T cs = some x → ∃ v a, cs = [v] ∧ R W v a ∧ sz a ≤ Rows.uptoBulk x.1)
    {fuel : Nat} {cs : List Value} {x : DataW H × List MemPlace} (h : DataW.trod enc Try.prog W base spare held fuel S cs = some x) :
    ∃ v l, cs = [v] ∧ RowAt R W v l ∧ (l.map sz).sum + 1 ≤ Rows.uptoBulk x.1 := by
  rcases DataW.trod_slice hS h with ⟨rfl, rfl⟩ | ⟨a, len, cap, elems, rest, n, hn, rfl, rfl, _, hl, hm, hlen, hel, _, _⟩
  · exact ⟨_, [], rfl, row_none _ _, by simp [Rows.uptoBulk]⟩
  · have each2 : ∀ i, i < len → ∃ y : α, ∃ u z, elems[i]? = some z ∧ sz y ≤ Rows.uptoBulk z.1 ∧ W.cell? (a.add i) = some u ∧ R W u y := fun i hi => by
      have h1 := hel i hi
      rw [hk, Nat.mul_one] at h1
      have hlt : i < elems.length := by omega
      rw [List.getElem?_eq_getElem hlt] at h1
      obtain ⟨cs', hc, hy⟩ := Option.bind_eq_some_iff.1 h1
      obtain ⟨u, y, rfl, hr, hz⟩ := each _ _ _ hy
      obtain ⟨_, _, hcells⟩ := World.cells?_some hc
      have h0 := hcells 0 (by omega)
      refine ⟨y, u, _, List.getElem?_eq_getElem hlt, hz, ?_, hr⟩
      have e : (a.add i).add 0 = a.add i := by unfold Addr.add; split <;> simp_all
      rw [e] at h0
      exact h0
    obtain ⟨F, hF⟩ := Go.Deep.choose_lt each2
    have hln : ((List.range len).map F).length = len := by simp
    refine ⟨_, (List.range len).map F, rfl, ⟨⟨some a, cap, by rw [hln], by rw [hln]; exact hl⟩, by rw [hln]; omega, fun hp => ?_⟩, ?_⟩
    · rw [hln] at hp
      obtain ⟨b, off, spot⟩ := a
      obtain ⟨u0, z0, _, _, h00, _⟩ := hF 0 (by omega)
      have hspot : spot = none := by
        have h01 : W.cell? ⟨b, off, spot⟩ = some u0 := by simpa [Addr.add] using h00
        exact World.cell?_spot h01
      subst hspot
      refine ⟨b, off, cap, by rw [hln], fun i t hi => ?_⟩
      have hil : i < len := by
        rcases Nat.lt_or_ge i len with h' | h'
        · exact h'
        · rw [List.getElem?_eq_none (by rw [hln]; exact h')] at hi; cases hi
      have hti : F i = t := by
        rw [List.getElem?_map, List.getElem?_range hil] at hi
        exact Option.some.inj hi
      obtain ⟨u, z, _, _, hc, hr⟩ := hF i hil
      rw [hti] at hr
      rw [Go.WideShapes.add_plain] at hc
      exact ⟨u, hc, hr⟩
    · have hle : ((List.range len).map F).length ≤ (elems.map (·.1)).length := by simp [hlen]
      have hb := bulk_sum (sz := sz) ((List.range len).map F) ((elems.map (·.1)).take len) (by simp [hlen]) (fun i y d h1 h2 => by
        have hil : i < len := by
          rcases Nat.lt_or_ge i len with h' | h'
          · exact h'
          · rw [List.getElem?_eq_none (by rw [hln]; exact h')] at h1; cases h1
        rw [List.getElem?_map, List.getElem?_range hil] at h1
        have hti : F i = y := Option.some.inj h1
        obtain ⟨u, z, hz1, hz2, _, _⟩ := hF i hil
        rw [List.getElem?_take_of_lt hil, List.getElem?_map, hz1] at h2
        have : z.1 = d := Option.some.inj h2
        rw [hti, this] at hz2
        exact hz2)
      have hb2 : Rows.uptoBulkAll ((elems.map (·.1)).take len) ≤ Rows.uptoBulkAll (elems.map (·.1)) := by
        have e : elems.map (·.1) = (elems.map (·.1)).take len ++ (elems.map (·.1)).drop len := (List.take_append_drop _ _).symm
        have app : ∀ p q : List (DataW H), Rows.uptoBulkAll p ≤ Rows.uptoBulkAll (p ++ q) := fun p q => by
          induction p with
          | nil => simp [Rows.uptoBulkAll]
          | cons y r ih => simp only [List.cons_append, Rows.uptoBulkAll]; omega
        conv => rhs; rw [e]
        exact app _ _
      simp only [Rows.uptoBulk]
      omega

/-! ### how much there is -/
def szP (l : List It.Pt) : Nat := l.length + 1
def szW (ws : List (List It.Pt)) : Nat := (ws.map szP).sum + 1
def szL (ls : List (List (List It.Pt))) : Nat := (ls.map szW).sum + 1
theorem wordsI_len (sp : It.Gl) (hy : Int) : ∀ (ws : List (List It.Pt)) (n : Int) (i : Nat), (It.wordsI sp hy n i ws).length ≤ 2 * (ws.map szP).sum
  | [], n, i => by simp [It.wordsI]
  | w :: r, n, i => by
    have h1 := (It.wordI_len hy n w 0).2
    have h2 := wordsI_len sp hy r (n + 1) (i + 1)
    simp only [It.wordsI, List.length_append, List.map_cons, List.sum_cons, szP] at h2 ⊢
    split <;> simp <;> omega
theorem versI_len (sp : It.Gl) (hy : Int) : ∀ (ls : List (List (List It.Pt))) (n : Int), (It.versI sp hy n ls).length ≤ 3 * (ls.map szW).sum
  | [], n => by simp [It.versI]
  | l :: r, n => by
    have h1 := wordsI_len sp hy l n 0
    have h2 := versI_len sp hy r (n + l.length)
    have h3 : It.endI.length = 3 := rfl
    simp only [It.versI, List.length_append, List.map_cons, List.sum_cons, szW, h3] at h2 ⊢
    omega
theorem items_in {v : Value} {d : DataW H} {p : List MemPlace} (h : DataW.Trod enc Try.prog W base spare held 22 v d p) (hs : v.cells.toList = [v]) : ∃ l, ItsAt W v l ∧ (l = [] ∨ ∃ elems rest, d = .slice elems rest ∧ l.length ≤ elems.length) := by
  obtain ⟨fuel, hf⟩ := h
  rw [hs] at hf
  obtain ⟨v', a, e, h1, _, els, rst, h3⟩ := recs_open Try.underlying22 cIt9 (by decide) (f := itC) (fun x => rfl) (fun fuel cs x h => it_open h) hf
  injection e with e1
  subst e1
  refine ⟨a, h1, ?_⟩
  rcases h3 with ⟨_, h⟩ | ⟨h, h4⟩
  · exact .inl h
  · exact .inr ⟨els, rst, h, h4⟩
/-- numbers, as they come in -/
theorem ints_in {v : Value} {d : DataW H} {p : List MemPlace}
    (h : DataW.Trod enc Try.prog W base spare held 24 v d p) (hs : v.cells.toList = [v]) :
    ∃ xs : List Int, IntsAt .i64 W v xs := by
  obtain ⟨fuel, hf⟩ := h
  rw [hs] at hf
  rcases Go.ChangeShapes.open_ints Try.underlying24 Try.underlying3 cInt9 hf with ⟨hc, hx⟩ | ⟨a, len, cap, zs, hc, _, hl, hm, hlen, hx, hcell, _⟩
  · injection hc with hc _
    exact ⟨[], by rw [hc]; exact ints_none _ _⟩
  · injection hc with hc _
    have hlm : len ≤ zs.length := by rw [hlen]; split <;> omega
    have hln : (zs.take len).length = len := by rw [List.length_take]; omega
    refine ⟨zs.take len, ⟨⟨some a, cap, by rw [hc, hln], by rw [hln]; exact hl⟩, by rw [hln]; omega, fun hp => ?_⟩⟩
    rw [hln] at hp
    obtain ⟨b, off, spot⟩ := a
    have hspot : spot = none := by simpa [Addr.add] using World.cell?_spot (hcell 0 (by omega))
    subst hspot
    refine ⟨b, off, cap, by rw [hc, hln], fun i s hi => ?_⟩
    have hil : i < len := by
      rcases Nat.lt_or_ge i len with h' | h'
      · exact h'
      · rw [List.getElem?_eq_none (by rw [hln]; exact h')] at hi; cases hi
    have h1 := hcell i (by omega)
    rw [Go.WideShapes.add_plain] at h1
    rw [List.getElem?_take_of_lt hil] at hi
    rw [show zs.getD i 0 = s by rw [List.getD_eq_getElem?_getD, hi]; rfl] at h1
    exact h1
end
end Go.Proofs.Ytdimfmpolbijeaa

namespace Go.Proofs.Ytdimfmpolbijeaa
open Go.ChangeShapes Go.WideShapes Go.ChangeAt Go.RowKit
theorem uCh11 : Try.prog.underlying 35 = some (.struct (Try.prog.fieldsOf 35)) := by kernel_rfl
theorem cCh11 : Try.prog.cellsOf 35 = 2 := by kernel_rfl
section
variable {H : Type} {enc : TypeId × Value → H} {W : World} {base : Nat} {held : Bool} {spare : Nat → Bool}
set_option maxRecDepth 100000 in
theorem choice_in {v : Value} {d : DataW H} {p : List MemPlace} (h : DataW.Trod enc Try.prog W base spare held 35 v d p) {cs : Array Value} (hv : v = .agg cs) : ∃ a b : Int, v = .agg #[.int .i64 a, .int .i64 b] := by
  obtain ⟨fuel, hf⟩ := h
  subst hv
  obtain ⟨f0, f1, hfs, ⟨t0, o0⟩, ⟨t1, o1⟩⟩ := two_fields (show (Try.prog.fieldsOf 35).toList.map (fun f => (f.type, f.offset)) = [(3, 0), (3, 1)] by kernel_rfl)
  obtain ⟨xs, m, hm', hxe, hcl, hxl, hxi⟩ := DataW.trod_struct uCh11 hf
  have hcs : (Value.agg cs).cells.toList = cs.toList := rfl
  rw [hcs] at hcl hxi
  rw [hfs] at hxl hxi
  rw [cCh11] at hcl
  obtain ⟨l⟩ := cs
  simp only [] at hcl hxi
  match l, hcl, xs, hxl with
  | [v0, v1], _, [y0, y1], _ =>
    have g0 := hxi 0 f0 rfl
    have g1 := hxi 1 f1 rfl
    rw [t0, o0, cInt9] at g0
    rw [t1, o1, cInt9] at g1
    simp at g0 g1
    obtain ⟨a, e0, _, w0⟩ := DataW.trod_int Try.underlying3 g0
    obtain ⟨b, e1, _, w1⟩ := DataW.trod_int Try.underlying3 g1
    simp at e0 e1
    subst e0 e1
    exact ⟨a, b, rfl⟩
end
end Go.Proofs.Ytdimfmpolbijeaa

namespace Go.Proofs.Ytdimfmpolbijeaa
open Go.ChangeShapes Go.WideShapes Go.ChangeAt Go.RowKit

theorem own : ownKnob Try.prog.godebug = none := by kernel_rfl
theorem laidOut : laidOutB Try.prog = true := by kernel_rfl
/-- the list that every row of this seat bears -/
def laidList : List (String × DataW Unit) := []
section
variable {H : Type} {enc : TypeId × Value → H} {P : Program}
/-- the arguments read behind the call as they did before -/
theorem args_kept (hl : laidOutB P = true) {W W' : World} (hb : Below W.heap.size W W') : ∀ (ts : List TypeId) (vs : List Value) (ds : List (DataW H)) (ps : List MemPlace), (∀ t ∈ ts, P.readableRec t = true ∧ t < P.types.size) →
    DataW.TrodAll enc P W 0 (fun _ => true) true ts vs ds ps → (∀ x ∈ ps, x.block < W.heap.size) → DataW.TrodAll enc P W' 0 (fun b => decide (b < W.heap.size)) true ts vs ds ps
  | [], vs, ds, ps, _, h, _ => by
    obtain ⟨rfl, rfl, rfl⟩ := trodAll_nil h
    exact trodAll_mk0
  | t :: ts, vs, ds, ps, hr, h, hlt => by
    obtain ⟨v, vs', d, ds', p, q, rfl, rfl, rfl, h0, r0⟩ := trodAll_cons h
    have h1 := hr t (List.mem_cons_self ..)
    exact trodAll_cons_mk (Below.trod hl h1.1 h1.2 h0 hb (fun x hx => hlt x (List.mem_append_left _ hx))) (args_kept hl hb ts vs' ds' q (fun t ht => hr t (List.mem_cons_of_mem _ ht)) r0 (fun x hx => hlt x (List.mem_append_right _ hx)))
end
end Go.Proofs.Ytdimfmpolbijeaa

namespace Go.Proofs.Ytdimfmpolbijeaa
open Go.RowKit

/-- what a list of breaks costs together, as it is told -/
theorem total_told (v : Value) (l : List It.Itm) (t tol : Int) (hlen : l.length ≤ 2000) (u : Value) (cs : List Int) (w : World) (h : ItsAt w v l) (hu : NumsAt w u cs) : Calls Try.prog 15 #[v, u, .int .i64 t, .int .i64 tol] w fun e w' => ∃ d q, e = .returned (.tuple #[.int .i64 d, .bool q]) ∧ (q = true → It.total l cs t tol = some d) ∧ (q = false → It.total l cs t tol = none) ∧ Below w.heap.size w w' := by
  refine (refDemTotal_any v u l cs t tol w h hlen (nums_ints hu)).mono ?_
  rintro e w' ⟨rfl, hb⟩
  cases ht : It.total l cs t tol with
  | none => exact ⟨0, false, rfl, fun e => (by cases e), fun _ => rfl, hb⟩
  | some d => exact ⟨d, true, rfl, fun _ => rfl, fun e => (by cases e), hb⟩

set_option maxHeartbeats 8000000 in
set_option maxRecDepth 100000 in
theorem lawLeast11 (v : Value) (l : List It.Itm) (t xb xt : Int) (w : World) (h : ItsAt w v l) : Calls Try.prog 4 #[v, .int .i64 t, .agg #[.int .i64 xb, .int .i64 xt]] w (Ret (.bool true) w) := by
  have HF := Lib.hid (fun w => fixed11 w)
  have HA := Lib.hid h
  obtain ⟨W1, hW1⟩ : ∃ W1, W1 = w.alloc (.cells #[.int .i64 xb, .int .i64 xt] 35) := ⟨_, rfl⟩
  have hb1 := below_alloc w (.cells #[.int .i64 xb, .int .i64 xt] 35)
  have HX1 := Lib.hid (obj_new w _ rfl #[.int .i64 xb, .int .i64 xt] 35)
  rw [← hW1] at hb1 HX1
  have HB1 := Lib.hid hb1
  obtain ⟨P, hP⟩ : ∃ P, P = w.heap.size := ⟨_, rfl⟩
  rw [← hP] at HX1
  have HM := Lib.hid (fun w h => refItMay_any v l w h)
  have HBst := Lib.hid (fun w h => best_any v l t xt w h)
  have HCh := Lib.hid (fun hlen w h => choice_any v l xb hlen w h)
  have HTo := Lib.hid (fun hlen u cs w h hu => total_told v l t xt hlen u cs w h hu)
  obtain ⟨⟨p, cp, rfl, hcap⟩, hm, _⟩ := h
  have hza : l.length ≤ 9223372036854775807 := by unfold maxLen at hm; omega
  obtain ⟨n, hn⟩ : ∃ n, n = l.length := ⟨_, rfl⟩
  have Hn := Lib.hid hn
  have hA' := HA.out
  rw [← hn] at HM HBst HCh HTo hza hA' ⊢
  have HA' := Lib.hid hA'
  clear hcap hm hn hA' hb1
  by_cases hl200 : n ≤ 200
  · have g1 : ¬ ((200 : Int) < (n : Int)) := by omega
    have HTt := Lib.hid (fun u cs w h hu => HTo.out (by omega) u cs w h hu)
    cases hmay : It.may l with
    | false =>
      rw [hmay] at HM
      clear hmay
      go_enter Try.func4, Try.ntmps4
      go_upto_region 1 with fail
      rw [← hW1]
      clear hW1
      go_wp2_with fail
      refine (HF.out _).mono ?_
      rintro e w2 ⟨rfl, hb2⟩
      have HB2 := Lib.hid (below_step HB1.out hb2)
      have HI2 := Lib.hid (SlcAt.mono HA'.out HB2.out)
      clear hb2
      go_wp2_with fail
      refine (HM.out _ HI2.out).mono ?_
      rintro e w3 ⟨rfl, hb3⟩
      have HB3 := Lib.hid (below_step HB2.out hb3)
      clear hb3
      go_wp2_with fail
      refine (HF.out _).mono ?_
      rintro e w4 ⟨rfl, hb4⟩
      have HB4 := Lib.hid (below_step HB3.out hb4)
      clear hb4
      go_wp2
      go_ret
      exact ⟨rfl, HB4.out⟩
    | true =>
      rw [hmay] at HM
      have HMay := Lib.hid hmay
      clear hmay
      have HNo := Lib.hid (fun h bs => best_none (t := t) (tol := xt) HMay.out h bs)
      have HSo := Lib.hid (fun x h => best_some (l := l) (t := t) (tol := xt) (x := x) h)
      go_enter Try.func4, Try.ntmps4
      go_upto_region 1 with fail
      rw [← hW1, ← hP]
      clear hW1 hP
      go_wp2_with fail
      refine (HF.out _).mono ?_
      rintro e w2 ⟨rfl, hb2⟩
      have HB2 := Lib.hid (below_step HB1.out hb2)
      have HX2 := Lib.hid (obj_kept hb2 HX1.out)
      have HI2 := Lib.hid (SlcAt.mono HA'.out HB2.out)
      clear hb2
      go_wp2_with fail
      refine (HM.out _ HI2.out).mono ?_
      rintro e w3 ⟨rfl, hb3⟩
      have HB3 := Lib.hid (below_step HB2.out hb3)
      have HX3 := Lib.hid (obj_kept hb3 HX2.out)
      have HI3 := Lib.hid (SlcAt.mono HI2.out hb3)
      have c1 : w3.cell? ⟨P, 1, none⟩ = some (.int .i64 xt) := Lib.cell_of_heap HX3.out 1
      clear hb3
      go_wp2_with fail
      refine (HBst.out _ HI3.out).mono ?_
      rintro e w4 ⟨u, rfl, hu, hb4⟩
      have HB4 := Lib.hid (below_step HB3.out hb4)
      have HX4 := Lib.hid (obj_kept hb4 HX3.out)
      have HI4 := Lib.hid (SlcAt.mono HI3.out hb4)
      have HU4 := Lib.hid (hu.at inC_len)
      clear hb4 hu c1
      have c0 : w4.cell? ⟨P, 0, none⟩ = some (.int .i64 xb) := Lib.cell_of_heap HX4.out 0
      have c1 : w4.cell? ⟨P, 1, none⟩ = some (.int .i64 xt) := Lib.cell_of_heap HX4.out 1
      have HD := Lib.hid (below_drew10 w4)
      have HChd := Lib.hid (HCh.out (by omega) w4.drew (SlcAt.mono HI4.out HD.out))
      cases hbst : bestW l t xt with
      | none =>
        have HNn := Lib.hid (HNo.out hbst)
        rw [hbst] at HU4
        unfold bl at HU4
        obtain ⟨ua, uc, ue, _, _⟩ := num_cell HU4.out
        subst ue
        clear hbst
        unfold bz
        go_upto_region 4 with fail
        go_region_held3 (fun w' => w'.cell? ⟨P, 0, none⟩ = some (.int .i64 xb) ∧ w'.cell? ⟨P, 1, none⟩ = some (.int .i64 xt)) (first | (exact ⟨cell_below HXq.out c0, cell_below HXq.out c1⟩) | (exact ⟨cell_below HXp.out c0, cell_below HXp.out c1⟩) | go_keep) (first | ((with_reducible refine HChd.out.mono ?_); rintro e w5 ⟨y, rfl, hy, hb5⟩; have HXp := Lib.hid (below_step HD.out hb5); have HY := Lib.hid hy; clear hb5 hy) | ((with_reducible refine (HTt.out _ _ _ (SlcAt.mono HI4.out HXp.out) HY.out).mono ?_); rintro e w6 ⟨dd, dq, rfl, hq1, hq2, hb6⟩; have HXq := Lib.hid (below_step HXp.out hb6); have HQ := Lib.hid hq1; clear hb6 hq1 hq2))
        have hdq : dq = false := by
          cases dq with
          | false => rfl
          | true => have := HQ.out rfl; rw [HNn.out] at this; cases this
        subst hdq
        clear c0 c1
        go_wp2
        go_ret
        exact ⟨rfl, below_step HB4.out HXq.out⟩
      | some x =>
        obtain ⟨_, _, _, htot, hleast⟩ := HSo.out x hbst
        rw [hbst] at HU4
        unfold bl at HU4
        have HTot := Lib.hid htot
        have HLst := Lib.hid hleast
        clear hbst htot hleast
        unfold bz
        go_upto_region 4 with fail
        go_region_held3 (fun w' => w'.cell? ⟨P, 0, none⟩ = some (.int .i64 xb) ∧ w'.cell? ⟨P, 1, none⟩ = some (.int .i64 xt)) (first | (exact ⟨cell_below HXq.out c0, cell_below HXq.out c1⟩) | (exact ⟨cell_below HXp.out c0, cell_below HXp.out c1⟩) | go_keep) (first | ((with_reducible refine HChd.out.mono ?_); rintro e w5 ⟨y, rfl, hy, hb5⟩; have HXp := Lib.hid (below_step HD.out hb5); have HY := Lib.hid hy; clear hb5 hy) | ((with_reducible refine (HTt.out _ _ _ (SlcAt.mono HI4.out HXp.out) HY.out).mono ?_); rintro e w6 ⟨dd, dq, rfl, hq1, hq2, hb6⟩; have HXq := Lib.hid (below_step HXp.out hb6); have HQ := Lib.hid hq1; clear hb6 hq1 hq2))
        have HX6 := Lib.hid (obj_kept HXq.out HX4.out)
        have HI6 := Lib.hid (SlcAt.mono HI4.out HXq.out)
        have HU6 := Lib.hid (SlcAt.mono HU4.out HXq.out)
        have HB6 := Lib.hid (below_step HB4.out HXq.out)
        clear c0 c1
        have c1 : w6.cell? ⟨P, 1, none⟩ = some (.int .i64 xt) := Lib.cell_of_heap HX6.out 1
        go_wp2_with fail
        refine (HTt.out _ _ _ HI6.out HU6.out).mono ?_
        rintro e w7 ⟨d7, q7, rfl, h71, h72, hb7⟩
        have hq7 : q7 = true := by
          cases q7 with
          | true => rfl
          | false => have := h72 rfl; rw [HTot.out] at this; cases this
        subst hq7
        have hd7 : d7 = x.1 := by
          have := h71 rfl
          rw [HTot.out] at this
          exact (Option.some.inj this).symm
        subst hd7
        have HB7 := Lib.hid (below_step HB6.out hb7)
        clear h71 h72 hb7 c1
        cases dq with
        | false =>
          go_wp2
          go_ret
          exact ⟨rfl, HB7.out⟩
        | true =>
          have hle : x.1 ≤ dd := (HLst.out _ dd (HQ.out rfl)).1
          go_wp2
          go_ret
          exact ⟨rfl, HB7.out⟩
  · have g1 : (200 : Int) < (n : Int) := by omega
    go_enter Try.func4, Try.ntmps4
    go_upto_region 1 with fail
    rw [← hW1]
    clear hW1
    go_wp2_with fail
    refine (HF.out _).mono ?_
    rintro e w2 ⟨rfl, hb2⟩
    have HB2 := Lib.hid (below_step HB1.out hb2)
    clear hb2
    go_wp2_with fail
    refine (HF.out _).mono ?_
    rintro e w3 ⟨rfl, hb3⟩
    have HB3 := Lib.hid (below_step HB2.out hb3)
    clear hb3
    go_wp2
    go_ret
    exact ⟨rfl, HB3.out⟩
end Go.Proofs.Ytdimfmpolbijeaa

namespace Go.Proofs.Ytdimfmpolbijeaa
open Go.ChangeShapes Go.WideShapes Go.ChangeAt Go.RowKit

set_option maxRecDepth 100000 in
/-- WHAT THE WALK GIVES, FOR EVERY ARGUMENT AND EVERY WORLD. -/
theorem breakerLeast_contract (H : Type) (enc : TypeId × Value → H) (W : World) (base : Nat) (args : Array Value) (ds gs : List (DataW H)) (before : List MemPlace)
    (hval : ∀ (j : Nat) t v, Try.f4.params[j]? = some t → args[j]? = some v → Value.okWide Try.prog W .any base t v)
    (hW : DataW.Whole enc Try.prog Try.f4.params.toList Rows.breakerLeastSpec.vars false W args.toList ds gs before) (hk : (DataW.weightsEach Try.prog (Try.f4.params.toList ++ (OpenSpec.ofChange Rows.breakerLeastSpec).bare.plain.varTypes Try.prog) (ds ++ gs)).all (· ≤ reachBytes) = true) :
    Calls Try.prog 4 args W fun e W' => ∃ v, e = .returned v ∧ Rows.breakerLeastSpec.post enc Try.prog Try.f4 false true false false W args v W' := by
  have hW' := hW
  have hlt : ∀ x ∈ before, x.block < W.heap.size := fun x hx => hW'.lt x hx
  obtain ⟨p, q, hA0, hV, hbe, hfz, hnd⟩ := hW
  have hA : DataW.TrodAll enc Try.prog W 0 (fun _ => true) true Try.f4.params.toList args.toList ds p := hA0
  rw [Try.params4] at hA hval hk
  have hAk := hA
  obtain ⟨v0, vs0, d0, ds0, p0, q0, hargs, rfl, rfl, h0, r0⟩ := trodAll_cons hA
  obtain ⟨v1, vs1, d1, ds1, p1, q1, rfl, rfl, rfl, h1, r1⟩ := trodAll_cons r0
  obtain ⟨v2, vs2, d2, ds2, p2, q2, rfl, rfl, rfl, h2, r2⟩ := trodAll_cons r1
  obtain ⟨rfl, rfl, rfl⟩ := trodAll_nil r2
  obtain rfl : args = #[v0, v1, v2] := by cases args; simp_all
  obtain ⟨rfl, rfl⟩ := trodVars_none hV
  obtain ⟨pa0, len0, cap0, hp0⟩ := okWide_slice Try.underlying22 (hval 0 _ v0 rfl rfl)
  obtain ⟨xs0, hxs0, _⟩ := items_in h0 (by rw [hp0]; rfl)
  obtain ⟨x1, rfl⟩ := okWide_int Try.underlying2 (hval 1 _ v1 rfl rfl)
  obtain ⟨cs2, hv2, _⟩ := okWide_struct uCh11 (hval 2 _ v2 rfl rfl)
  obtain ⟨ea, eb, rfl⟩ := choice_in h2 hv2
  refine (lawLeast11 v0 xs0 x1 ea eb W hxs0).mono fun e W' ⟨he, hb⟩ => ?_
  subst he
  have e1 : Rows.breakerLeastSpec.fn H ([d0, d1, d2] ++ []) = { results := [.lit (.bool true)], args := [d0, d1, d2] } := rfl
  refine ⟨_, rfl, [d0, d1, d2], [], before, [], p0 ++ (p1 ++ (p2 ++ [])), [], hW', ?_, ?_, ?_, hb.frame _, fun h => by cases h⟩
  · rw [e1]; exact trodAll_mk1 (shut_bool Try.underlying4 true)
  · rw [e1, Try.params4]
    exact args_kept laidOut hb _ _ _ _ (by
      intro t ht
      have : t = 22 ∨ t = 2 ∨ t = 35 := by simpa using ht
      rcases this with rfl | rfl | rfl
      all_goals exact ⟨by kernel_rfl, of_decide_eq_true (by kernel_rfl)⟩) hAk (fun x hx => hlt x (by rw [hbe]; exact List.mem_append_left _ hx))
  · rw [e1]; rfl

theorem breakerLeast_laid_met (os : Os) : laidMet Try.prog Rows.breakerLeastRow.laid ((World.laidAll Try.prog os laidList).forCall (fun _ _ => 0) ⟨#[], #[.slice none 0 0, .int .i64 0, .agg #[.int .i64 0, .int .i64 0]], []⟩).memory :=
  laidMet_laidAll _ (by kernel_rfl) (by kernel_rfl)
theorem breakerLeast_reads (os : Os) {H : Type} (enc : TypeId × Value → H) : ∃ places, DataW.whole enc Try.prog ((World.laidAll Try.prog os laidList).forCall (fun _ _ => 0) ⟨#[], #[.slice none 0 0, .int .i64 0, .agg #[.int .i64 0, .int .i64 0]], []⟩).memory Try.f4.params.toList Rows.breakerLeastSpec.vars false #[Value.slice none 0 0, .int .i64 0, .agg #[.int .i64 0, .int .i64 0]].toList 8 = some ([.nil, .lit (.int .i64 0), .agg [.lit (.int .i64 0), .lit (.int .i64 0)]], [], places) :=
  ⟨[], by kernel_rfl⟩

set_option maxRecDepth 100000 in
theorem breakerLeast_lifted (os : Os) (started : os.Started) (H : Type) (enc : TypeId × Value → H) (F : Stop.Interp) :
    ReturnsInHanded {} Try.checked os 4 .any ((OpenSpec.ofChange Rows.breakerLeastSpec).preRow enc Try.prog Try.f4 Rows.breakerLeastRow.domain false Rows.breakerLeastRow.laid) (((OpenSpec.ofChange Rows.breakerLeastSpec).at F).post enc Try.prog Try.f4 false true false false) := by
  obtain ⟨places, hx⟩ := breakerLeast_reads os enc
  refine returnsInHanded_of_row (C := Try.checked) (s := OpenSpec.ofChange Rows.breakerLeastSpec) own started (by kernel_rfl) Try.func4
    (witness_row_atRef (enc := enc) (C := Try.checked) false (World.laidAll Try.prog os laidList) #[.slice none 0 0, .int .i64 0, .agg #[.int .i64 0, .int .i64 0]] (World.laidAll_os _ _ _) (by kernel_rfl) (by kernel_rfl) (by kernel_rfl)
      (OpenSpec.preRow_of_cond 8 hx (by kernel_rfl) (fun k hk => by cases hk) (by kernel_rfl) (breakerLeast_laid_met os))) ?_
  intro W base args ds gs before hval hW _ _ hz hL hsh _
  exact breakerLeast_contract H enc W base args ds gs before hval hW hz

theorem breakerLeast_full : Rows.BreakerLeastSaid :=
  OpenClaim.holds_of_cond 4 Try.f4 rfl rfl rfl rfl rfl rfl rfl ⟨rfl, rfl, rfl, rfl, rfl⟩ rfl rfl rfl rfl rfl (by kernel_rfl) Try.func4 (by kernel_rfl)
    (of_decide_eq_true (by kernel_rfl)) (by unfold Func.isWrapper; first | (rw [if_pos (by decide +kernel)]; kernel_rfl) | (rw [if_neg (by decide +kernel)]; exact ⟨rfl, rfl⟩))
    (fun os started H enc _ F => by rw [OpenClaim.pre_eq_preRow]; exact breakerLeast_lifted os started H enc F)

end Go.Proofs.Ytdimfmpolbijeaa
