/-
  Rows, as they come in.
-/
import Derived.Test.YtffjboddnjbepaaIn10
set_option linter.unusedVariables false
set_option linter.unusedSimpArgs false
set_option maxRecDepth 20000
namespace Go.Proofs.Ytffjboddnjbepaa
open Go.ChangeShapes Go.WideShapes Go.ChangeAt Go.RowKit

theorem uRw16 : Try.prog.underlying 29 = some (.struct (Try.prog.fieldsOf 29)) := by kernel_rfl
theorem cRw16 : Try.prog.cellsOf 29 = 7 := by kernel_rfl
theorem seven_fields {fs : Array Field} {a b c d e g i : TypeId × Nat} (h : fs.toList.map (fun f => (f.type, f.offset)) = [a, b, c, d, e, g, i]) : ∃ f0 f1 f2 f3 f4 f5 f6 : Field, fs = #[f0, f1, f2, f3, f4, f5, f6] ∧ (f0.type = a.1 ∧ f0.offset = a.2) ∧ (f1.type = b.1 ∧ f1.offset = b.2) ∧ (f2.type = c.1 ∧ f2.offset = c.2) ∧ (f3.type = d.1 ∧ f3.offset = d.2) ∧ (f4.type = e.1 ∧ f4.offset = e.2) ∧ (f5.type = g.1 ∧ f5.offset = g.2) ∧ (f6.type = i.1 ∧ f6.offset = i.2) := by
  obtain ⟨l⟩ := fs
  have hl : l.length = 7 := by simpa using congrArg List.length h
  match l, hl with
  | [x, y, z, q, r, s, t], _ =>
    simp only [List.map_cons, List.map_nil, List.cons.injEq] at h
    obtain ⟨rfl, rfl, rfl, rfl, rfl, rfl, rfl, _⟩ := h
    exact ⟨x, y, z, q, r, s, t, rfl, ⟨rfl, rfl⟩, ⟨rfl, rfl⟩, ⟨rfl, rfl⟩, ⟨rfl, rfl⟩, ⟨rfl, rfl⟩, ⟨rfl, rfl⟩, ⟨rfl, rfl⟩⟩
instance : Inhabited Ln.Rw := ⟨⟨0, 0, 0, 0, false, false, false⟩⟩
section
variable {H : Type} {enc : TypeId × Value → H} {W : World} {base : Nat} {held : Bool} {spare : Nat → Bool}
theorem rw_open {fuel : Nat} {cs : List Value} {x : DataW H × List MemPlace} (h : DataW.trod enc Try.prog W base spare held fuel 29 cs = some x) : ∃ p : Ln.Rw, cs = rwC p := by
  obtain ⟨f0, f1, f2, f3, f4, f5, f6, hfs, ⟨t0, o0⟩, ⟨t1, o1⟩, ⟨t2, o2⟩, ⟨t3, o3⟩, ⟨t4, o4⟩, ⟨t5, o5⟩, ⟨t6, o6⟩⟩ := seven_fields (show (Try.prog.fieldsOf 29).toList.map (fun f => (f.type, f.offset)) = [(3, 0), (3, 1), (3, 2), (3, 3), (4, 4), (4, 5), (4, 6)] by kernel_rfl)
  obtain ⟨xs, m, hm', hxe, hcl, hxl, hxi⟩ := DataW.trod_struct uRw16 h
  rw [hfs] at hxl hxi
  rw [cRw16] at hcl
  match cs, hcl, xs, hxl with
  | [v0, v1, v2, v3, v4, v5, v6], _, [y0, y1, y2, y3, y4, y5, y6], _ =>
    have g0 := hxi 0 f0 rfl
    have g1 := hxi 1 f1 rfl
    have g2 := hxi 2 f2 rfl
    have g3 := hxi 3 f3 rfl
    have g4 := hxi 4 f4 rfl
    have g5 := hxi 5 f5 rfl
    have g6 := hxi 6 f6 rfl
    rw [t0, o0, cInt9] at g0
    rw [t1, o1, cInt9] at g1
    rw [t2, o2, cInt9] at g2
    rw [t3, o3, cInt9] at g3
    rw [t4, o4, cBool9] at g4
    rw [t5, o5, cBool9] at g5
    rw [t6, o6, cBool9] at g6
    simp at g0 g1 g2 g3 g4 g5 g6
    obtain ⟨a, e0, _, w0⟩ := DataW.trod_int Try.underlying3 g0
    obtain ⟨b, e1, _, w1⟩ := DataW.trod_int Try.underlying3 g1
    obtain ⟨c, e2, _, w2⟩ := DataW.trod_int Try.underlying3 g2
    obtain ⟨d, e3, _, w3⟩ := DataW.trod_int Try.underlying3 g3
    obtain ⟨e, e4, _⟩ := DataW.trod_bool Try.underlying4 g4
    obtain ⟨f, e5, _⟩ := DataW.trod_bool Try.underlying4 g5
    obtain ⟨g, e6, _⟩ := DataW.trod_bool Try.underlying4 g6
    simp at e0 e1 e2 e3 e4 e5 e6
    subst e0 e1 e2 e3 e4 e5 e6
    exact ⟨⟨a, b, c, d, e, f, g⟩, rfl⟩
theorem rows_in16 {v : Value} {d : DataW H} {p : List MemPlace} (h : DataW.Trod enc Try.prog W base spare held 22 v d p) (hs : v.cells.toList = [v]) : ∃ l, RwsAt W v l ∧ (l = [] ∨ ∃ elems rest, d = .slice elems rest ∧ l.length ≤ elems.length) := by
  obtain ⟨fuel, hf⟩ := h
  rw [hs] at hf
  obtain ⟨v', a, e, h1, _, els, rst, h3⟩ := recs_open Try.underlying22 cRw16 (by decide) (f := rwC) (fun x => rfl) (fun fuel cs x h => rw_open h) hf
  injection e with e1
  subst e1
  refine ⟨a, h1, ?_⟩
  rcases h3 with ⟨_, h⟩ | ⟨h, h4⟩
  · exact .inl h
  · exact .inr ⟨els, rst, h, h4⟩
end
end Go.Proofs.Ytffjboddnjbepaa
