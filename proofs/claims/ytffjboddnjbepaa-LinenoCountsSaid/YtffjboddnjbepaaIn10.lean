/-
  What comes in: items, a table's space, words of lines; how much there is hangs on the bulk.
-/
import Derived.Test.YtffjboddnjbepaaRows
import Derived.Test.YtffjboddnjbepaaMem16
import Derived.Deep.Slices
import Derived.ProofKit
import Derived.ChangeSlices
set_option linter.unusedVariables false
set_option linter.unusedSimpArgs false
set_option maxRecDepth 20000
namespace Go.Proofs.Ytffjboddnjbepaa
open Go.ChangeShapes Go.WideShapes Go.ChangeAt Go.RowKit

theorem cI649 : Try.prog.cellsOf 2 = 1 := by kernel_rfl
theorem cInt9 : Try.prog.cellsOf 3 = 1 := by kernel_rfl
theorem cBool9 : Try.prog.cellsOf 4 = 1 := by kernel_rfl
theorem cStr9 : Try.prog.cellsOf 9 = 1 := by kernel_rfl
theorem two_fields {fs : Array Field} {a b : TypeId × Nat} (h : fs.toList.map (fun f => (f.type, f.offset)) = [a, b]) : ∃ f0 f1 : Field, fs = #[f0, f1] ∧ (f0.type = a.1 ∧ f0.offset = a.2) ∧ (f1.type = b.1 ∧ f1.offset = b.2) := by
  obtain ⟨l⟩ := fs
  have hl : l.length = 2 := by simpa using congrArg List.length h
  match l, hl with
  | [x, y], _ =>
    simp only [List.map_cons, List.map_nil, List.cons.injEq] at h
    obtain ⟨rfl, rfl, _⟩ := h
    exact ⟨x, y, rfl, ⟨rfl, rfl⟩, ⟨rfl, rfl⟩⟩
theorem four_fields {fs : Array Field} {a b c d : TypeId × Nat} (h : fs.toList.map (fun f => (f.type, f.offset)) = [a, b, c, d]) : ∃ f0 f1 f2 f3 : Field, fs = #[f0, f1, f2, f3] ∧ (f0.type = a.1 ∧ f0.offset = a.2) ∧ (f1.type = b.1 ∧ f1.offset = b.2) ∧ (f2.type = c.1 ∧ f2.offset = c.2) ∧ (f3.type = d.1 ∧ f3.offset = d.2) := by
  obtain ⟨l⟩ := fs
  have hl : l.length = 4 := by simpa using congrArg List.length h
  match l, hl with
  | [x, y, z, q], _ =>
    simp only [List.map_cons, List.map_nil, List.cons.injEq] at h
    obtain ⟨rfl, rfl, rfl, rfl, _⟩ := h
    exact ⟨x, y, z, q, rfl, ⟨rfl, rfl⟩, ⟨rfl, rfl⟩, ⟨rfl, rfl⟩, ⟨rfl, rfl⟩⟩
theorem six_fields {fs : Array Field} {a b c d e g : TypeId × Nat} (h : fs.toList.map (fun f => (f.type, f.offset)) = [a, b, c, d, e, g]) : ∃ f0 f1 f2 f3 f4 f5 : Field, fs = #[f0, f1, f2, f3, f4, f5] ∧ (f0.type = a.1 ∧ f0.offset = a.2) ∧ (f1.type = b.1 ∧ f1.offset = b.2) ∧ (f2.type = c.1 ∧ f2.offset = c.2) ∧ (f3.type = d.1 ∧ f3.offset = d.2) ∧ (f4.type = e.1 ∧ f4.offset = e.2) ∧ (f5.type = g.1 ∧ f5.offset = g.2) := by
  obtain ⟨l⟩ := fs
  have hl : l.length = 6 := by simpa using congrArg List.length h
  match l, hl with
  | [x, y, z, q, r, s], _ =>
    simp only [List.map_cons, List.map_nil, List.cons.injEq] at h
    obtain ⟨rfl, rfl, rfl, rfl, rfl, rfl, _⟩ := h
    exact ⟨x, y, z, q, r, s, rfl, ⟨rfl, rfl⟩, ⟨rfl, rfl⟩, ⟨rfl, rfl⟩, ⟨rfl, rfl⟩, ⟨rfl, rfl⟩, ⟨rfl, rfl⟩⟩
theorem five_fields {fs : Array Field} {a b c d g : TypeId × Nat} (h : fs.toList.map (fun f => (f.type, f.offset)) = [a, b, c, d, g]) : ∃ f0 f1 f2 f3 f4 : Field, fs = #[f0, f1, f2, f3, f4] ∧ (f0.type = a.1 ∧ f0.offset = a.2) := by
  obtain ⟨l⟩ := fs
  have hl : l.length = 5 := by simpa using congrArg List.length h
  match l, hl with
  | [x, y, z, q, r], _ =>
    simp only [List.map_cons, List.map_nil, List.cons.injEq] at h
    obtain ⟨rfl, rfl, rfl, rfl, rfl, _⟩ := h
    exact ⟨x, y, z, q, r, rfl, ⟨rfl, rfl⟩⟩
instance : Inhabited It.Gl := ⟨⟨0, 0, 0, 0⟩⟩
instance : Inhabited It.Itm := ⟨⟨0, ⟨0, 0, 0, 0⟩, 0, false, 0, 0⟩⟩
instance : Inhabited It.Pt := ⟨⟨ByteArray.empty, 0, 0, 0⟩⟩
section
variable {H : Type} {enc : TypeId × Value → H} {W : World} {base : Nat} {held : Bool} {spare : Nat → Bool}

theorem bulk_len {H : Type} (ds : List (DataW H)) : ds.length ≤ Rows.uptoBulkAll ds := by
  induction ds with
  | nil => exact Nat.zero_le _
  | cons d r ih =>
    simp only [List.length_cons, Rows.uptoBulkAll]
    have : 1 ≤ Rows.uptoBulk d := by
      unfold Rows.uptoBulk
      split <;> omega
    omega
/-- a slice of records, as it comes in -/
theorem recs_open {α : Type} [Inhabited α] {T S : TypeId} (hS : Try.prog.underlying S = some (.slice T)) {k : Nat} (hk : Try.prog.cellsOf T = k) (hk0 : 0 < k) {f : α → List Value} (hf : ∀ x, (f x).length = k)
    (each : ∀ (fuel : Nat) (cs : List Value) (x : DataW H × List MemPlace), DataW.trod enc Try.prog W base spare held fuel T cs = some x → ∃ a, cs = f a)
    {fuel : Nat} {cs : List Value} {x : DataW H × List MemPlace} (h : DataW.trod enc Try.prog W base spare held fuel S cs = some x) :
    ∃ v l, cs = [v] ∧ SlcAt f k W v l ∧ l.length + 1 ≤ Rows.uptoBulk x.1 ∧ ∃ elems rest, (x.1 = .nil ∧ l = []) ∨ (x.1 = .slice elems rest ∧ l.length ≤ elems.length) := by
  rcases DataW.trod_slice hS h with ⟨rfl, rfl⟩ | ⟨a, len, cap, elems, rest, n, hn, rfl, rfl, _, hl, hm, hlen, hel, _, _⟩
  · exact ⟨_, [], rfl, slc_none _ _ _, by simp [Rows.uptoBulk], [], [], .inl ⟨rfl, rfl⟩⟩
  · have each2 : ∀ i, i < len → ∃ y : α, ∀ j, j < k → W.cell? ((a.add (i * k)).add j) = (f y)[j]? := fun i hi => by
      have h1 := hel i hi
      rw [hk] at h1
      have hlt : i < elems.length := by omega
      rw [List.getElem?_eq_getElem hlt] at h1
      obtain ⟨cs', hc, hy⟩ := Option.bind_eq_some_iff.1 h1
      obtain ⟨y, rfl⟩ := each _ _ _ hy
      obtain ⟨_, _, hcells⟩ := World.cells?_some hc
      exact ⟨y, fun j hj => hcells j hj⟩
    obtain ⟨F, hF⟩ := Go.Deep.choose_lt each2
    have hln : ((List.range len).map F).length = len := by simp
    refine ⟨_, (List.range len).map F, rfl, ⟨⟨some a, cap, by rw [hln], by rw [hln]; exact hl⟩, by rw [hln]; omega, fun hp => ?_⟩, ?_, _, _, .inr ⟨rfl, by rw [hln]; simp [hlen]⟩⟩
    · rw [hln] at hp
      obtain ⟨b, off, spot⟩ := a
      have h00 := (hF 0 (by omega)) 0 hk0
      have hspot : spot = none := by
        have hu : ∃ u, (f (F 0))[0]? = some u := ⟨_, List.getElem?_eq_getElem (by rw [hf]; exact hk0)⟩
        obtain ⟨u, hu⟩ := hu
        rw [hu] at h00
        have h01 : W.cell? ⟨b, off, spot⟩ = some u := by simpa [Addr.add] using h00
        exact World.cell?_spot h01
      subst hspot
      refine ⟨b, off, cap, by rw [hln], fun i t hi j u hj => ?_⟩
      have hil : i < len := by
        rcases Nat.lt_or_ge i len with h' | h'
        · exact h'
        · rw [List.getElem?_eq_none (by rw [hln]; exact h')] at hi; cases hi
      have hti : F i = t := by
        rw [List.getElem?_map, List.getElem?_range hil] at hi
        exact Option.some.inj hi
      have q := (hF i hil) j (by rw [← hf t]; exact (List.getElem?_eq_some_iff.1 hj).1)
      rw [hti, hj, Go.WideShapes.add_plain, Go.WideShapes.add_plain] at q
      exact q
    · rw [hln]
      have := bulk_len (elems.map (·.1))
      simp only [List.length_map] at this
      simp only [Rows.uptoBulk]
      omega
theorem bulk_sum {α : Type} {H : Type} {sz : α → Nat} : ∀ (l : List α) (ds : List (DataW H)), l.length = ds.length → (∀ (i : Nat) (n : α) (d : DataW H), l[i]? = some n → ds[i]? = some d → sz n ≤ Rows.uptoBulk d) → (l.map sz).sum ≤ Rows.uptoBulkAll ds
  | [], ds, _, _ => by simp
  | n :: r, [], h, _ => by simp at h
  | n :: r, d :: ds, h, hi => by
    have h0 := hi 0 n d rfl rfl
    have ih := bulk_sum (sz := sz) r ds (by simpa using h) (fun i n d h1 h2 => hi (i + 1) n d (by simpa using h1) (by simpa using h2))
    simp only [List.map_cons, List.sum_cons, Rows.uptoBulkAll]
    omega
/-- a slice of slices, as it comes in -/
theorem rows_open {α : Type} [Inhabited α] {T S : TypeId} (hS : Try.prog.underlying S = some (.slice T)) (hk : Try.prog.cellsOf T = 1) {R : World → Value → α → Prop} {sz : α → Nat}
    (each : ∀ (fuel : Nat) (cs : List Value) (x : DataW H × List MemPlace), DataW.trod enc Try.prog W base spare held fuel T cs = some x → ∃ v a, cs = [v] ∧ R W v a ∧ sz a ≤ Rows.uptoBulk x.1)
    {fuel : Nat} {cs : List Value} {x : DataW H × List MemPlace} (h : DataW.trod enc Try.prog W base spare held fuel S cs = some x) :
    ∃ v l, cs = [v] ∧ RowAt R W v l ∧ (l.map sz).sum + 1 ≤ Rows.uptoBulk x.1 := by
  rcases DataW.trod_slice hS h with ⟨rfl, rfl⟩ | ⟨a, len, cap, elems, rest, n, hn, rfl, rfl, _, hl, hm, hlen, hel, _, _⟩
  · exact ⟨_, [], rfl, row_none _ _, by simp [Rows.uptoBulk]⟩
  · have each2 : ∀ i, i < len → ∃ y : α, ∃ u z, elems[i]? = some z ∧ sz y ≤ Rows.uptoBulk z.1 ∧ W.cell? (a.add i) = some u ∧ R W u y := fun i hi => by
      have h1 := hel i hi
      rw [hk, Nat.mul_one] at h1
      have hlt : i < elems.length := by omega
      rw [List.getElem?_eq_getElem hlt] at h1
      obtain ⟨cs', hc, hy⟩ := Option.bind_eq_some_iff.1 h1
      obtain ⟨u, y, rfl, hr, hz⟩ := each _ _ _ hy
      obtain ⟨_, _, hcells⟩ := World.cells?_some hc
      have h0 := hcells 0 (by omega)
      refine ⟨y, u, _, List.getElem?_eq_getElem hlt, hz, ?_, hr⟩
      have e : (a.add i).add 0 = a.add i := by unfold Addr.add; split <;> simp_all
      rw [e] at h0
      exact h0
    obtain ⟨F, hF⟩ := Go.Deep.choose_lt each2
    have hln : ((List.range len).map F).length = len := by simp
    refine ⟨_, (List.range len).map F, rfl, ⟨⟨some a, cap, by rw [hln], by rw [hln]; exact hl⟩, by rw [hln]; omega, fun hp => ?_⟩, ?_⟩
    · rw [hln] at hp
      obtain ⟨b, off, spot⟩ := a
      obtain ⟨u0, z0, _, _, h00, _⟩ := hF 0 (by omega)
      have hspot : spot = none := by
        have h01 : W.cell? ⟨b, off, spot⟩ = some u0 := by simpa [Addr.add] using h00
        exact World.cell?_spot h01
      subst hspot
      refine ⟨b, off, cap, by rw [hln], fun i t hi => ?_⟩
      have hil : i < len := by
        rcases Nat.lt_or_ge i len with h' | h'
        · exact h'
        · rw [List.getElem?_eq_none (by rw [hln]; exact h')] at hi; cases hi
      have hti : F i = t := by
        rw [List.getElem?_map, List.getElem?_range hil] at hi
        exact Option.some.inj hi
      obtain ⟨u, z, _, _, hc, hr⟩ := hF i hil
      rw [hti] at hr
      rw [Go.WideShapes.add_plain] at hc
      exact ⟨u, hc, hr⟩
    · have hle : ((List.range len).map F).length ≤ (elems.map (·.1)).length := by simp [hlen]
      have hb := bulk_sum (sz := sz) ((List.range len).map F) ((elems.map (·.1)).take len) (by simp [hlen]) (fun i y d h1 h2 => by
        have hil : i < len := by
          rcases Nat.lt_or_ge i len with h' | h'
          · exact h'
          · rw [List.getElem?_eq_none (by rw [hln]; exact h')] at h1; cases h1
        rw [List.getElem?_map, List.getElem?_range hil] at h1
        have hti : F i = y := Option.some.inj h1
        obtain ⟨u, z, hz1, hz2, _, _⟩ := hF i hil
        rw [List.getElem?_take_of_lt hil, List.getElem?_map, hz1] at h2
        have : z.1 = d := Option.some.inj h2
        rw [hti, this] at hz2
        exact hz2)
      have hb2 : Rows.uptoBulkAll ((elems.map (·.1)).take len) ≤ Rows.uptoBulkAll (elems.map (·.1)) := by
        have e : elems.map (·.1) = (elems.map (·.1)).take len ++ (elems.map (·.1)).drop len := (List.take_append_drop _ _).symm
        have app : ∀ p q : List (DataW H), Rows.uptoBulkAll p ≤ Rows.uptoBulkAll (p ++ q) := fun p q => by
          induction p with
          | nil => simp [Rows.uptoBulkAll]
          | cons y r ih => simp only [List.cons_append, Rows.uptoBulkAll]; omega
        conv => rhs; rw [e]
        exact app _ _
      simp only [Rows.uptoBulk]
      omega

end
end Go.Proofs.Ytffjboddnjbepaa
