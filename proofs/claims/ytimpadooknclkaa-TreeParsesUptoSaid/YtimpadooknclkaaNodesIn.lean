/-
  Nodes as they come in: an argument of type []api.Node that can be read is a slice of nodes in memory; how many there are hangs on the bulk. Likewise tokens.
-/
import Derived.Test.YtimpadooknclkaaRows
import Derived.Test.YtimpadooknclkaaNodes
import Derived.Test.YtimpadooknclkaaPrints
import Derived.Deep.Slices
import Derived.ProofKit
import Derived.ChangeSlices
set_option linter.unusedVariables false
set_option linter.unusedSimpArgs false
namespace Go.Proofs.Ytimpadooknclkaa
open Go.ChangeShapes Go.WideShapes Go.ChangeAt Go.RowKit

theorem nd_fields : ∃ f0 f1 f2 f3 : Field, Try.prog.fieldsOf 43 = #[f0, f1, f2, f3] ∧ (f0.type = 4 ∧ f0.offset = 0) ∧ (f1.type = 9 ∧ f1.offset = 1) ∧ (f2.type = 41 ∧ f2.offset = 2) ∧ (f3.type = 3 ∧ f3.offset = 3) := by
  have h : (Try.prog.fieldsOf 43).toList.map (fun f => (f.name, f.type, f.offset)) = [("Command", 4, 0), ("Text", 9, 1), ("Args", 41, 2), ("At", 3, 3)] := by kernel_rfl
  generalize Try.prog.fieldsOf 43 = fs at h
  obtain ⟨l⟩ := fs
  have hl : l.length = 4 := by simpa using congrArg List.length h
  match l, hl with
  | [x, y, z, q], _ =>
    simp only [List.map_cons, List.map_nil, List.cons.injEq, Prod.mk.injEq] at h
    obtain ⟨⟨_, h1, h2⟩, ⟨_, h3, h4⟩, ⟨_, h5, h6⟩, ⟨_, h7, h8⟩, _⟩ := h
    exact ⟨x, y, z, q, rfl, ⟨h1, h2⟩, ⟨h3, h4⟩, ⟨h5, h6⟩, ⟨h7, h8⟩⟩
theorem uNd : Try.prog.underlying 43 = some (.struct (Try.prog.fieldsOf 43)) := by kernel_rfl
theorem cellsNd : Try.prog.cellsOf 43 = 4 := by kernel_rfl
theorem cellsBool6 : Try.prog.cellsOf 4 = 1 := by kernel_rfl
theorem cellsStr6 : Try.prog.cellsOf 9 = 1 := by kernel_rfl
theorem cellsInt6 : Try.prog.cellsOf 3 = 1 := by kernel_rfl
theorem cellsArgs6 : Try.prog.cellsOf 41 = 1 := by kernel_rfl
theorem cellsArg6 : Try.prog.cellsOf 23 = 1 := by kernel_rfl

theorem bulk_nodes {H : Type} : ∀ (l : List Nd) (ds : List (DataW H)), l.length = ds.length → (∀ (i : Nat) (n : Nd) (d : DataW H), l[i]? = some n → ds[i]? = some d → Tr.sizeN n ≤ Rows.uptoBulk d) → Tr.sizeL l ≤ Rows.uptoBulkAll ds
  | [], ds, _, _ => by unfold Tr.sizeL; omega
  | n :: r, [], h, _ => by simp at h
  | n :: r, d :: ds, h, hi => by
    have h0 := hi 0 n d rfl rfl
    have ih := bulk_nodes r ds (by simpa using h) (fun i n d h1 h2 => hi (i + 1) n d (by simpa using h1) (by simpa using h2))
    simp only [Tr.sizeL, Rows.uptoBulkAll]
    omega
theorem bulk_args {H : Type} : ∀ (l : List (List Nd)) (ds : List (DataW H)), l.length = ds.length → (∀ (i : Nat) (n : List Nd) (d : DataW H), l[i]? = some n → ds[i]? = some d → Tr.sizeL n + 1 ≤ Rows.uptoBulk d) → Tr.sizeA l ≤ Rows.uptoBulkAll ds
  | [], ds, _, _ => by unfold Tr.sizeA; omega
  | n :: r, [], h, _ => by simp at h
  | n :: r, d :: ds, h, hi => by
    have h0 := hi 0 n d rfl rfl
    have ih := bulk_args r ds (by simpa using h) (fun i n d h1 h2 => hi (i + 1) n d (by simpa using h1) (by simpa using h2))
    simp only [Tr.sizeA, Rows.uptoBulkAll]
    omega

instance : Inhabited Nd := ⟨.mk false [] [] 0⟩
section
variable {H : Type} {enc : TypeId × Value → H} {W : World} {base : Nat} {held : Bool} {spare : Nat → Bool}

theorem nodes_open : ∀ (N fuel : Nat), fuel ≤ N → ∀ (cs : List Value) (x : DataW H × List MemPlace), DataW.trod enc Try.prog W base spare held fuel 23 cs = some x →
    ∃ v ns, cs = [v] ∧ NodesAt W (fun _ => True) v ns ∧ Tr.sizeL ns + 1 ≤ Rows.uptoBulk x.1 := by
  intro N
  induction N with
  | zero =>
    intro fuel hf cs x h
    obtain rfl : fuel = 0 := by omega
    simp [DataW.trod] at h
  | succ N ih =>
    intro fuel hf cs x h
    rcases DataW.trod_slice Try.underlying23 h with ⟨rfl, rfl⟩ | ⟨a, len, cap, elems, rest, n, hn, rfl, rfl, _, hl, hm, hlen, hel, _, _⟩
    · exact ⟨_, [], rfl, nodes_none _ _, by simp [Tr.sizeL, Rows.uptoBulk]⟩
    · have each : ∀ i, i < len → ∃ nd : Nd, ∃ y, elems[i]? = some y ∧ Tr.sizeN nd ≤ Rows.uptoBulk y.1 ∧ (a.spot = none → NdAt W (fun _ => True) nd a.block (a.off + i * 4)) ∧ (i = 0 → a.spot = none) := fun i hi => by
        have h1 := hel i hi
        rw [cellsNd] at h1
        have hlt : i < elems.length := by omega
        rw [List.getElem?_eq_getElem hlt] at h1
        obtain ⟨cs', hc, hy⟩ := Option.bind_eq_some_iff.1 h1
        obtain ⟨f0, f1, f2, f3, hfs, ⟨t0, o0⟩, ⟨t1, o1⟩, ⟨t2, o2⟩, ⟨t3, o3⟩⟩ := nd_fields
        obtain ⟨xs, m, hm', hxe, hcl, hxl, hxi⟩ := DataW.trod_struct uNd hy
        rw [hfs] at hxl hxi
        rw [cellsNd] at hcl
        obtain ⟨_, _, hcells⟩ := World.cells?_some hc
        match cs', hcl, xs, hxl with
        | [v0, v1, v2, v3], _, [y0, y1, y2, y3], _ =>
          have g0 := hxi 0 f0 rfl
          have g1 := hxi 1 f1 rfl
          have g2 := hxi 2 f2 rfl
          have g3 := hxi 3 f3 rfl
          rw [t0, o0, cellsBool6] at g0
          rw [t1, o1, cellsStr6] at g1
          rw [t2, o2, cellsArgs6] at g2
          rw [t3, o3, cellsInt6] at g3
          simp at g0 g1 g2 g3
          obtain ⟨c, e0, rfl⟩ := DataW.trod_bool Try.underlying4 g0
          obtain ⟨S, e1, rfl, _⟩ := DataW.trod_string Try.underlying9 g1
          obtain ⟨A, e3, rfl, _⟩ := DataW.trod_int Try.underlying3 g3
          simp at e0 e1 e3
          subst e0 e1 e3
          have k0 := hcells 0 (by omega)
          have k1 := hcells 1 (by omega)
          have k2 := hcells 2 (by omega)
          have k3 := hcells 3 (by omega)
          have args : ∃ args : List (List Nd), ArgsAt W (fun _ => True) v2 args ∧ Tr.sizeA args ≤ Rows.uptoBulk y2.1 := by
            rcases DataW.trod_slice Try.underlying41 g2 with ⟨hv, hy2⟩ | ⟨a2, len2, cap2, elems2, rest2, n2, hn2, hv, hy2, _, hl2, hmx2, hlen2, hel2, _, _⟩
            · simp at hv
              subst hv
              exact ⟨[], args_none _ _, by simp [Tr.sizeA]⟩
            · simp at hv
              subst hv
              have each2 : ∀ j, j < len2 → ∃ gd : List Nd, ∃ y, elems2[j]? = some y ∧ Tr.sizeL gd + 1 ≤ Rows.uptoBulk y.1 ∧ (a2.spot = none → ∃ vg, W.cell? ⟨a2.block, a2.off + j, none⟩ = some vg ∧ NodesAt W (fun _ => True) vg gd) ∧ (j = 0 → a2.spot = none) := fun j hj => by
                have h2 := hel2 j hj
                rw [cellsArg6] at h2
                have hlt2 : j < elems2.length := by omega
                rw [List.getElem?_eq_getElem hlt2] at h2
                obtain ⟨cs2, hc2, hy'⟩ := Option.bind_eq_some_iff.1 h2
                obtain ⟨vg, gd, rfl, hg1, hg2⟩ := ih n2 (by omega) cs2 _ hy'
                obtain ⟨_, _, hcells2⟩ := World.cells?_some hc2
                have q0 := hcells2 0 (by omega)
                refine ⟨gd, _, List.getElem?_eq_getElem hlt2, hg2, fun hs => ⟨vg, ?_, hg1⟩, fun hj0 => ?_⟩
                · obtain ⟨ab, ao, sp⟩ := a2
                  simp only [] at hs
                  subst hs
                  rw [Go.WideShapes.add_plain, Go.WideShapes.add_plain] at q0
                  simpa using q0
                · subst hj0
                  obtain ⟨ab, ao, sp⟩ := a2
                  simp [Addr.add] at q0
                  exact World.cell?_spot q0
              obtain ⟨T2, hT2⟩ := Go.Deep.choose_lt each2
              refine ⟨(List.range len2).map T2, ⟨⟨some a2, cap2, by simp, by simpa using hl2⟩, by simp; omega, fun hp => ?_⟩, ?_⟩
              · simp at hp
                obtain ⟨y, _, _, hq, hs⟩ := hT2 0 hp
                have hsp := hs rfl
                obtain ⟨ab, ao, sp⟩ := a2
                simp only [] at hsp
                subst hsp
                refine ⟨ab, ao, cap2, by simp, trivial, RowA.of fun i g hi => ?_⟩
                have hil : i < len2 := by
                  rcases Nat.lt_or_ge i len2 with h' | h'
                  · exact h'
                  · rw [List.getElem?_eq_none (by simp; exact h')] at hi; cases hi
                rw [List.getElem?_map, List.getElem?_range hil] at hi
                have hti : T2 i = g := Option.some.inj hi
                obtain ⟨_, _, _, hq2, _⟩ := hT2 i hil
                rw [hti] at hq2
                exact hq2 rfl
              · have hb := bulk_args ((List.range len2).map T2) (elems2.map (·.1)) (by simp [hlen2]) (fun i g d h1 h2 => by
                  have hil : i < len2 := by
                    rcases Nat.lt_or_ge i len2 with h' | h'
                    · exact h'
                    · rw [List.getElem?_eq_none (by simp; exact h')] at h1; cases h1
                  rw [List.getElem?_map, List.getElem?_range hil] at h1
                  have hti : T2 i = g := Option.some.inj h1
                  obtain ⟨y, hy1, hy2', _⟩ := hT2 i hil
                  rw [List.getElem?_map, hy1] at h2
                  have hyd : y.1 = d := Option.some.inj h2
                  rw [hti, hyd] at hy2'
                  exact hy2')
                rw [hy2]
                simp only [Rows.uptoBulk]
                omega
          obtain ⟨args, hargs, hsz⟩ := args
          refine ⟨.mk c S.data.toList args A, _, List.getElem?_eq_getElem hlt, ?_, fun hs => ?_, fun hi0 => ?_⟩
          · rw [hxe]
            simp only [Tr.sizeN, List.map_cons, List.map_nil, Rows.uptoBulk, Rows.uptoBulkAll]
            omega
          · obtain ⟨ab, ao, sp⟩ := a
            simp only [] at hs
            subst hs
            rw [Go.WideShapes.add_plain, Go.WideShapes.add_plain] at k0 k1 k2 k3
            unfold NdAt
            exact ⟨v2, by simpa using k0, by rw [str_of]; simpa using k1, by simpa using k2, by simpa using k3, hargs⟩
          · subst hi0
            obtain ⟨ab, ao, sp⟩ := a
            simp [Addr.add] at k0
            exact World.cell?_spot k0
      obtain ⟨T, hT⟩ := Go.Deep.choose_lt each
      refine ⟨_, (List.range len).map T, rfl, ⟨⟨some a, cap, by simp, by simpa using hl⟩, by simp; omega, fun hp => ?_⟩, ?_⟩
      · simp at hp
        obtain ⟨y, _, _, hq, hs⟩ := hT 0 hp
        have hsp := hs rfl
        obtain ⟨ab, ao, sp⟩ := a
        simp only [] at hsp
        subst hsp
        refine ⟨ab, ao, cap, by simp, trivial, RowN.of fun i g hi => ?_⟩
        have hil : i < len := by
          rcases Nat.lt_or_ge i len with h' | h'
          · exact h'
          · rw [List.getElem?_eq_none (by simp; exact h')] at hi; cases hi
        rw [List.getElem?_map, List.getElem?_range hil] at hi
        have hti : T i = g := Option.some.inj hi
        obtain ⟨_, _, _, hq2, _⟩ := hT i hil
        rw [hti] at hq2
        exact hq2 rfl
      · have hb := bulk_nodes ((List.range len).map T) (elems.map (·.1)) (by simp [hlen]) (fun i g d h1 h2 => by
          have hil : i < len := by
            rcases Nat.lt_or_ge i len with h' | h'
            · exact h'
            · rw [List.getElem?_eq_none (by simp; exact h')] at h1; cases h1
          rw [List.getElem?_map, List.getElem?_range hil] at h1
          have hti : T i = g := Option.some.inj h1
          obtain ⟨y, hy1, hy2', _⟩ := hT i hil
          rw [List.getElem?_map, hy1] at h2
          have hyd : y.1 = d := Option.some.inj h2
          rw [hti, hyd] at hy2'
          exact hy2')
        simp only [Rows.uptoBulk]
        omega
/-- nodes, as they come in -/
theorem nodes_in {v : Value} {d : DataW H} {p : List MemPlace} (h : DataW.Trod enc Try.prog W base spare held 23 v d p) (hs : v.cells.toList = [v]) :
    ∃ ns : List Nd, NodesAt W (fun _ => True) v ns ∧ Tr.sizeL ns ≤ Rows.uptoBulk d := by
  obtain ⟨fuel, hf⟩ := h
  rw [hs] at hf
  obtain ⟨v', ns, e, h1, h2⟩ := nodes_open fuel fuel (Nat.le_refl _) _ _ hf
  injection e with e1
  subst e1
  exact ⟨ns, h1, by simp only [] at h2; omega⟩
end
end Go.Proofs.Ytimpadooknclkaa
