/-
  Nodes and tables of witnesses, as they come in: an argument of type []api.Node that can be read is a slice of nodes in memory; how many there are hangs on the bulk.
  What the visits keep of names (plain mathematics): all that notes name is there: labels, each of one place, and witnesses; notes' series are those that there are.
  A document in memory, read: its sides, their notes, chunks and paragraphs, its labels; the reference's Named.
  What the visits keep of spans (plain mathematics): paragraphs follow one another without a gap, and so do a stanza's lines, each with a word; each lemma has a word, and lies in one line or paragraph; two sides have as many chunks. What is bad has a code.
-/
import Derived.Test.YtfjplhgajoehfaaGreatDoorQFrame14
import Derived.Test.YtfjplhgajoehfaaGreatDoorQPres14
import Derived.Test.YtfjplhgajoehfaaGreatDoorQFix14
import Derived.Test.YtfjplhgajoehfaaGreatDoorQMath
set_option linter.unusedVariables false
set_option linter.unusedSimpArgs false
set_option maxRecDepth 100000
namespace Go.Proofs.YtfjplhgajoehfaaGreatDoor
open Go.ChangeShapes Go.WideShapes Go.ChangeAt Go.RowKit

theorem nd_fields : ∃ f0 f1 f2 f3 : Field, Tryz.prog.fieldsOf 89 = #[f0, f1, f2, f3] ∧ (f0.type = 4 ∧ f0.offset = 0) ∧ (f1.type = 9 ∧ f1.offset = 1) ∧ (f2.type = 87 ∧ f2.offset = 2) ∧ (f3.type = 3 ∧ f3.offset = 3) := by
  have h : (Tryz.prog.fieldsOf 89).toList.map (fun f => (f.name, f.type, f.offset)) = [("Command", 4, 0), ("Text", 9, 1), ("Args", 87, 2), ("At", 3, 3)] := by kernel_rfl
  generalize Tryz.prog.fieldsOf 89 = fs at h
  obtain ⟨l⟩ := fs
  have hl : l.length = 4 := by simpa using congrArg List.length h
  match l, hl with
  | [x, y, z, q], _ =>
    simp only [List.map_cons, List.map_nil, List.cons.injEq, Prod.mk.injEq] at h
    obtain ⟨⟨_, h1, h2⟩, ⟨_, h3, h4⟩, ⟨_, h5, h6⟩, ⟨_, h7, h8⟩, _⟩ := h
    exact ⟨x, y, z, q, rfl, ⟨h1, h2⟩, ⟨h3, h4⟩, ⟨h5, h6⟩, ⟨h7, h8⟩⟩
theorem uNd : Tryz.prog.underlying 89 = some (.struct (Tryz.prog.fieldsOf 89)) := by kernel_rfl
theorem cellsNd : Tryz.prog.cellsOf 89 = 4 := by kernel_rfl
theorem cellsBool6 : Tryz.prog.cellsOf 4 = 1 := by kernel_rfl
theorem cellsStr6 : Tryz.prog.cellsOf 9 = 1 := by kernel_rfl
theorem cellsInt6 : Tryz.prog.cellsOf 3 = 1 := by kernel_rfl
theorem cellsArgs6 : Tryz.prog.cellsOf 87 = 1 := by kernel_rfl
theorem cellsArg6 : Tryz.prog.cellsOf 22 = 1 := by kernel_rfl

theorem bulk_nodes {H : Type} : ∀ (l : List Nd) (ds : List (DataW H)), l.length = ds.length → (∀ (i : Nat) (n : Nd) (d : DataW H), l[i]? = some n → ds[i]? = some d → El.sizeN n ≤ Rows.uptoBulk d) → El.sizeL l ≤ Rows.uptoBulkAll ds
  | [], ds, _, _ => by unfold El.sizeL; omega
  | n :: r, [], h, _ => by simp at h
  | n :: r, d :: ds, h, hi => by
    have h0 := hi 0 n d rfl rfl
    have ih := bulk_nodes r ds (by simpa using h) (fun i n d h1 h2 => hi (i + 1) n d (by simpa using h1) (by simpa using h2))
    simp only [El.sizeL, Rows.uptoBulkAll]
    omega
theorem bulk_args {H : Type} : ∀ (l : List (List Nd)) (ds : List (DataW H)), l.length = ds.length → (∀ (i : Nat) (n : List Nd) (d : DataW H), l[i]? = some n → ds[i]? = some d → El.sizeL n + 1 ≤ Rows.uptoBulk d) → El.sizeA l ≤ Rows.uptoBulkAll ds
  | [], ds, _, _ => by unfold El.sizeA; omega
  | n :: r, [], h, _ => by simp at h
  | n :: r, d :: ds, h, hi => by
    have h0 := hi 0 n d rfl rfl
    have ih := bulk_args r ds (by simpa using h) (fun i n d h1 h2 => hi (i + 1) n d (by simpa using h1) (by simpa using h2))
    simp only [El.sizeA, Rows.uptoBulkAll]
    omega

instance : Inhabited Nd := ⟨.mk false [] [] 0⟩
section
variable {H : Type} {enc : TypeId × Value → H} {W : World} {base : Nat} {held : Bool} {spare : Nat → Bool}

theorem nodes_open : ∀ (N fuel : Nat), fuel ≤ N → ∀ (cs : List Value) (x : DataW H × List MemPlace), DataW.trod enc Tryz.prog W base spare held fuel 22 cs = some x →
    ∃ v ns, cs = [v] ∧ NodesAt W (fun _ => True) v ns ∧ El.sizeL ns + 1 ≤ Rows.uptoBulk x.1 := by
  intro N
  induction N with
  | zero =>
    intro fuel hf cs x h
    obtain rfl : fuel = 0 := by omega
    simp [DataW.trod] at h
  | succ N ih =>
    intro fuel hf cs x h
    rcases DataW.trod_slice Tryz.underlying22 h with ⟨rfl, rfl⟩ | ⟨a, len, cap, elems, rest, n, hn, rfl, rfl, _, hl, hm, hlen, hel, _, _⟩
    · exact ⟨_, [], rfl, nodes_none _ _, by simp [El.sizeL, Rows.uptoBulk]⟩
    · have each : ∀ i, i < len → ∃ nd : Nd, ∃ y, elems[i]? = some y ∧ El.sizeN nd ≤ Rows.uptoBulk y.1 ∧ (a.spot = none → NdAt W (fun _ => True) nd a.block (a.off + i * 4)) ∧ (i = 0 → a.spot = none) := fun i hi => by
        have h1 := hel i hi
        rw [cellsNd] at h1
        have hlt : i < elems.length := by omega
        rw [List.getElem?_eq_getElem hlt] at h1
        obtain ⟨cs', hc, hy⟩ := Option.bind_eq_some_iff.1 h1
        obtain ⟨f0, f1, f2, f3, hfs, ⟨t0, o0⟩, ⟨t1, o1⟩, ⟨t2, o2⟩, ⟨t3, o3⟩⟩ := nd_fields
        obtain ⟨xs, m, hm', hxe, hcl, hxl, hxi⟩ := DataW.trod_struct uNd hy
        rw [hfs] at hxl hxi
        rw [cellsNd] at hcl
        obtain ⟨_, _, hcells⟩ := World.cells?_some hc
        match cs', hcl, xs, hxl with
        | [v0, v1, v2, v3], _, [y0, y1, y2, y3], _ =>
          have g0 := hxi 0 f0 rfl
          have g1 := hxi 1 f1 rfl
          have g2 := hxi 2 f2 rfl
          have g3 := hxi 3 f3 rfl
          rw [t0, o0, cellsBool6] at g0
          rw [t1, o1, cellsStr6] at g1
          rw [t2, o2, cellsArgs6] at g2
          rw [t3, o3, cellsInt6] at g3
          simp at g0 g1 g2 g3
          obtain ⟨c, e0, rfl⟩ := DataW.trod_bool Tryz.underlying4 g0
          obtain ⟨S, e1, rfl, _⟩ := DataW.trod_string Tryz.underlying9 g1
          obtain ⟨A, e3, rfl, _⟩ := DataW.trod_int Tryz.underlying3 g3
          simp at e0 e1 e3
          subst e0 e1 e3
          have k0 := hcells 0 (by omega)
          have k1 := hcells 1 (by omega)
          have k2 := hcells 2 (by omega)
          have k3 := hcells 3 (by omega)
          have args : ∃ args : List (List Nd), ArgsAt W (fun _ => True) v2 args ∧ El.sizeA args ≤ Rows.uptoBulk y2.1 := by
            rcases DataW.trod_slice Tryz.underlying87 g2 with ⟨hv, hy2⟩ | ⟨a2, len2, cap2, elems2, rest2, n2, hn2, hv, hy2, _, hl2, hmx2, hlen2, hel2, _, _⟩
            · simp at hv
              subst hv
              exact ⟨[], args_none _ _, by simp [El.sizeA]⟩
            · simp at hv
              subst hv
              have each2 : ∀ j, j < len2 → ∃ gd : List Nd, ∃ y, elems2[j]? = some y ∧ El.sizeL gd + 1 ≤ Rows.uptoBulk y.1 ∧ (a2.spot = none → ∃ vg, W.cell? ⟨a2.block, a2.off + j, none⟩ = some vg ∧ NodesAt W (fun _ => True) vg gd) ∧ (j = 0 → a2.spot = none) := fun j hj => by
                have h2 := hel2 j hj
                rw [cellsArg6] at h2
                have hlt2 : j < elems2.length := by omega
                rw [List.getElem?_eq_getElem hlt2] at h2
                obtain ⟨cs2, hc2, hy'⟩ := Option.bind_eq_some_iff.1 h2
                obtain ⟨vg, gd, rfl, hg1, hg2⟩ := ih n2 (by omega) cs2 _ hy'
                obtain ⟨_, _, hcells2⟩ := World.cells?_some hc2
                have q0 := hcells2 0 (by omega)
                refine ⟨gd, _, List.getElem?_eq_getElem hlt2, hg2, fun hs => ⟨vg, ?_, hg1⟩, fun hj0 => ?_⟩
                · obtain ⟨ab, ao, sp⟩ := a2
                  simp only [] at hs
                  subst hs
                  rw [Go.WideShapes.add_plain, Go.WideShapes.add_plain] at q0
                  simpa using q0
                · subst hj0
                  obtain ⟨ab, ao, sp⟩ := a2
                  simp [Addr.add] at q0
                  exact World.cell?_spot q0
              obtain ⟨T2, hT2⟩ := Go.Deep.choose_lt each2
              refine ⟨(List.range len2).map T2, ⟨⟨some a2, cap2, by simp, by simpa using hl2⟩, by simp; omega, fun hp => ?_⟩, ?_⟩
              · simp at hp
                obtain ⟨y, _, _, hq, hs⟩ := hT2 0 hp
                have hsp := hs rfl
                obtain ⟨ab, ao, sp⟩ := a2
                simp only [] at hsp
                subst hsp
                refine ⟨ab, ao, cap2, by simp, trivial, RowA.of fun i g hi => ?_⟩
                have hil : i < len2 := by
                  rcases Nat.lt_or_ge i len2 with h' | h'
                  · exact h'
                  · rw [List.getElem?_eq_none (by simp; exact h')] at hi; cases hi
                rw [List.getElem?_map, List.getElem?_range hil] at hi
                have hti : T2 i = g := Option.some.inj hi
                obtain ⟨_, _, _, hq2, _⟩ := hT2 i hil
                rw [hti] at hq2
                exact hq2 rfl
              · have hb := bulk_args ((List.range len2).map T2) (elems2.map (·.1)) (by simp [hlen2]) (fun i g d h1 h2 => by
                  have hil : i < len2 := by
                    rcases Nat.lt_or_ge i len2 with h' | h'
                    · exact h'
                    · rw [List.getElem?_eq_none (by simp; exact h')] at h1; cases h1
                  rw [List.getElem?_map, List.getElem?_range hil] at h1
                  have hti : T2 i = g := Option.some.inj h1
                  obtain ⟨y, hy1, hy2', _⟩ := hT2 i hil
                  rw [List.getElem?_map, hy1] at h2
                  have hyd : y.1 = d := Option.some.inj h2
                  rw [hti, hyd] at hy2'
                  exact hy2')
                rw [hy2]
                simp only [Rows.uptoBulk]
                omega
          obtain ⟨args, hargs, hsz⟩ := args
          refine ⟨.mk c S.data.toList args A, _, List.getElem?_eq_getElem hlt, ?_, fun hs => ?_, fun hi0 => ?_⟩
          · rw [hxe]
            simp only [El.sizeN, List.map_cons, List.map_nil, Rows.uptoBulk, Rows.uptoBulkAll]
            omega
          · obtain ⟨ab, ao, sp⟩ := a
            simp only [] at hs
            subst hs
            rw [Go.WideShapes.add_plain, Go.WideShapes.add_plain] at k0 k1 k2 k3
            unfold NdAt
            exact ⟨v2, by simpa using k0, by rw [str_of]; simpa using k1, by simpa using k2, by simpa using k3, hargs⟩
          · subst hi0
            obtain ⟨ab, ao, sp⟩ := a
            simp [Addr.add] at k0
            exact World.cell?_spot k0
      obtain ⟨T, hT⟩ := Go.Deep.choose_lt each
      refine ⟨_, (List.range len).map T, rfl, ⟨⟨some a, cap, by simp, by simpa using hl⟩, by simp; omega, fun hp => ?_⟩, ?_⟩
      · simp at hp
        obtain ⟨y, _, _, hq, hs⟩ := hT 0 hp
        have hsp := hs rfl
        obtain ⟨ab, ao, sp⟩ := a
        simp only [] at hsp
        subst hsp
        refine ⟨ab, ao, cap, by simp, trivial, RowN.of fun i g hi => ?_⟩
        have hil : i < len := by
          rcases Nat.lt_or_ge i len with h' | h'
          · exact h'
          · rw [List.getElem?_eq_none (by simp; exact h')] at hi; cases hi
        rw [List.getElem?_map, List.getElem?_range hil] at hi
        have hti : T i = g := Option.some.inj hi
        obtain ⟨_, _, _, hq2, _⟩ := hT i hil
        rw [hti] at hq2
        exact hq2 rfl
      · have hb := bulk_nodes ((List.range len).map T) (elems.map (·.1)) (by simp [hlen]) (fun i g d h1 h2 => by
          have hil : i < len := by
            rcases Nat.lt_or_ge i len with h' | h'
            · exact h'
            · rw [List.getElem?_eq_none (by simp; exact h')] at h1; cases h1
          rw [List.getElem?_map, List.getElem?_range hil] at h1
          have hti : T i = g := Option.some.inj h1
          obtain ⟨y, hy1, hy2', _⟩ := hT i hil
          rw [List.getElem?_map, hy1] at h2
          have hyd : y.1 = d := Option.some.inj h2
          rw [hti, hyd] at hy2'
          exact hy2')
        simp only [Rows.uptoBulk]
        omega
/-- nodes, as they come in -/
theorem nodes_in {v : Value} {d : DataW H} {p : List MemPlace} (h : DataW.Trod enc Tryz.prog W base spare held 22 v d p) (hs : v.cells.toList = [v]) :
    ∃ ns : List Nd, NodesAt W (fun _ => True) v ns ∧ El.sizeL ns ≤ Rows.uptoBulk d := by
  obtain ⟨fuel, hf⟩ := h
  rw [hs] at hf
  obtain ⟨v', ns, e, h1, h2⟩ := nodes_open fuel fuel (Nat.le_refl _) _ _ hf
  injection e with e1
  subst e1
  exact ⟨ns, h1, by simp only [] at h2; omega⟩
theorem uSg14 : Tryz.prog.underlying 96 = some (.struct (Tryz.prog.fieldsOf 96)) := by kernel_rfl
theorem cSg14 : Tryz.prog.cellsOf 96 = 2 := by kernel_rfl
theorem fSg14 : (Tryz.prog.fieldsOf 96).toList.map (fun f => (f.type, f.offset)) = [(9, 0), (9, 1)] := by kernel_rfl
theorem fields14_2 {fs : Array Field} {a b : TypeId × Nat} (h : fs.toList.map (fun f => (f.type, f.offset)) = [a, b]) : ∃ f0 f1 : Field, fs = #[f0, f1] ∧ (f0.type = a.1 ∧ f0.offset = a.2) ∧ (f1.type = b.1 ∧ f1.offset = b.2) := by
  obtain ⟨l⟩ := fs
  have hl : l.length = 2 := by simpa using congrArg List.length h
  match l, hl with
  | [x, y], _ =>
    simp only [List.map_cons, List.map_nil, List.cons.injEq, and_true] at h
    obtain ⟨rfl, rfl⟩ := h
    exact ⟨x, y, rfl, ⟨rfl, rfl⟩, ⟨rfl, rfl⟩⟩
instance : Inhabited Sg.Sig := ⟨⟨[], []⟩⟩
theorem sg_open {fuel : Nat} {cs : List Value} {x : DataW H × List MemPlace} (h : DataW.trod enc Tryz.prog W base spare held fuel 96 cs = some x) : ∃ s : Sg.Sig, cs = sgC s ∧ x.1 = x.1 := by
  obtain ⟨f0, f1, hf, ⟨t0, o0⟩, ⟨t1, o1⟩⟩ := fields14_2 fSg14
  obtain ⟨xs, n, _, rfl, hl, hx, hi⟩ := DataW.trod_struct uSg14 h
  rw [hf] at hx hi
  rw [cSg14] at hl
  match cs, hl, xs, hx with
  | [v0, v1], _, [y0, y1], _ =>
    have g0 := hi 0 f0 rfl
    have g1 := hi 1 f1 rfl
    rw [t0, o0, cellsStr] at g0
    rw [t1, o1, cellsStr] at g1
    simp at g0 g1
    obtain ⟨S, e0, rfl, _⟩ := DataW.trod_string Tryz.underlying9 g0
    obtain ⟨T, e1, rfl, _⟩ := DataW.trod_string Tryz.underlying9 g1
    simp at e0 e1
    subst e0 e1
    exact ⟨⟨S.data.toList, T.data.toList⟩, rfl, rfl⟩
theorem sgs_in {v : Value} {d : DataW H} {p : List MemPlace} (h : DataW.Trod enc Tryz.prog W base spare held 23 v d p) (hs : v.cells.toList = [v]) : ∃ l, SgsAt W v l := by
  obtain ⟨fuel, hf⟩ := h
  rw [hs] at hf
  rcases DataW.trod_slice Tryz.underlying23 hf with ⟨hv, _⟩ | ⟨a, len, cap, elems, rest, n, hn, hv, _, _, hl, hm, hlen, hel, _, _⟩
  · simp at hv
    subst hv
    exact ⟨[], slc_none _ _ _⟩
  · simp at hv
    subst hv
    have each : ∀ i, i < len → ∃ y : Sg.Sig, ∀ j, j < 2 → W.cell? ((a.add (i * 2)).add j) = (sgC y)[j]? := fun i hi => by
      have h1 := hel i hi
      rw [cSg14] at h1
      have hlt : i < elems.length := by omega
      rw [List.getElem?_eq_getElem hlt] at h1
      obtain ⟨cs', hc, hy⟩ := Option.bind_eq_some_iff.1 h1
      obtain ⟨y, rfl, _⟩ := sg_open hy
      obtain ⟨_, _, hcells⟩ := World.cells?_some hc
      exact ⟨y, fun j hj => hcells j hj⟩
    obtain ⟨F, hF⟩ := Go.Deep.choose_lt each
    have hln : ((List.range len).map F).length = len := by simp
    refine ⟨(List.range len).map F, ⟨some a, cap, by rw [hln], by rw [hln]; exact hl⟩, by rw [hln]; omega, fun hp => ?_⟩
    rw [hln] at hp
    obtain ⟨b, off, spot⟩ := a
    have h00 := (hF 0 (by omega)) 0 (by omega)
    have hspot : spot = none := by
      obtain ⟨u, hu⟩ : ∃ u, (sgC (F 0))[0]? = some u := ⟨_, rfl⟩
      rw [hu] at h00
      have h01 : W.cell? ⟨b, off, spot⟩ = some u := by simpa [Addr.add] using h00
      exact World.cell?_spot h01
    subst hspot
    refine ⟨b, off, cap, by rw [hln], fun i t hi j u hj => ?_⟩
    have hil : i < len := by
      rcases Nat.lt_or_ge i len with h' | h'
      · exact h'
      · rw [List.getElem?_eq_none (by rw [hln]; exact h')] at hi; cases hi
    have hti : F i = t := by
      rw [List.getElem?_map, List.getElem?_range hil] at hi
      exact Option.some.inj hi
    have q := (hF i hil) j (by have := (List.getElem?_eq_some_iff.1 hj).1; rw [sgC_len] at this; exact this)
    rw [hti, hj, Go.WideShapes.add_plain, Go.WideShapes.add_plain] at q
    exact q
end
end Go.Proofs.YtfjplhgajoehfaaGreatDoor

set_option linter.unusedVariables false
set_option linter.unusedSimpArgs false
namespace Go.Proofs.YtfjplhgajoehfaaGreatDoor.El
open Go.Proofs.YtfjplhgajoehfaaGreatDoor

def Keep (I : St → Prop) (op : Op) : Prop := ∀ s n s', I s → op s n = .ok s' → I s'
theorem visit_keep {I : St → Prop} {op : Op} (h : Keep I op) : ∀ (l : List Nd) (s s' : St), I s → visit op s l = .ok s' → I s'
  | [], s, s', hi, e => by cases e; exact hi
  | n :: r, s, s', hi, e => by
    have e2 : (op s n).then (fun s1 => visit op s1 r) = .ok s' := e
    obtain ⟨s1, h1, h2⟩ := then_ok' e2
    exact visit_keep h r s1 s' (h s n s1 hi h1) h2
theorem take_keep {I : St → Prop} {wd : Option Op} {rules : Txt → Option (Nat × Op)} (hw : ∀ f, wd = some f → Keep I f) (hr : ∀ x k f, rules x = some (k, f) → Keep I f) : Keep I (take wd rules) := by
  intro s n s' hi h
  unfold take at h
  cases hc : isCmd n with
  | false =>
    rw [hc, if_pos rfl] at h
    cases wd with
    | none => cases h
    | some f => exact hw f rfl s n s' hi h
  | true =>
    rw [hc, if_neg (by simp)] at h
    cases hx : rules (text n) with
    | none => rw [hx] at h; cases h
    | some kf =>
      obtain ⟨k, f⟩ := kf
      rw [hx] at h
      simp only [] at h
      split at h
      · exact hr _ k f hx s n s' hi h
      · cases h
def SaidOk (t : List Txt) (x : Said) : Prop := (x.kind = 0 ∨ x.kind = 1 ∨ x.kind = 2) ∧ (x.kind = 1 → x.txt ∈ t)
def NoteOk (t : List Txt) (n : Note) : Prop := n.ser ≤ 10 ∧ ∀ x ∈ n.txt, SaidOk t x
def noSide : Side := ⟨[], [], []⟩
structure Good (t : List Txt) (s : St) : Prop where
  said : ∀ x ∈ s.said, SaidOk t x
  notes : ∀ n ∈ s.notes, NoteOk t n
  sides : ∀ d ∈ s.sides, ∀ n ∈ d.notes, NoteOk t n
  once : ∀ i x, s.labels[i]? = some x → x.name ∉ (s.labels.take i).map (·.name)
  labs : ∀ x ∈ s.labels, (x.side < s.sides.length ∧ x.word ≤ (s.sides.getD x.side noSide).words.length) ∨ (x.side = s.sides.length ∧ x.word ≤ s.words.length)
theorem Good.setSaid {t : List Txt} {s : St} (h : Good t s) {l : List Said} (hl : ∀ x ∈ l, SaidOk t x) : Good t { s with said := l } := ⟨hl, h.notes, h.sides, h.once, h.labs⟩
theorem good_say {t : List Txt} {s : St} (h : Good t s) {k : Int} {n : Nd} (hx : SaidOk t ⟨k, text n, loc n⟩) : Good t (say k s n) := h.setSaid (fun x hm => by
  rcases List.mem_append.1 hm with hm | hm
  · exact h.said x hm
  · rw [List.mem_singleton.1 hm]; exact hx)
theorem keys_keep (t : List Txt) : Keep (Good t) (keysTake t) :=
  take_keep (fun f hf => by
    cases hf
    intro s n s' hi e
    unfold keyOp at e
    split at e
    · rename_i hm
      cases e
      exact good_say hi ⟨.inr (.inl rfl), fun _ => hm⟩
    · cases e) (fun x k f e => by cases e)
theorem note_keep (t : List Txt) : Keep (Good t) (noteTake t) :=
  take_keep (fun f hf => by
    cases hf
    intro s n s' hi e
    cases e
    exact good_say hi ⟨.inl rfl, fun h => by cases h⟩) (fun x k f e => by
    unfold noteRules at e
    split at e
    · cases e
      intro s n s' hi e
      exact visit_keep (keys_keep t) _ _ _ hi e
    · split at e
      · cases e
        intro s n s' hi e
        obtain ⟨x, _, e2⟩ := one_ok' e
        cases e2
        exact good_say hi ⟨.inr (.inr rfl), fun h => by cases h⟩
      · cases e)
theorem idx_lt {l : List Txt} {x : Txt} {i : Nat} (h : idx l x = some i) : i < l.length := by
  induction l generalizing i with
  | nil => cases h
  | cons y r ih =>
    unfold idx at h
    split at h
    · cases h; simp
    · cases hr : idx r x with
      | none => rw [hr] at h; cases h
      | some j =>
        rw [hr] at h
        cases h
        have := ih hr
        simp only [List.length_cons]
        omega
theorem series_lt {x : Txt} {i : Nat} (h : series x = some i) : i ≤ 10 := by
  have := idx_lt h
  have e : seriesL.length = 11 := rfl
  omega
theorem foot_keep (t : List Txt) (i : Nat) (hi : i ≤ 10) : Keep (Good t) (footOp t i) := by
  intro s n s' h e
  obtain ⟨s1, e1, e2⟩ := then_ok' e
  cases e2
  have h1 := visit_keep (note_keep t) _ _ _ (h.setSaid (l := []) (by simp)) e1
  refine ⟨h1.said, fun m hm => ?_, h1.sides, h1.once, h1.labs⟩
  rcases List.mem_append.1 hm with hm | hm
  · exact h1.notes m hm
  · rw [List.mem_singleton.1 hm]; exact ⟨hi, h1.said⟩
theorem notes_keep (t : List Txt) : Keep (Good t) (notesTake t) :=
  take_keep (fun f hf => by cases hf) (fun x k f e => by
    unfold notesRules at e
    cases hs : series x with
    | none => rw [hs] at e; cases e
    | some i => rw [hs] at e; cases e; exact foot_keep t i (series_lt hs))
theorem ed_keep (t : List Txt) {inner : St → List Nd → Res} (hin : ∀ s l s', Good t s → inner s l = .ok s' → Good t s') : Keep (Good t) (edOp t inner) := by
  intro s n s' hi e
  obtain ⟨s1, e1, e2⟩ := then_ok' e
  split at e2
  · cases e2
  · have h1 := hin _ _ _ hi e1
    exact visit_keep (notes_keep t) _ _ _ (show Good t { s1 with fr := s.words.length, til := s1.words.length } from ⟨h1.said, h1.notes, h1.sides, h1.once, h1.labs⟩) e2
theorem textOf_keep (t : List Txt) {inner : St → List Nd → Res} (hin : ∀ s l s', Good t s → inner s l = .ok s' → Good t s') : Keep (Good t) (textOf t inner) :=
  take_keep (fun f hf => by
    cases hf
    intro s n s' hi e
    unfold wordOp at e
    split at e
    · cases e
    · cases e
      refine ⟨hi.said, hi.notes, hi.sides, hi.once, fun x hx => ?_⟩
      rcases hi.labs x hx with h | ⟨h1, h2⟩
      · exact .inl h
      · exact .inr ⟨h1, by simp only [List.length_append]; omega⟩) (fun x k f e => by
    unfold textRules at e
    split at e
    · cases e; exact ed_keep t hin
    · split at e
      · cases e
        intro s n s' hi e
        obtain ⟨x, _, e2⟩ := one_ok' e
        split at e2
        · cases e2
        · rename_i hnew
          cases e2
          refine ⟨hi.said, hi.notes, hi.sides, fun i y hy => ?_, fun y hy => ?_⟩
          · by_cases hlt : i < s.labels.length
            · rw [List.getElem?_append_left hlt] at hy
              rw [List.take_append_of_le_length (by omega)]
              exact hi.once i y hy
            · rw [List.getElem?_append_right (by omega)] at hy
              obtain ⟨h0, hy2⟩ := List.getElem?_eq_some_iff.1 hy
              simp at h0
              have h0' : i = s.labels.length := by omega
              subst h0'
              rw [List.take_left']
              · simp at hy2
                rw [← hy2]
                exact hnew
              · rfl
          · rcases List.mem_append.1 hy with hy | hy
            · exact hi.labs y hy
            · rw [List.mem_singleton.1 hy]; exact .inr ⟨rfl, Nat.le_refl _⟩
      · cases e)
theorem text_keep (t : List Txt) : ∀ k, Keep (Good t) (textTake t k)
  | 0 => textOf_keep t (fun s l s' hi e => by cases e; exact hi)
  | k + 1 => textOf_keep t (fun s l s' hi e => visit_keep (text_keep t k) _ _ _ hi e)
theorem line_keep (t : List Txt) (k : Nat) : Keep (Good t) (lineOp t k) := by
  intro s n s' hi e
  obtain ⟨s1, e1, e2⟩ := then_ok' e
  split at e2
  · cases e2
  · cases e2
    have h1 := visit_keep (text_keep t k) _ _ _ hi e1
    exact ⟨h1.said, h1.notes, h1.sides, h1.once, h1.labs⟩
theorem stanza_keep (t : List Txt) (k : Nat) : Keep (Good t) (stanzaTake t k) :=
  take_keep (fun f hf => by cases hf) (fun x j f e => by
    unfold stanzaRules at e
    split at e
    · cases e; exact line_keep t k
    · cases e)
theorem good_ends {t : List Txt} {s : St} (h : Good t s) (l : List Nat) : Good t { s with ends := l } := ⟨h.said, h.notes, h.sides, h.once, h.labs⟩
theorem chunkTake_keep (t : List Txt) (k : Nat) : Keep (Good t) (chunkTake t k) :=
  take_keep (fun f hf => by cases hf) (fun x j f e => by
    unfold chunkRules at e
    split at e
    · cases e
      intro s n s' hi e
      obtain ⟨s1, e1, e2⟩ := then_ok' e
      cases e2
      have h1 := line_keep t k _ _ _ (good_ends hi []) e1
      exact ⟨h1.said, h1.notes, h1.sides, h1.once, h1.labs⟩
    · split at e
      · cases e
        intro s n s' hi e
        obtain ⟨s1, e1, e2⟩ := then_ok' e
        split at e2
        · cases e2
        · cases e2
          have h1 := visit_keep (stanza_keep t k) _ _ _ (good_ends hi []) e1
          exact ⟨h1.said, h1.notes, h1.sides, h1.once, h1.labs⟩
      · split at e
        · cases e
          intro s n s' hi e
          obtain ⟨x, _, e2⟩ := one_ok' e
          split at e2
          · cases e2
          · cases e2
            exact ⟨hi.said, hi.notes, hi.sides, hi.once, hi.labs⟩
        · cases e)
theorem chunkOp_keep (t : List Txt) (k : Nat) : Keep (Good t) (chunkOp t k) := by
  intro s n s' hi e
  obtain ⟨s1, e1, e2⟩ := then_ok' e
  split at e2
  · cases e2
  · cases e2
    have h1 := visit_keep (chunkTake_keep t k) _ _ _ (show Good t { s with paras := [], num := 0 } from ⟨hi.said, hi.notes, hi.sides, hi.once, hi.labs⟩) e1
    exact ⟨h1.said, h1.notes, h1.sides, h1.once, h1.labs⟩
theorem side_keep (t : List Txt) (k : Nat) : Keep (Good t) (sideTake t k) :=
  take_keep (fun f hf => by cases hf) (fun x j f e => by
    unfold sideRules at e
    split at e
    · cases e; exact chunkOp_keep t k
    · cases e)
/-- between two sides -/
structure Whole (t : List Txt) (s : St) : Prop where
  said : ∀ x ∈ s.said, SaidOk t x
  sides : ∀ d ∈ s.sides, ∀ n ∈ d.notes, NoteOk t n
  once : ∀ i x, s.labels[i]? = some x → x.name ∉ (s.labels.take i).map (·.name)
  labs : ∀ x ∈ s.labels, x.side < s.sides.length ∧ x.word ≤ (s.sides.getD x.side noSide).words.length
theorem getD_snoc {l : List Side} {d : Side} {k : Nat} (h : k < l.length) : (l ++ [d]).getD k noSide = l.getD k noSide := by
  rw [List.getD_eq_getElem?_getD, List.getD_eq_getElem?_getD, List.getElem?_append_left h]
theorem getD_last (l : List Side) (d : Side) : (l ++ [d]).getD l.length noSide = d := by
  rw [List.getD_eq_getElem?_getD, List.getElem?_append_right (Nat.le_refl _), Nat.sub_self]; rfl
theorem source_keep (t : List Txt) (k : Nat) : Keep (Whole t) (sourceTake t k) := by
  intro s n s' hi e
  obtain ⟨e0, _, _, _⟩ := source_one e
  obtain ⟨s1, e1, e2⟩ := then_ok' e0
  split at e2
  · cases e2
  · cases e2
    have h1 := visit_keep (side_keep t k) _ _ _ (show Good t { s with chunks := [], words := [], notes := [] } from ⟨hi.said, by simp, hi.sides, hi.once, fun x hx => .inl (hi.labs x hx)⟩) e1
    refine ⟨h1.said, fun d hd => ?_, h1.once, fun x hx => ?_⟩
    · rcases List.mem_append.1 hd with hd | hd
      · exact h1.sides d hd
      · rw [List.mem_singleton.1 hd]; exact h1.notes
    · rcases h1.labs x hx with ⟨h2, h3⟩ | ⟨h2, h3⟩
      · exact ⟨by simp only [List.length_append, List.length_singleton]; omega, by simp only []; rw [getD_snoc h2]; exact h3⟩
      · refine ⟨by simp only [List.length_append, List.length_singleton]; omega, ?_⟩
        simp only []
        rw [h2, getD_last]
        exact h3
theorem refSaid_none {ls : List Txt} : ∀ {l : List Said}, refSaid ls l = none → ∀ x ∈ l, x.kind = 2 → x.txt ∈ ls
  | [], _, x, hx, _ => by cases hx
  | y :: r, h, x, hx, hk => by
    unfold refSaid at h
    split at h
    · cases h
    · rename_i hy
      rcases List.mem_cons.1 hx with rfl | hx
      · by_cases hm : x.txt ∈ ls
        · exact hm
        · exact absurd ⟨hk, hm⟩ hy
      · exact refSaid_none h x hx hk
theorem refNotes_none {ls : List Txt} : ∀ {l : List Note}, refNotes ls l = none → ∀ n ∈ l, ∀ x ∈ n.txt, x.kind = 2 → x.txt ∈ ls
  | [], _, n, hn, _, _, _ => by cases hn
  | m :: r, h, n, hn, x, hx, hk => by
    unfold refNotes at h
    split at h
    · cases h
    · rename_i hm
      rcases List.mem_cons.1 hn with rfl | hn
      · exact refSaid_none hm x hx hk
      · exact refNotes_none h n hn x hx hk
theorem refSides_none {ls : List Txt} : ∀ {l : List Side}, refSides ls l = none → ∀ d ∈ l, ∀ n ∈ d.notes, ∀ x ∈ n.txt, x.kind = 2 → x.txt ∈ ls
  | [], _, d, hd, _, _, _, _, _ => by cases hd
  | m :: r, h, d, hd, n, hn, x, hx, hk => by
    unfold refSides at h
    split at h
    · cases h
    · rename_i hm
      rcases List.mem_cons.1 hd with rfl | hd
      · exact refNotes_none hm n hn x hx hk
      · exact refSides_none h d hd n hn x hx hk
/-- what a document keeps of names -/
structure NamesOk (t : List Txt) (s : St) : Prop where
  once : ∀ i x, s.labels[i]? = some x → x.name ∉ (s.labels.take i).map (·.name)
  labs : ∀ x ∈ s.labels, x.side < s.sides.length ∧ x.word ≤ (s.sides.getD x.side noSide).words.length
  sides : ∀ d ∈ s.sides, ∀ n ∈ d.notes, NoteOk t n ∧ ∀ x ∈ n.txt, x.kind = 2 → x.txt ∈ s.labels.map (·.name)
theorem names_made {t : List Txt} {K : Nat} {l : List Nd} {s : St} (h : made t K l = .ok s) : NamesOk t s := by
  obtain ⟨s1, e1, e2⟩ := then_ok' h
  have h1 := visit_keep (source_keep t K) _ _ _ (show Whole t St.none from ⟨by simp [St.none], by simp [St.none], by simp [St.none], by simp [St.none]⟩) e1
  have key : checkRefs s1 = .ok s → NamesOk t s := fun e => by
    unfold checkRefs at e
    split at e
    · cases e
    · rename_i hr
      cases e
      exact ⟨h1.once, h1.labs, fun d hd n hn => ⟨h1.sides d hd n hn, refSides_none hr d hd n hn⟩⟩
  unfold finish at e2
  split at e2
  · split at e2
    · exact key e2
    · cases e2
  · split at e2
    · exact key e2
    · cases e2
end Go.Proofs.YtfjplhgajoehfaaGreatDoor.El

set_option linter.unusedVariables false
set_option linter.unusedSimpArgs false
namespace Go.Proofs.YtfjplhgajoehfaaGreatDoor
open Go.RowKit
attribute [local irreducible] El.made El.visit El.finish

def SidesAt (w : World) (v : Value) (ss : List El.Side) : Prop := ∃ K, SidesK K w v ss
def NotesAt (w : World) (v : Value) (ns : List El.Note) : Prop := ∃ K, NotesK K w v ns
def ChunksAt (w : World) (v : Value) (cs : List (List El.Para)) : Prop := ∃ K, ChunksK K w v cs
def ParasAt (w : World) (v : Value) (ps : List El.Para) : Prop := ∃ K, ParasK K w v ps
theorem SidesAt.mono {w w' : World} {v : Value} {ss : List El.Side} (h : SidesAt w v ss) (hb : Below w.heap.size w w') : SidesAt w' v ss := by
  obtain ⟨K, h⟩ := h
  exact ⟨K, SidesK.move (fun b _ => stays_below hb b) (fun _ h => h) h⟩
theorem NotesAt.mono {w w' : World} {v : Value} {ss : List El.Note} (h : NotesAt w v ss) (hb : Below w.heap.size w w') : NotesAt w' v ss := by
  obtain ⟨K, h⟩ := h
  exact ⟨K, NotesK.move (fun b _ => stays_below hb b) (fun _ h => h) h⟩
theorem ChunksAt.mono {w w' : World} {v : Value} {ss : List (List El.Para)} (h : ChunksAt w v ss) (hb : Below w.heap.size w w') : ChunksAt w' v ss := by
  obtain ⟨K, h⟩ := h
  exact ⟨K, ChunksK.move (fun b _ => stays_below hb b) (fun _ h => h) h⟩
theorem ParasAt.mono {w w' : World} {v : Value} {ss : List El.Para} (h : ParasAt w v ss) (hb : Below w.heap.size w w') : ParasAt w' v ss := by
  obtain ⟨K, h⟩ := h
  exact ⟨K, ParasK.move (fun b _ => stays_below hb b) (fun _ h => h) h⟩
theorem slcK_len {α : Type} {f : α → List Value} {k : Nat} {K : Nat → Prop} {w : World} {h : Hd} {l : List α} (hs : SlcK f k K w h.v l) : h.n = l.length := by
  obtain ⟨⟨a, cap, e, _⟩, _⟩ := hs
  unfold Hd.v at e
  injection e
theorem sides_head {w : World} {v : Value} {ss : List El.Side} (h : SidesAt w v ss) : ∃ a cap, v = .slice a ss.length cap ∧ ss.length ≤ maxLen := by
  obtain ⟨K, rs, r1, r2⟩ := h
  obtain ⟨⟨a, cap, e, _⟩, hm, _⟩ := r1
  rw [r2.1] at e hm
  exact ⟨a, cap, e, hm⟩
/-- a side of the document -/
structure SideCells (w : World) (b o : Nat) (d : El.Side) (pc pw pn : Option Addr) (cc cw cn : Nat) : Prop where
  c0 : w.cell? ⟨b, o, none⟩ = some (.slice pc d.chunks.length cc)
  c1 : w.cell? ⟨b, o + 1, none⟩ = some (.slice pw d.words.length cw)
  c2 : w.cell? ⟨b, o + 2, none⟩ = some (.slice pn d.notes.length cn)
  chunks : ChunksAt w (.slice pc d.chunks.length cc) d.chunks
  notes : NotesAt w (.slice pn d.notes.length cn) d.notes
theorem SideCells.mono {w w' : World} {b o : Nat} {d : El.Side} {pc pw pn : Option Addr} {cc cw cn : Nat} (h : SideCells w b o d pc pw pn cc cw cn) (hb : Below w.heap.size w w') : SideCells w' b o d pc pw pn cc cw cn :=
  ⟨cell_below hb h.c0, cell_below hb h.c1, cell_below hb h.c2, h.chunks.mono hb, h.notes.mono hb⟩
theorem chunksK_len {K : Nat → Prop} {w : World} {h : Hd} {cs : List (List El.Para)} (hs : ChunksK K w h.v cs) : h.n = cs.length := by
  obtain ⟨rs, r1, r2⟩ := hs
  rw [slcK_len r1, r2.1]
theorem notesK_len {K : Nat → Prop} {w : World} {h : Hd} {cs : List El.Note} (hs : NotesK K w h.v cs) : h.n = cs.length := by
  obtain ⟨rs, r1, r2⟩ := hs
  rw [slcK_len r1, r2.1]
theorem parasK_len {K : Nat → Prop} {w : World} {h : Hd} {cs : List El.Para} (hs : ParasK K w h.v cs) : h.n = cs.length := by
  obtain ⟨rs, r1, r2⟩ := hs
  rw [slcK_len r1, r2.1]
theorem side_get {w : World} {v : Value} {ss : List El.Side} (h : SidesAt w v ss) {i : Nat} {d : El.Side} (hi : ss[i]? = some d) : ∃ b o cap, v = .slice (some ⟨b, o, none⟩) ss.length cap ∧ ∃ pc pw pn cc cw cn, SideCells w b (o + i * 3) d pc pw pn cc cw cn := by
  obtain ⟨K, rs, r1, r2⟩ := h
  have hlt := (List.getElem?_eq_some_iff.1 hi).1
  obtain ⟨_, _, r13⟩ := r1
  obtain ⟨b, o, cap, e, _, hc⟩ := r13 (by rw [r2.1]; omega)
  obtain ⟨r, hr, q1, q2, q3⟩ := r2.get hi
  have hcell := hc i r hr
  rw [r2.1] at e
  refine ⟨b, o, cap, e, r.c.a, r.w.a, r.n.a, r.c.cap, r.w.cap, r.n.cap, ?_⟩
  have e0 : w.cell? ⟨b, o + i * 3 + 0, none⟩ = some r.c.v := hcell 0 _ rfl
  have e1 : w.cell? ⟨b, o + i * 3 + 1, none⟩ = some r.w.v := hcell 1 _ rfl
  have e2 : w.cell? ⟨b, o + i * 3 + 2, none⟩ = some r.n.v := hcell 2 _ rfl
  have l0 := chunksK_len q1
  have l1 := slcK_len q2
  have l2 := notesK_len q3
  have v0 : r.c.v = .slice r.c.a d.chunks.length r.c.cap := by unfold Hd.v; rw [l0]
  have v1 : r.w.v = .slice r.w.a d.words.length r.w.cap := by unfold Hd.v; rw [l1]
  have v2 : r.n.v = .slice r.n.a d.notes.length r.n.cap := by unfold Hd.v; rw [l2]
  rw [v0] at e0 q1
  rw [v1] at e1
  rw [v2] at e2 q3
  exact ⟨e0, e1, e2, ⟨K, q1⟩, ⟨K, q3⟩⟩
/-- a note of a side -/
structure NoteCells (w : World) (b o : Nat) (n : El.Note) (pt : Option Addr) (ct : Nat) : Prop where
  c0 : w.cell? ⟨b, o, none⟩ = some (.int .i64 n.ser)
  c1 : w.cell? ⟨b, o + 1, none⟩ = some (.int .i64 n.fr)
  c2 : w.cell? ⟨b, o + 2, none⟩ = some (.int .i64 n.til)
  c3 : w.cell? ⟨b, o + 3, none⟩ = some (.slice pt n.txt.length ct)
  c4 : w.cell? ⟨b, o + 4, none⟩ = some (.int .i64 n.loc)
  txt : SlcAt saC 3 w (.slice pt n.txt.length ct) n.txt
theorem NoteCells.mono {w w' : World} {b o : Nat} {n : El.Note} {pt : Option Addr} {ct : Nat} (h : NoteCells w b o n pt ct) (hb : Below w.heap.size w w') : NoteCells w' b o n pt ct :=
  ⟨cell_below hb h.c0, cell_below hb h.c1, cell_below hb h.c2, cell_below hb h.c3, cell_below hb h.c4, SlcAt.mono h.txt hb⟩
theorem note_get {w : World} {v : Value} {ns : List El.Note} (h : NotesAt w v ns) {i : Nat} {n : El.Note} (hi : ns[i]? = some n) : ∃ b o cap, v = .slice (some ⟨b, o, none⟩) ns.length cap ∧ ∃ pt ct, NoteCells w b (o + i * 5) n pt ct := by
  obtain ⟨K, rs, r1, r2⟩ := h
  have hlt := (List.getElem?_eq_some_iff.1 hi).1
  obtain ⟨_, _, r13⟩ := r1
  obtain ⟨b, o, cap, e, _, hc⟩ := r13 (by rw [r2.1]; omega)
  obtain ⟨r, hr, q1, q2, q3, q4, q5⟩ := r2.get hi
  have hcell := hc i r hr
  rw [r2.1] at e
  refine ⟨b, o, cap, e, r.t.a, r.t.cap, ?_⟩
  have e0 : w.cell? ⟨b, o + i * 5 + 0, none⟩ = some (.int .i64 r.ser) := hcell 0 _ rfl
  have e1 : w.cell? ⟨b, o + i * 5 + 1, none⟩ = some (.int .i64 r.fr) := hcell 1 _ rfl
  have e2 : w.cell? ⟨b, o + i * 5 + 2, none⟩ = some (.int .i64 r.til) := hcell 2 _ rfl
  have e3 : w.cell? ⟨b, o + i * 5 + 3, none⟩ = some r.t.v := hcell 3 _ rfl
  have e4 : w.cell? ⟨b, o + i * 5 + 4, none⟩ = some (.int .i64 r.loc) := hcell 4 _ rfl
  have l3 := slcK_len q5
  have v3 : r.t.v = .slice r.t.a n.txt.length r.t.cap := by unfold Hd.v; rw [l3]
  rw [v3] at e3 q5
  rw [q1] at e0
  rw [q2] at e1
  rw [q3] at e2
  rw [q4] at e4
  exact ⟨e0, e1, e2, e3, e4, q5.at⟩
theorem notes_len {w : World} {v : Value} {ns : List El.Note} (h : NotesAt w v ns) : ns.length ≤ maxLen := by
  obtain ⟨K, rs, r1, r2⟩ := h
  obtain ⟨_, hm, _⟩ := r1
  rw [r2.1] at hm
  exact hm
/-! ### labels -/
theorem laC_len (x : El.Lab) : (laC x).length = 3 := rfl
theorem saC_len (x : El.Said) : (saC x).length = 3 := rfl
theorem lab_cells {w : World} {b o : Nat} {x : El.Lab} (h : RecAt w b o (laC x)) : w.cell? ⟨b, o, none⟩ = some (.string (str x.name)) ∧ w.cell? ⟨b, o + 1, none⟩ = some (.int .i64 x.side) ∧ w.cell? ⟨b, o + 2, none⟩ = some (.int .i64 x.word) := ⟨h 0 _ rfl, h 1 _ rfl, h 2 _ rfl⟩
theorem said_cells {w : World} {b o : Nat} {x : El.Said} (h : RecAt w b o (saC x)) : w.cell? ⟨b, o, none⟩ = some (.int .i64 x.kind) ∧ w.cell? ⟨b, o + 1, none⟩ = some (.string (str x.txt)) ∧ w.cell? ⟨b, o + 2, none⟩ = some (.int .i64 x.loc) := ⟨h 0 _ rfl, h 1 _ rfl, h 2 _ rfl⟩
theorem elemLa : Tryz.prog.elem 27 = 57 := by kernel_rfl
theorem sizeLa (wx : World) : (sizeOf 57).run Tryz.prog wx = .ok 3 wx := by kernel_rfl
theorem run_headLa (a : Option Addr) (n k cap : Nat) (h : k ≤ cap) (wx : World) : (Instr.slice 27 (.slice a n cap) none (some (.int .i64 (k : Int))) none).run Tryz.prog wx = .ok (.slice a k cap) wx := by
  rw [run_slice_h (ht := by rw [elemLa]; exact Tryz.underlying27) (h0 := by omega) (h2 := by omega), elemLa, sizeLa]
  cases a <;> simp [Result.andThen, sliced, Addr.add]
theorem slc_head14 {α : Type} {f : α → List Value} {m : Nat} {w : World} {a : Option Addr} {cap : Nat} {l : List α} (h : SlcAt f m w (.slice a l.length cap) l) (k : Nat) (hk : k ≤ l.length) : SlcAt f m w (.slice a k cap) (l.take k) := by
  obtain ⟨⟨a', c', e, hc⟩, hm, hx⟩ := h
  injection e with e1 e2 e3
  subst e1 e3
  have hl : (l.take k).length = k := by rw [List.length_take]; omega
  refine ⟨⟨a, cap, by rw [hl], by rw [hl]; omega⟩, by rw [hl]; omega, fun hp => ?_⟩
  rw [hl] at hp
  obtain ⟨b, o, c', e, hq⟩ := hx (by omega)
  injection e with e1 e2 e3
  subst e1 e3
  refine ⟨b, o, cap, by rw [hl], fun i x hi => hq i x ?_⟩
  rw [List.getElem?_take] at hi
  split at hi
  · exact hi
  · cases hi
def named (l : List El.Lab) (x : List UInt8) : Bool := decide (x ∈ l.map (·.name))
def IsV (v : Value) (w : World) (e : Ending) (w' : World) : Prop := e = .returned v ∧ w = w'
set_option maxHeartbeats 4000000 in
set_option maxRecDepth 100000 in
theorem refNamed_any (v : Value) (l : List El.Lab) (x : List UInt8) (w : World) (h : SlcAt laC 3 w v l) : Calls Tryz.prog 22 #[v, .string (str x)] w (IsV (.bool (named l x)) w) := by
  have HA := Lib.hid h
  obtain ⟨⟨a, cp, rfl, hcap⟩, hm, _⟩ := h
  have hza : l.length ≤ 9223372036854775807 := by unfold maxLen at hm; omega
  obtain ⟨n, hn⟩ : ∃ n, n = l.length := ⟨_, rfl⟩
  have Hn := Lib.hid hn
  rw [← hn] at HA hza ⊢
  obtain ⟨q, hq⟩ : ∃ q, q = named l x := ⟨_, rfl⟩
  have HQ := Lib.hid hq
  rw [← hq]
  have H0 : Hid (∀ y ∈ l.take 0, y.name ≠ x) := Lib.hid (by simp)
  clear hm hcap hn hq
  go_enter Tryz.func22, Tryz.ntmps22
  go_wp2_with fail
  go_loopw [5] (fun iv wr => ∃ k : Nat, k ≤ n ∧ iv = .int .i64 k ∧ Hid (∀ y ∈ l.take k, y.name ≠ x) ∧ wr = w) (fun iv _ => n - (intOf iv).toNat)
  case atStart => exact ⟨0, Nat.zero_le _, rfl, H0, rfl⟩
  case round =>
    obtain ⟨k, hk, rfl, HT, rfl⟩ := hrel
    clear H0
    by_cases hlt : k < n
    · obtain ⟨b1, o1, d1, e1, r1⟩ := HA.out.2.2 (by rw [← Hn.out]; omega)
      rw [← Hn.out] at e1
      obtain ⟨rfl, rfl⟩ : a = some ⟨b1, o1, none⟩ ∧ cp = d1 := by injection e1 with a1 a2 a3; exact ⟨a1, a3⟩
      obtain ⟨y, hy⟩ : ∃ y, l[k]? = some y := ⟨_, List.getElem?_eq_getElem (by rw [← Hn.out]; exact hlt)⟩
      obtain ⟨y0, y1, y2⟩ := lab_cells (r1 k y hy)
      have k0 : (0 : Int) ≤ (k : Int) := by omega
      have kl : (k : Int) < (n : Int) := by omega
      have hq := toList_beq y.name x
      by_cases he : y.name = x
      · have HE : Hid (q = true) := Lib.hid (HQ.out.trans (decide_eq_true (by rw [← he]; exact List.mem_map_of_mem (List.mem_of_getElem? hy))))
        rw [decide_eq_true he] at hq
        clear r1 e1 hy he
        go_wp2
        go_ret
        rw [HE.out]
        exact ⟨rfl, rfl⟩
      · have HN : Hid (∀ y ∈ l.take (k + 1), y.name ≠ x) := Lib.hid (fun z hz => by
          rw [It.take_snoc hy] at hz
          rcases List.mem_append.1 hz with hz | hz
          · exact HT.out z hz
          · simp at hz; subst hz; exact he)
        rw [decide_eq_false he] at hq
        clear r1 e1 hy he
        go_wp2
        go_roundw
        case rel => exact ⟨k + 1, by omega, by go_num, HN, trivial⟩
        case measure => simp [intOf]; omega
    · have HE : Hid (q = false) := Lib.hid (HQ.out.trans (decide_eq_false (fun hm => by
        obtain ⟨y, hy, e⟩ := List.mem_map.1 hm
        have := HT.out
        rw [List.take_of_length_le (by rw [← Hn.out]; omega)] at this
        exact this y hy e)))
      go_wp2
      go_ret
      rw [HE.out]
      exact ⟨rfl, rfl⟩
/-! ### what a call of Make leaves, as far as names go -/
theorem names_none (t : List (List UInt8)) : El.NamesOk t El.St.none := ⟨by simp [El.St.none], by simp [El.St.none], by simp [El.St.none]⟩
theorem doc_names {keys : List (List UInt8)} {l : List El.Nd} {w w' : World} {e : Ending} (h : MakePost keys l w e w') : Below w.heap.size w w' ∧ ∃ vs vl c a s, e = .returned (.tuple #[.agg #[vs, vl], .agg #[.int .i64 c, .int .i64 a]]) ∧ SidesAt w' vs s.sides ∧ SlcAt laC 3 w' vl s.labels ∧ El.NamesOk keys s := by
  have h := h.res
  obtain ⟨R, hR⟩ : ∃ R, R = El.made keys El.deepest l := ⟨_, rfl⟩
  rw [← hR] at h
  obtain ⟨hb, h⟩ := h
  refine ⟨hb, ?_⟩
  cases R with
  | ok s =>
    obtain ⟨vs, vl, K, rfl, hS, hL, _⟩ := h
    exact ⟨vs, vl, 0, 0, s, rfl, ⟨K, hS⟩, hL.at, El.names_made hR.symm⟩
  | bad c a =>
    exact ⟨_, _, c, a, El.St.none, h, ⟨fun _ => True, [], slcK_none _ _ _ _, Each.nil _⟩, ⟨⟨none, 0, rfl, Nat.le_refl _⟩, by unfold maxLen; simp [El.St.none], fun h => by simp [El.St.none] at h⟩, names_none _⟩
end Go.Proofs.YtfjplhgajoehfaaGreatDoor

set_option linter.unusedVariables false
set_option linter.unusedSimpArgs false
namespace Go.Proofs.YtfjplhgajoehfaaGreatDoor.El
open Go.Proofs.YtfjplhgajoehfaaGreatDoor

def InP (ns : List Note) (a e : Nat) : Prop := ∀ n ∈ ns, a ≤ n.fr → n.fr < e → n.til ≤ e ∧ n.fr < n.til
def EndsOk (ns : List Note) : Nat → List Nat → Nat → Prop
  | a, [], b => a = b
  | a, e :: r, b => a < e ∧ InP ns a e ∧ EndsOk ns e r b
def ParasOk (ns : List Note) : Nat → List Para → Nat → Prop
  | a, [], b => a = b
  | a, p :: r, b => p.fr = a ∧ p.ends ≠ [] ∧ (p.verse = false → p.ends.length = 1) ∧ p.num ≤ 9999 ∧ ∃ m, EndsOk ns a p.ends m ∧ ParasOk ns m r b
def ChunksOk (ns : List Note) : Nat → List (List Para) → Nat → Prop
  | a, [], b => a = b
  | a, c :: r, b => c ≠ [] ∧ ∃ m, ParasOk ns a c m ∧ ChunksOk ns m r b
def SideOk (d : Side) : Prop := d.chunks ≠ [] ∧ ChunksOk d.notes 0 d.chunks d.words.length
theorem ends_le {ns : List Note} : ∀ {l : List Nat} {a b : Nat}, EndsOk ns a l b → a ≤ b
  | [], a, b, h => by unfold EndsOk at h; omega
  | e :: r, a, b, h => by
    unfold EndsOk at h
    have := ends_le h.2.2
    omega
theorem ends_more {ns N : List Note} : ∀ {l : List Nat} {a b : Nat}, EndsOk ns a l b → (∀ n ∈ N, b ≤ n.fr) → EndsOk (ns ++ N) a l b
  | [], a, b, h, _ => h
  | e :: r, a, b, h, hN => by
    unfold EndsOk at h ⊢
    obtain ⟨h1, h2, h3⟩ := h
    refine ⟨h1, fun n hn ha he => ?_, ends_more h3 hN⟩
    rcases List.mem_append.1 hn with hn | hn
    · exact h2 n hn ha he
    · have := hN n hn
      have := ends_le h3
      omega
theorem ends_snoc {ns : List Note} : ∀ {l : List Nat} {a b e : Nat}, EndsOk ns a l b → b < e → InP ns b e → EndsOk ns a (l ++ [e]) e
  | [], a, b, e, h, h1, h2 => by
    unfold EndsOk at h
    subst h
    exact ⟨h1, h2, rfl⟩
  | x :: r, a, b, e, h, h1, h2 => by
    unfold EndsOk at h
    exact ⟨h.1, h.2.1, ends_snoc h.2.2 h1 h2⟩
theorem paras_le {ns : List Note} : ∀ {l : List Para} {a b : Nat}, ParasOk ns a l b → a ≤ b
  | [], a, b, h => by unfold ParasOk at h; omega
  | p :: r, a, b, h => by
    unfold ParasOk at h
    obtain ⟨_, _, _, _, m, h1, h2⟩ := h
    have := ends_le h1
    have := paras_le h2
    omega
theorem paras_more {ns N : List Note} : ∀ {l : List Para} {a b : Nat}, ParasOk ns a l b → (∀ n ∈ N, b ≤ n.fr) → ParasOk (ns ++ N) a l b
  | [], a, b, h, _ => h
  | p :: r, a, b, h, hN => by
    unfold ParasOk at h ⊢
    obtain ⟨h1, h2, h3, h4, m, h5, h6⟩ := h
    have := paras_le h6
    exact ⟨h1, h2, h3, h4, m, ends_more h5 (fun n hn => by have := hN n hn; omega), paras_more h6 hN⟩
theorem paras_snoc {ns : List Note} : ∀ {l : List Para} {a m b : Nat} {p : Para}, ParasOk ns a l m → p.fr = m → p.ends ≠ [] → (p.verse = false → p.ends.length = 1) → p.num ≤ 9999 → EndsOk ns m p.ends b → ParasOk ns a (l ++ [p]) b
  | [], a, m, b, p, h, h1, h2, h3, h4, h5 => by
    unfold ParasOk at h
    subst h
    exact ⟨h1, h2, h3, h4, b, h5, rfl⟩
  | x :: r, a, m, b, p, h, h1, h2, h3, h4, h5 => by
    unfold ParasOk at h
    obtain ⟨g1, g2, g3, g4, m', g5, g6⟩ := h
    exact ⟨g1, g2, g3, g4, m', g5, paras_snoc g6 h1 h2 h3 h4 h5⟩
theorem chunks_le {ns : List Note} : ∀ {l : List (List Para)} {a b : Nat}, ChunksOk ns a l b → a ≤ b
  | [], a, b, h => by unfold ChunksOk at h; omega
  | p :: r, a, b, h => by
    unfold ChunksOk at h
    obtain ⟨_, m, h1, h2⟩ := h
    have := paras_le h1
    have := chunks_le h2
    omega
theorem chunks_more {ns N : List Note} : ∀ {l : List (List Para)} {a b : Nat}, ChunksOk ns a l b → (∀ n ∈ N, b ≤ n.fr) → ChunksOk (ns ++ N) a l b
  | [], a, b, h, _ => h
  | c :: r, a, b, h, hN => by
    unfold ChunksOk at h ⊢
    obtain ⟨h1, m, h2, h3⟩ := h
    have := chunks_le h3
    exact ⟨h1, m, paras_more h2 (fun n hn => by have := hN n hn; omega), chunks_more h3 hN⟩
theorem chunks_snoc {ns : List Note} : ∀ {l : List (List Para)} {a m b : Nat} {c : List Para}, ChunksOk ns a l m → c ≠ [] → ParasOk ns m c b → ChunksOk ns a (l ++ [c]) b
  | [], a, m, b, c, h, h1, h2 => by
    unfold ChunksOk at h
    subst h
    exact ⟨h1, b, h2, rfl⟩
  | x :: r, a, m, b, c, h, h1, h2 => by
    unfold ChunksOk at h
    obtain ⟨g1, m', g2, g3⟩ := h
    exact ⟨g1, m', g2, chunks_snoc g3 h1 h2⟩

/-! ### what a note, a text, a line adds -/
structure NoteR (s s' : St) : Prop where
  notes : ∃ N, s'.notes = s.notes ++ N ∧ ∀ n ∈ N, n.fr = s.fr ∧ n.til = s.til
  words : s'.words = s.words
  fr : s'.fr = s.fr
  til : s'.til = s.til
  chunks : s'.chunks = s.chunks
  paras : s'.paras = s.paras
  num : s'.num = s.num
  ends : s'.ends = s.ends
theorem NoteR.refl (s : St) : NoteR s s := ⟨⟨[], by simp, by simp⟩, rfl, rfl, rfl, rfl, rfl, rfl, rfl⟩
theorem NoteR.trans {a b c : St} (h : NoteR a b) (k : NoteR b c) : NoteR a c := by
  obtain ⟨⟨N, e1, h1⟩, h2, h3, h4, h5, h6, h7, h8⟩ := h
  obtain ⟨⟨M, e2, k1⟩, k2, k3, k4, k5, k6, k7, k8⟩ := k
  refine ⟨⟨N ++ M, by rw [e2, e1, List.append_assoc], fun n hn => ?_⟩, k2.trans h2, k3.trans h3, k4.trans h4, k5.trans h5, k6.trans h6, k7.trans h7, k8.trans h8⟩
  rcases List.mem_append.1 hn with hn | hn
  · exact h1 n hn
  · have := k1 n hn
    rw [h3, h4] at this
    exact this
/-- only what is said turns -/
structure SaidR (s s' : St) : Prop where
  notes : s'.notes = s.notes
  words : s'.words = s.words
  fr : s'.fr = s.fr
  til : s'.til = s.til
  chunks : s'.chunks = s.chunks
  paras : s'.paras = s.paras
  num : s'.num = s.num
  ends : s'.ends = s.ends
theorem saidP : NoteP SaidR where
  hr := fun s => ⟨rfl, rfl, rfl, rfl, rfl, rfl, rfl, rfl⟩
  ht := fun a b c h k => ⟨k.1.trans h.1, k.2.trans h.2, k.3.trans h.3, k.4.trans h.4, k.5.trans h.5, k.6.trans h.6, k.7.trans h.7, k.8.trans h.8⟩
  said := fun s l => ⟨rfl, rfl, rfl, rfl, rfl, rfl, rfl, rfl⟩
theorem foot_noteR (t : List Txt) (i : Nat) : Pres NoteR (footOp t i) := by
  intro s n s' e
  obtain ⟨s1, e1, e2⟩ := then_ok' e
  cases e2
  obtain ⟨h1, h2, h3, h4, h5, h6, h7, h8⟩ := visit_pres saidP.hr saidP.ht (note_pres saidP t) _ _ _ e1
  exact ⟨⟨[⟨i, s1.fr, s1.til, s1.said, loc n⟩], by simp only [h1], fun m hm => by rw [List.mem_singleton.1 hm]; exact ⟨h3, h4⟩⟩, h2, h3, h4, h5, h6, h7, h8⟩
theorem notes_noteR (t : List Txt) : Pres NoteR (notesTake t) :=
  take_pres (fun f hf => by cases hf) (fun x k f e => by
    unfold notesRules at e
    cases hs : series x with
    | none => rw [hs] at e; cases e
    | some i => rw [hs] at e; cases e; exact foot_noteR t i)
/-- what a text adds -/
structure TextR (s s' : St) : Prop where
  words : ∃ W, s'.words = s.words ++ W
  notes : ∃ N, s'.notes = s.notes ++ N ∧ ∀ n ∈ N, s.words.length ≤ n.fr ∧ n.fr < n.til ∧ n.til ≤ s'.words.length
  chunks : s'.chunks = s.chunks
  paras : s'.paras = s.paras
  num : s'.num = s.num
  ends : s'.ends = s.ends
theorem TextR.refl (s : St) : TextR s s := ⟨⟨[], by simp⟩, ⟨[], by simp, by simp⟩, rfl, rfl, rfl, rfl⟩
theorem TextR.trans {a b c : St} (h : TextR a b) (k : TextR b c) : TextR a c := by
  obtain ⟨⟨W, w1⟩, ⟨N, e1, h1⟩, h5, h6, h7, h8⟩ := h
  obtain ⟨⟨V, w2⟩, ⟨M, e2, k1⟩, k5, k6, k7, k8⟩ := k
  have l1 : b.words.length = a.words.length + W.length := by rw [w1, List.length_append]
  have l2 : c.words.length = b.words.length + V.length := by rw [w2, List.length_append]
  refine ⟨⟨W ++ V, by rw [w2, w1, List.append_assoc]⟩, ⟨N ++ M, by rw [e2, e1, List.append_assoc], fun n hn => ?_⟩, k5.trans h5, k6.trans h6, k7.trans h7, k8.trans h8⟩
  rcases List.mem_append.1 hn with hn | hn
  · have := h1 n hn; omega
  · have := k1 n hn; omega
theorem TextR.len {s s' : St} (h : TextR s s') : s.words.length ≤ s'.words.length := by
  obtain ⟨W, w⟩ := h.words
  rw [w, List.length_append]; omega
theorem ed_textR (t : List Txt) {inner : St → List Nd → Res} (hi : ∀ s l s', inner s l = .ok s' → TextR s s') : Pres TextR (edOp t inner) := by
  intro s n s' e
  obtain ⟨s1, e1, e2⟩ := then_ok' e
  split at e2
  · cases e2
  · rename_i hne
    have h := hi _ _ _ e1
    have hlen := h.len
    obtain ⟨⟨M, e3, k1⟩, k2, k3, k4, k5, k6, k7, k8⟩ := visit_pres NoteR.refl (fun _ _ _ => NoteR.trans) (notes_noteR t) _ _ _ e2
    obtain ⟨⟨W, w1⟩, ⟨N, e4, h1⟩, h5, h6, h7, h8⟩ := h
    simp only [] at e3 k1 k2 k5 k6 k7 k8
    refine ⟨⟨W, by rw [k2, w1]⟩, ⟨N ++ M, by rw [e3, e4, List.append_assoc], fun m hm => ?_⟩, k5.trans h5, k6.trans h6, k7.trans h7, k8.trans h8⟩
    rw [k2]
    rcases List.mem_append.1 hm with hm | hm
    · have := h1 m hm; omega
    · have := k1 m hm; omega
theorem textOf_textR (t : List Txt) {inner : St → List Nd → Res} (hi : ∀ s l s', inner s l = .ok s' → TextR s s') : Pres TextR (textOf t inner) :=
  take_pres (fun f hf => by
    cases hf
    intro s n s' e
    unfold wordOp at e
    split at e
    · cases e
    · cases e; exact ⟨⟨[text n], rfl⟩, ⟨[], by simp, by simp⟩, rfl, rfl, rfl, rfl⟩) (fun x k f e => by
    unfold textRules at e
    split at e
    · cases e; exact ed_textR t hi
    · split at e
      · cases e
        intro s n s' e
        obtain ⟨x, _, e2⟩ := one_ok' e
        split at e2
        · cases e2
        · cases e2; exact ⟨⟨[], by simp⟩, ⟨[], by simp, by simp⟩, rfl, rfl, rfl, rfl⟩
      · cases e)
theorem text_textR (t : List Txt) : ∀ k, Pres TextR (textTake t k)
  | 0 => textOf_textR t (fun s l s' e => by cases e; exact TextR.refl _)
  | k + 1 => textOf_textR t (fun s l s' e => visit_pres TextR.refl (fun _ _ _ => TextR.trans) (text_textR t k) _ _ _ e)
/-- each note has a word, and ends by the last word -/
def NotesIn (s : St) : Prop := ∀ n ∈ s.notes, n.fr < n.til ∧ n.til ≤ s.words.length
theorem TextR.notesIn {s s' : St} (h : TextR s s') (hn : NotesIn s) : NotesIn s' := by
  have hl := h.len
  obtain ⟨N, e, h1⟩ := h.notes
  intro n hm
  rw [e] at hm
  rcases List.mem_append.1 hm with hm | hm
  · have := hn n hm; omega
  · have := h1 n hm; omega
theorem TextR.inP {s s' : St} (h : TextR s s') (hn : NotesIn s) : InP s'.notes s.words.length s'.words.length := by
  obtain ⟨N, e, h1⟩ := h.notes
  intro n hm ha he
  rw [e] at hm
  rcases List.mem_append.1 hm with hm | hm
  · have := hn n hm; omega
  · have := h1 n hm; omega
/-- what lines add -/
structure LineR (s s' : St) : Prop where
  words : ∃ W, s'.words = s.words ++ W
  notes : ∃ N, s'.notes = s.notes ++ N ∧ ∀ n ∈ N, s.words.length ≤ n.fr ∧ n.fr < n.til ∧ n.til ≤ s'.words.length
  chunks : s'.chunks = s.chunks
  paras : s'.paras = s.paras
  num : s'.num = s.num
  ends : ∀ a, NotesIn s → EndsOk s.notes a s.ends s.words.length → EndsOk s'.notes a s'.ends s'.words.length
theorem LineR.notesIn {s s' : St} (h : LineR s s') (hn : NotesIn s) : NotesIn s' := by
  obtain ⟨W, w⟩ := h.words
  have hl : s.words.length ≤ s'.words.length := by rw [w, List.length_append]; omega
  obtain ⟨N, e, h1⟩ := h.notes
  intro n hm
  rw [e] at hm
  rcases List.mem_append.1 hm with hm | hm
  · have := hn n hm; omega
  · have := h1 n hm; omega
theorem LineR.refl (s : St) : LineR s s := ⟨⟨[], by simp⟩, ⟨[], by simp, by simp⟩, rfl, rfl, rfl, fun _ _ h => h⟩
theorem LineR.trans {a b c : St} (h : LineR a b) (k : LineR b c) : LineR a c := by
  have hN := h.notesIn
  obtain ⟨⟨W, w1⟩, ⟨N, e1, h1⟩, h5, h6, h7, h8⟩ := h
  obtain ⟨⟨V, w2⟩, ⟨M, e2, k1⟩, k5, k6, k7, k8⟩ := k
  have l1 : b.words.length = a.words.length + W.length := by rw [w1, List.length_append]
  have l2 : c.words.length = b.words.length + V.length := by rw [w2, List.length_append]
  refine ⟨⟨W ++ V, by rw [w2, w1, List.append_assoc]⟩, ⟨N ++ M, by rw [e2, e1, List.append_assoc], fun n hn => ?_⟩, k5.trans h5, k6.trans h6, k7.trans h7, fun x hx he => k8 x (hN hx) (h8 x hx he)⟩
  rcases List.mem_append.1 hn with hn | hn
  · have := h1 n hn; omega
  · have := k1 n hn; omega
theorem line_lineR (t : List Txt) (k : Nat) : Pres LineR (lineOp t k) := by
  intro s n s' e
  obtain ⟨s1, e1, e2⟩ := then_ok' e
  split at e2
  · cases e2
  · rename_i hne
    cases e2
    have h := visit_pres TextR.refl (fun _ _ _ => TextR.trans) (text_textR t k) _ _ _ e1
    have hl := h.len
    have hin := fun hn => h.inP hn
    obtain ⟨hw, ⟨N, e4, h1⟩, h5, h6, h7, h8⟩ := h
    refine ⟨hw, ⟨N, e4, h1⟩, h5, h6, h7, fun a hn he => ?_⟩
    simp only []
    rw [h8]
    refine ends_snoc (b := s.words.length) ?_ (by omega) (hin hn)
    rw [e4]
    exact ends_more he (fun n hm => (h1 n hm).1)
theorem stanza_lineR (t : List Txt) (k : Nat) : Pres LineR (stanzaTake t k) :=
  take_pres (fun f hf => by cases hf) (fun x j f e => by
    unfold stanzaRules at e
    split at e
    · cases e; exact line_lineR t k
    · cases e)
/-! ### chunks, sides -/
structure CInv (s : St) : Prop where
  ok : ∃ m, ChunksOk s.notes 0 s.chunks m ∧ ParasOk s.notes m s.paras s.words.length
  notes : NotesIn s
  num : s.num ≤ 9999
theorem cinv_para {s s1 : St} (h : CInv s) (hr : LineR { s with ends := [] } s1) (v : Bool) (hne : s1.ends ≠ []) (hv : v = false → s1.ends.length = 1) : CInv (addPara s1 v s.words.length) := by
  obtain ⟨⟨m, h1, h2⟩, h3, h4⟩ := h
  have hN := hr.notesIn (s := { s with ends := [] }) h3
  have he := hr.ends s.words.length h3 rfl
  obtain ⟨hw, ⟨N, e4, k1⟩, k5, k6, k7, _⟩ := hr
  simp only [] at e4 k1 k5 k6 k7
  have hle := paras_le h2
  refine ⟨⟨m, ?_, ?_⟩, hN, by simp [addPara]⟩
  · simp only [addPara]
    rw [k5, e4]
    exact chunks_more h1 (fun n hn => by have := k1 n hn; omega)
  · simp only [addPara]
    rw [k6]
    refine paras_snoc (m := s.words.length) ?_ rfl hne hv (by simp only []; rw [k7]; exact h4) he
    rw [e4]
    exact paras_more h2 (fun n hn => (k1 n hn).1)
theorem line_one {t : List Txt} {k : Nat} {s : St} {n : Nd} {s' : St} (h : lineOp t k { s with ends := [] } n = .ok s') : s'.ends.length = 1 := by
  obtain ⟨s1, e1, e2⟩ := then_ok' h
  split at e2
  · cases e2
  · cases e2
    have h := visit_pres TextR.refl (fun _ _ _ => TextR.trans) (text_textR t k) _ _ _ e1
    have := h.ends
    simp only [] at this ⊢
    rw [this]
    rfl
theorem value_le (l : Txt) : value l ≤ 9999 := by
  unfold value
  split
  · omega
  · rename_i h
    have h1 : ¬ 4 < l.length := fun c => h (.inr (.inl c))
    have h2 : l.all digit = true := by
      cases hd : l.all digit with
      | true => rfl
      | false => exact absurd (.inr (.inr (.inr hd))) h
    have key : ∀ (l : Txt) (a : Nat), l.all digit = true → l.foldl (fun v b => v * 10 + (b.toNat - 48)) a + 1 ≤ (a + 1) * 10 ^ l.length := by
      intro l
      induction l with
      | nil => intro a _; simp
      | cons c r ih =>
        intro a hd
        simp only [List.all_cons, Bool.and_eq_true] at hd
        have hc := hd.1
        unfold digit at hc
        simp only [Bool.and_eq_true, decide_eq_true_eq] at hc
        have := ih (a * 10 + (c.toNat - 48)) hd.2
        have h3 : a * 10 + (c.toNat - 48) + 1 ≤ (a + 1) * 10 := by omega
        have h4 := Nat.mul_le_mul_right (10 ^ r.length) h3
        rw [List.foldl_cons, List.length_cons, Nat.pow_succ, Nat.mul_comm (10 ^ r.length) 10, ← Nat.mul_assoc]
        exact Nat.le_trans this h4
    have h3 := key l 0 h2
    have h4 : 10 ^ l.length ≤ 10 ^ 4 := Nat.pow_le_pow_right (by omega) (by omega)
    unfold dec
    have h5 : (10 : Nat) ^ 4 = 10000 := by decide
    omega
theorem chunkTake_cinv (t : List Txt) (k : Nat) : Keep CInv (chunkTake t k) :=
  take_keep (fun f hf => by cases hf) (fun x j f e => by
    unfold chunkRules at e
    split at e
    · cases e
      intro s n s' hi e
      obtain ⟨s1, e1, e2⟩ := then_ok' e
      cases e2
      have h1 := line_one e1
      exact cinv_para hi (line_lineR t k _ _ _ e1) false (by intro c; rw [c] at h1; cases h1) (fun _ => h1)
    · split at e
      · cases e
        intro s n s' hi e
        obtain ⟨s1, e1, e2⟩ := then_ok' e
        split at e2
        · cases e2
        · rename_i hne
          cases e2
          exact cinv_para hi (visit_pres LineR.refl (fun _ _ _ => LineR.trans) (stanza_lineR t k) _ _ _ e1) true hne (fun h => by cases h)
      · split at e
        · cases e
          intro s n s' hi e
          obtain ⟨x, _, e2⟩ := one_ok' e
          split at e2
          · cases e2
          · cases e2
            exact ⟨hi.ok, hi.notes, value_le _⟩
        · cases e)
structure SInv (s : St) : Prop where
  ok : ChunksOk s.notes 0 s.chunks s.words.length
  notes : NotesIn s
theorem chunkOp_sinv (t : List Txt) (k : Nat) : Keep SInv (chunkOp t k) := by
  intro s n s' hi e
  obtain ⟨s1, e1, e2⟩ := then_ok' e
  split at e2
  · cases e2
  · rename_i hne
    cases e2
    obtain ⟨⟨m, h1, h2⟩, h3, _⟩ := visit_keep (chunkTake_cinv t k) _ _ _ (show CInv { s with paras := [], num := 0 } from ⟨⟨s.words.length, hi.ok, rfl⟩, hi.notes, by simp⟩) e1
    exact ⟨chunks_snoc h1 hne h2, h3⟩
theorem side_sinv (t : List Txt) (k : Nat) : Keep SInv (sideTake t k) :=
  take_keep (fun f hf => by cases hf) (fun x j f e => by
    unfold sideRules at e
    split at e
    · cases e; exact chunkOp_sinv t k
    · cases e)
theorem source_spans (t : List Txt) (k : Nat) : Keep (fun s => ∀ d ∈ s.sides, SideOk d) (sourceTake t k) := by
  intro s n s' hi e
  obtain ⟨e0, _, _, _⟩ := source_one e
  obtain ⟨s1, e1, e2⟩ := then_ok' e0
  split at e2
  · cases e2
  · rename_i hne
    cases e2
    have h1 := visit_keep (side_sinv t k) _ _ _ (show SInv { s with chunks := [], words := [], notes := [] } from ⟨rfl, fun n hn => by cases hn⟩) e1
    have h2 := visit_pres sidesP.hr sidesP.ht (side_pres sidesP t k) _ _ _ e1
    simp only [] at h2
    intro d hd
    rcases List.mem_append.1 hd with hd | hd
    · rw [h2] at hd; exact hi d hd
    · rw [List.mem_singleton.1 hd]; exact ⟨hne, h1.ok⟩
/-- what a document keeps of spans -/
structure SpansOk (s : St) : Prop where
  sides : ∀ d ∈ s.sides, SideOk d
  two : s.sides.length = 1 ∨ (s.sides.length = 2 ∧ chunksOf s 0 = chunksOf s 1)
theorem spans_made {t : List Txt} {K : Nat} {l : List Nd} {s : St} (h : made t K l = .ok s) : SpansOk s := by
  obtain ⟨s1, e1, e2⟩ := then_ok' h
  have h1 := visit_keep (source_spans t K) _ _ _ (by simp [St.none]) e1
  have h2 := source_sides l _ _ e1
  have hs : checkRefs s1 = .ok s → s1 = s := fun e => by
    unfold checkRefs at e
    split at e
    · cases e
    · cases e; rfl
  unfold finish at e2
  split at e2
  · rename_i htwo
    split at e2
    · rename_i hc
      obtain rfl := hs e2
      refine ⟨h1, .inr ⟨?_, hc⟩⟩
      match l, htwo with
      | [n, m], _ => simpa [St.none] using h2
    · cases e2
  · split at e2
    · rename_i hone
      obtain rfl := hs e2
      refine ⟨h1, .inl ?_⟩
      match l, hone with
      | [n], _ => simpa [St.none] using h2
    · cases e2
end Go.Proofs.YtfjplhgajoehfaaGreatDoor.El
