/-
  The law FaultFirst: its walk. The first one of some faults is one of them, none stands ahead of it, and it is the same in whatever order they come.
-/
import Derived.Test.YthiaeppaaahlgaaDoorFixed
import Derived.Test.YthiaeppaaahlgaaDoorRefFirst
set_option linter.unusedVariables false
set_option linter.unusedSimpArgs false
namespace Go.Proofs.YthiaeppaaahlgaaDoor
open Go.RowKit Go.Extern.Stop Go.Stop Go.Extern

theorem FltsAt.mono {w w' : World} {v : Value} {l : List Flt} (hb : Below w.heap.size w w') (h : FltsAt w v l) : FltsAt w' v l := by
  obtain ⟨h1, h2, h3⟩ := h
  refine ⟨h1, h2, fun hp => ?_⟩
  obtain ⟨b, o, cap, e, hc⟩ := h3 hp
  exact ⟨b, o, cap, e, fun i f hf => ⟨cell_below hb (hc i f hf).1, cell_below hb (hc i f hf).2⟩⟩
/-! ### the first one is the same from either end -/
def Min (l : List Flt) (f : Flt) : Prop := f ∈ l ∧ f.1 ≠ 0 ∧ ∀ g ∈ l, g.1 ≠ 0 → aheadB g f = false
theorem aheadB_iff (f g : Flt) : aheadB f g = true ↔ f.2 < g.2 ∨ (f.2 = g.2 ∧ f.1 < g.1) := by
  unfold aheadB; simp
theorem aheadB_no (f g : Flt) : aheadB f g = false ↔ ¬ (f.2 < g.2 ∨ (f.2 = g.2 ∧ f.1 < g.1)) := by
  rw [← aheadB_iff]; simp
theorem fold_spec (l : List Flt) : ∀ cur : Option Flt,
    (∀ f, l.foldl best cur = some f → (cur = some f ∨ (f ∈ l ∧ f.1 ≠ 0)) ∧ (∀ g ∈ l, g.1 ≠ 0 → aheadB g f = false) ∧ (∀ g, cur = some g → aheadB g f = false)) ∧
    (l.foldl best cur = none → cur = none ∧ ∀ g ∈ l, g.1 = 0) := by
  induction l with
  | nil =>
    intro cur
    refine ⟨fun f h => ⟨.inl h, (fun g hg => by cases hg), fun g hg => ?_⟩, fun h => ⟨h, (fun g hg => by cases hg)⟩⟩
    have h' : cur = some f := h
    rw [h'] at hg
    injection hg with hg
    subst hg
    rw [aheadB_no]; omega
  | cons x r ih =>
    intro cur
    obtain ⟨i1, i2⟩ := ih (best cur x)
    refine ⟨fun f h => ?_, fun h => ?_⟩
    · obtain ⟨j1, j2, j3⟩ := i1 f h
      by_cases hx : x.1 = 0
      · rw [best_zero hx] at j1 j3
        refine ⟨j1.elim .inl (fun k => .inr ⟨List.mem_cons_of_mem _ k.1, k.2⟩), fun g hg hz => ?_, j3⟩
        rcases List.mem_cons.1 hg with rfl | hg
        · exact absurd hx hz
        · exact j2 g hg hz
      · cases cur with
        | none =>
          rw [best_none hx] at j1 j3
          refine ⟨.inr ?_, fun g hg hz => ?_, (fun g hg => by cases hg)⟩
          · rcases j1 with j1 | j1
            · injection j1 with j1; subst j1; exact ⟨List.mem_cons_self .., hx⟩
            · exact ⟨List.mem_cons_of_mem _ j1.1, j1.2⟩
          · rcases List.mem_cons.1 hg with rfl | hg
            · exact j3 _ rfl
            · exact j2 g hg hz
        | some c =>
          cases ha : aheadB x c with
          | true =>
            rw [best_yes hx ha] at j1 j3
            refine ⟨.inr ?_, fun g hg hz => ?_, fun g hg => ?_⟩
            · rcases j1 with j1 | j1
              · injection j1 with j1; subst j1; exact ⟨List.mem_cons_self .., hx⟩
              · exact ⟨List.mem_cons_of_mem _ j1.1, j1.2⟩
            · rcases List.mem_cons.1 hg with rfl | hg
              · exact j3 _ rfl
              · exact j2 g hg hz
            · injection hg with hg
              subst hg
              have h1 := j3 x rfl
              rw [aheadB_no] at h1 ⊢
              rw [aheadB_iff] at ha
              omega
          | false =>
            rw [best_no hx ha] at j1 j3
            refine ⟨j1.elim .inl (fun k => .inr ⟨List.mem_cons_of_mem _ k.1, k.2⟩), fun g hg hz => ?_, j3⟩
            rcases List.mem_cons.1 hg with rfl | hg
            · have h1 := j3 c rfl
              rw [aheadB_no] at h1 ha ⊢
              omega
            · exact j2 g hg hz
    · obtain ⟨k1, k2⟩ := i2 h
      by_cases hx : x.1 = 0
      · rw [best_zero hx] at k1
        refine ⟨k1, fun g hg => ?_⟩
        rcases List.mem_cons.1 hg with rfl | hg
        · exact hx
        · exact k2 g hg
      · cases cur with
        | none => rw [best_none hx] at k1; cases k1
        | some c =>
          cases ha : aheadB x c with
          | true => rw [best_yes hx ha] at k1; cases k1
          | false => rw [best_no hx ha] at k1; cases k1
theorem first_min {l : List Flt} {f : Flt} (h : firstOf l = some f) : Min l f := by
  obtain ⟨h1, h2, _⟩ := (fold_spec l none).1 f h
  rcases h1 with h1 | h1
  · cases h1
  · exact ⟨h1.1, h1.2, h2⟩
theorem first_none {l : List Flt} (h : firstOf l = none) : ∀ g ∈ l, g.1 = 0 := ((fold_spec l none).2 h).2
theorem min_unique {l : List Flt} {f g : Flt} (hf : Min l f) (hg : Min l g) : f = g := by
  have h1 := hf.2.2 g hg.1 hg.2.1
  have h2 := hg.2.2 f hf.1 hf.2.1
  rw [aheadB_no] at h1 h2
  obtain ⟨f1, f2⟩ := f
  obtain ⟨g1, g2⟩ := g
  simp only at h1 h2
  rw [Prod.mk.injEq]
  omega
theorem first_back (l : List Flt) : firstOf l.reverse = firstOf l := by
  cases h1 : firstOf l.reverse with
  | none =>
    cases h2 : firstOf l with
    | none => rfl
    | some f =>
      have := first_min h2
      exact absurd (first_none h1 f (by simpa using this.1)) this.2.1
  | some f =>
    have m1 := first_min h1
    cases h2 : firstOf l with
    | none => exact absurd (first_none h2 f (by simpa using m1.1)) m1.2.1
    | some g =>
      have m2 := first_min h2
      have m1' : Min l f := ⟨by simpa using m1.1, m1.2.1, fun x hx => m1.2.2 x (by simpa using hx)⟩
      rw [min_unique m1' m2]
/-- is f one of the first k? -/
def among (l : List Flt) (k : Nat) (f : Flt) : Bool := (l.take k).any fun g => (g.1 == f.1) && (g.2 == f.2)
theorem among_next {l : List Flt} {k : Nat} {g : Flt} (f : Flt) (h : l[k]? = some g) : among l (k + 1) f = (among l k f || ((g.1 == f.1) && (g.2 == f.2))) := by
  unfold among
  rw [List.take_add_one, h]
  simp
theorem among_all {l : List Flt} {f : Flt} (h : f ∈ l) : among l l.length f = true := by
  unfold among
  rw [List.take_length, List.any_eq_true]
  exact ⟨f, h, by simp⟩
/-- the last k ones, from the end -/
def backs (l : List Flt) (k : Nat) : List Flt := (l.drop (l.length - k)).reverse
theorem backs_next {l : List Flt} {k : Nat} {g : Flt} (hk : k < l.length) (h : l[l.length - 1 - k]? = some g) : backs l (k + 1) = backs l k ++ [g] := by
  unfold backs
  have e : l.length - (k + 1) = l.length - 1 - k := by omega
  rw [e]
  obtain ⟨hlt, hg⟩ := List.getElem?_eq_some_iff.1 h
  rw [List.drop_eq_getElem_cons hlt, hg, List.reverse_cons, show l.length - 1 - k + 1 = l.length - k by omega]
theorem backs_all (l : List Flt) : backs l l.length = l.reverse := by unfold backs; simp

def fltCells (l : List Flt) : List Value := l.flatMap fun f => [Value.int .i64 f.1, Value.int .i64 f.2]
/-- v is a slice of the call's own, of the faults l -/
def OwnF (B : Nat) (v : Value) (l : List Flt) (w : World) : Prop := w.ownsRow B 24 2 v l.length (fltCells l)
theorem OwnF.kept {B : Nat} {v : Value} {l : List Flt} {w w' : World} (h : OwnF B v l w) (hb : Below w.heap.size w w') : OwnF B v l w' :=
  World.ownsRow.kept h (row := none) ⟨hb.os, hb.tape, hb.output, hb.size, fun i hi _ => hb.block i hi⟩ (by cases v.ownBlock <;> simp)
theorem fltCells_at (l : List Flt) : ∀ (i : Nat) (f : Flt), l[i]? = some f → (fltCells l)[i * 2]? = some (.int .i64 f.1) ∧ (fltCells l)[i * 2 + 1]? = some (.int .i64 f.2) := by
  induction l with
  | nil => intro i f h; simp at h
  | cons x r ih =>
    intro i f h
    cases i with
    | zero => simp at h; subst h; simp [fltCells]
    | succ i =>
      have := ih i f (by simpa using h)
      have e : fltCells (x :: r) = Value.int .i64 x.1 :: Value.int .i64 x.2 :: fltCells r := by simp [fltCells]
      rw [e, show (i + 1) * 2 = i * 2 + 1 + 1 by omega]
      simpa using this
theorem OwnF.flts {B : Nat} {v : Value} {l : List Flt} {w : World} (h : OwnF B v l w) : FltsAt w v l := by
  have h0 := h
  rcases h.2 with ⟨rfl, hn⟩ | ⟨g, cap, cur, rfl, _, hg, hcap, hmax, hsz, htake⟩
  · refine ⟨⟨none, 0, by rw [hn]⟩, by omega, fun hp => by omega⟩
  · refine ⟨⟨_, _, rfl⟩, by omega, fun hp => ⟨g, 0, cap, rfl, fun i f hf => ?_⟩⟩
    have hc := fltCells_at l i f hf
    have c0 := World.ownsRow.cells h0 (g := g) rfl _ _ hc.1
    have c1 := World.ownsRow.cells h0 (g := g) rfl _ _ hc.2
    rw [Go.WideShapes.add_plain] at c0 c1
    refine ⟨c0, ?_⟩
    rw [Nat.add_assoc]
    exact c1
theorem infoFlt : (Tryd.prog.info? 24).map (fun i => (i.zero, i.size, i.bytes)) = some (some (.agg #[.int .i64 0, .int .i64 0]), 2, 16) := by kernel_rfl

set_option maxHeartbeats 8000000 in
set_option maxRecDepth 100000 in
theorem lawFirst_big (m : Nat) (hm : 100 < m) (p : Option Addr) (cap : Nat) (w : World) (hE : Env w) :
    Calls Tryd.prog 5 #[.slice p m cap] w (IsPost true w) := by
  have HE := Lib.hid hE
  clear hE
  go_enter Tryd.func5, Tryd.ntmps5
  go_wp2_with fail
  refine (fixed_any w HE.out).mono ?_
  rintro e w1 ⟨rfl, hb1⟩
  have HB1 := Lib.hid hb1
  have HE1 := Lib.hid (HE.out.mono hb1)
  clear hb1
  go_wp2_with fail
  refine (fixed_any w1 HE1.out).mono ?_
  rintro e w2 ⟨rfl, hb2⟩
  have HB2 := Lib.hid (below_step HB1.out hb2)
  clear hb2
  go_wp2_with fail
  go_ret
  exact ⟨rfl, HB2.out⟩

theorem first_vals (l : List Flt) (v : Value) (fc fa : Int) (sm : Bool) (h1 : fltOf (firstOf l) = (fc, fa)) (h2 : (firstOf l).isSome = sm) (w : World) (h : FltsAt w v l) :
    Calls Tryd.prog 13 #[v] w (ValPost (.tuple #[.agg #[.int .i64 fc, .int .i64 fa], .bool sm]) w) := by
  have := first_any l v w h
  unfold FirstPost at this
  rw [h1, h2] at this
  exact this
theorem refFirst_vals (l : List Flt) (v : Value) (fc fa : Int) (sm : Bool) (h1 : fltOf (firstOf l) = (fc, fa)) (h2 : (firstOf l).isSome = sm) (w : World) (h : FltsAt w v l) :
    Calls Tryd.prog 14 #[v] w (ValPost (.tuple #[.agg #[.int .i64 fc, .int .i64 fa], .bool sm]) w) := by
  have := refFirst_any l v w h
  unfold FirstPost at this
  rw [h1, h2] at this
  exact this
theorem eq24 (c a code z : Int) (w : World) : (binOp .eql 24 (.agg #[.int .i64 c, .int .i64 a]) (.agg #[.int .i64 code, .int .i64 z])).run Tryd.prog w = .ok (.bool ((c == code) && (a == z))) w := by
  rw [run_eql_struct, eqin24 9998]
  rfl
theorem fltCells_snoc (l : List Flt) (f : Flt) : fltCells (l ++ [f]) = fltCells l ++ [.int .i64 f.1, .int .i64 f.2] := by simp [fltCells]
theorem ownF_made (w : World) : OwnF w.heap.size (.slice (some ⟨w.heap.size, 0, none⟩) 0 0) [] (w.alloc (.cells #[] 24)) :=
  World.ownsRow_made w #[] 0 (Nat.le_refl _) (by unfold maxLen; omega) (by simp)

set_option maxHeartbeats 8000000 in
set_option maxRecDepth 100000 in
theorem lawFirst_some (l : List Flt) (hn : l.length ≤ 100) (b o cap : Nat) (w : World) (hE : Env w) (hl : FltsAt w (.slice (some ⟨b, o, none⟩) l.length cap) l)
    (hc : ∀ i f, l[i]? = some f → w.cell? ⟨b, o + i * 2, none⟩ = some (.int .i64 f.1) ∧ w.cell? ⟨b, o + i * 2 + 1, none⟩ = some (.int .i64 f.2)) :
    Calls Tryd.prog 5 #[.slice (some ⟨b, o, none⟩) l.length cap] w (IsPost true w) := by
  obtain ⟨i0, hi, hz0, hz1, hz2⟩ := info_parts infoFlt
  have HE := Lib.hid hE
  have HC := Lib.hid hc
  have HLS := Lib.hid hl
  clear hE hc hl
  go_enter Tryd.func5, Tryd.ntmps5
  go_wp2_with fail
  refine (fixed_any w HE.out).mono ?_
  rintro e w1 ⟨rfl, hb1⟩
  have HB1 := Lib.hid hb1
  have HLS1 := Lib.hid (FltsAt.mono hb1 HLS.out)
  clear hb1
  go_wp2_with fail
  obtain ⟨⟨fc, fa⟩, hfv⟩ : ∃ f, fltOf (firstOf l) = f := ⟨_, rfl⟩
  obtain ⟨sm, hsm⟩ : ∃ s, (firstOf l).isSome = s := ⟨_, rfl⟩
  have HFV := Lib.hid hfv
  have HSM := Lib.hid hsm
  clear hfv hsm
  refine (first_vals l _ fc fa sm HFV.out HSM.out _ HLS1.out).mono ?_
  rintro e w2 ⟨rfl, hb2⟩
  have HB2 := Lib.hid (below_step HB1.out hb2)
  have HLS2 := Lib.hid (FltsAt.mono hb2 HLS1.out)
  clear hb2
  go_wp2_with fail
  refine (refFirst_vals l _ fc fa sm HFV.out HSM.out _ (FltsAt.mono (below_alloc _ _) HLS2.out)).mono ?_
  rintro e w3 ⟨rfl, hb3⟩
  have f0 : w3.cell? ⟨w2.heap.size, 0, none⟩ = some (.int .i64 fc) := cell_below hb3 (by simp)
  have f1 : w3.cell? ⟨w2.heap.size, 1, none⟩ = some (.int .i64 fa) := cell_below hb3 (by simp)
  have HB3 := Lib.hid (below_step HB2.out (below_step (below_alloc _ _) hb3))
  clear hb3
  have F0 := Lib.hid (cell_alloc f0 (.cells #[.int .i64 fc, .int .i64 fa] 24))
  have F1 := Lib.hid (cell_alloc f1 (.cells #[.int .i64 fc, .int .i64 fa] 24))
  clear f0 f1
  go_wp2_with fail
  obtain ⟨W, hW⟩ : ∃ W, W = w3.alloc (.cells #[.int .i64 fc, .int .i64 fa] 24) := ⟨_, rfl⟩
  have HBW : Hid (Below w.heap.size w W) := by rw [hW]; exact below_step HB3.out (below_alloc _ _)
  have HFW : Hid (W.cell? ⟨w2.heap.size, 0, none⟩ = some (.int .i64 fc) ∧ W.cell? ⟨w2.heap.size, 1, none⟩ = some (.int .i64 fa) ∧ W.cell? ⟨w3.heap.size, 0, none⟩ = some (.int .i64 fc) ∧ W.cell? ⟨w3.heap.size, 1, none⟩ = some (.int .i64 fa)) := by
    rw [hW]; exact ⟨F0.out, F1.out, by simp, by simp⟩
  have hWs : w3.heap.size + 1 = W.heap.size := by rw [hW]; simp
  rw [hWs, ← hW]
  have HW := Lib.hid hW
  clear hW hWs F0 F1
  go_loopw [7, 8, 9] (fun v fd i wr => ∃ k : Nat, k ≤ l.length ∧ i = .int .i64 k ∧ fd = .bool (among l k (fc, fa)) ∧ OwnF W.heap.size v (backs l k) wr ∧ Below W.heap.size W wr) (fun _ _ i _ => l.length - (intOf i).toNat)
  case atStart => exact ⟨0, Nat.zero_le _, rfl, rfl, by rw [show backs l 0 = [] by simp [backs]]; exact ownF_made W, below_alloc _ _⟩
  case round =>
    obtain ⟨k, hk, rfl, rfl, hown, hb⟩ := hrel
    have HB := Lib.hid hb
    have HO := Lib.hid hown
    have hsz := hb.size
    obtain ⟨ao, cp, rfl⟩ := hown.flts.1
    obtain ⟨am, ham⟩ : ∃ am, among l k (fc, fa) = am := ⟨_, rfl⟩
    rw [ham]
    have HAM := Lib.hid ham
    have HBL : Hid ((backs l k).length = k) := by show _ = _; unfold backs; simp; omega
    clear ham hb hown
    by_cases hlt : k < l.length
    · obtain ⟨j, hj⟩ : ∃ j : Nat, (l.length : Int) - 1 - (k : Int) = j := ⟨l.length - 1 - k, by omega⟩
      have hjn : j = l.length - 1 - k := by omega
      have hjlt : j < l.length := by omega
      obtain ⟨⟨c1, a1⟩, h1⟩ : ∃ f, l[j]? = some f := ⟨_, List.getElem?_eq_getElem hjlt⟩
      obtain ⟨⟨c2, a2⟩, h2⟩ : ∃ f, l[k]? = some f := ⟨_, List.getElem?_eq_getElem hlt⟩
      have HNB := Lib.hid (backs_next hlt (by rw [← hjn]; exact h1))
      have HNA := Lib.hid (among_next (fc, fa) h2)
      have BW : Hid (Below w.heap.size w wr) := Lib.hid (below_step HBW.out HB.out)
      have d0 : wr.cell? ⟨b, o + j * 2, none⟩ = some (.int .i64 c1) := cell_below BW.out (HC.out j _ h1).1
      have d1 : wr.cell? ⟨b, o + j * 2 + 1, none⟩ = some (.int .i64 a1) := cell_below BW.out (HC.out j _ h1).2
      have HC2 := Lib.hid (HC.out k _ h2)
      have hown := World.ownsRow.alloc HO.out (.cells #[.int .i64 c1, .int .i64 a1] 24)
      clear h1 h2 hjn
      go_wp2_with (at_builtin; refine wpList_append_own _ rfl _ _ 33 rfl W.heap.size 24 i0 (.agg #[.int .i64 0, .int .i64 0]) 2 16 Tryd.underlying33 hi hz0 hz1 hz2 rfl (by decide) _ _ _ rfl hown ⟨wr.heap.size, 0, none⟩ 1 1 [.int .i64 c1, .int .i64 a1] rfl rfl (cell_two_new _ _ _ _) (fun z hz => by simp at hz; rcases hz with rfl | rfl <;> rfl) (by rw [HBL.out]; unfold maxLen; omega) (by rw [HBL.out]; omega) (by simp; omega) ?_; intro v' w5 hown' hgrow5 hnil5)
      have HB5 : Hid (Below W.heap.size W w5) := Lib.hid ((HB.out.alloc hsz (.cells #[.int .i64 c1, .int .i64 a1] 24)).grown hgrow5 (by simp; omega) (fun q hq => (hown.lt q hq).1))
      have HO5 : Hid (OwnF W.heap.size v' (backs l (k + 1)) w5) := by
        show World.ownsRow _ _ _ _ _ _ _
        rw [HNB.out, List.length_append, fltCells_snoc]
        exact hown'
      clear hown hown' hgrow5 hnil5 d0 d1
      have BW5 : Hid (Below w.heap.size w w5) := Lib.hid (below_step HBW.out HB5.out)
      have e0 : w5.cell? ⟨b, o + k * 2, none⟩ = some (.int .i64 c2) := cell_below BW5.out HC2.out.1
      have e1 : w5.cell? ⟨b, o + k * 2 + 1, none⟩ = some (.int .i64 a2) := cell_below BW5.out HC2.out.2
      have g0 : w5.cell? ⟨w2.heap.size, 0, none⟩ = some (.int .i64 fc) := cell_below HB5.out HFW.out.1
      have g1 : w5.cell? ⟨w2.heap.size, 1, none⟩ = some (.int .i64 fa) := cell_below HB5.out HFW.out.2.1
      have k0 : (0 : Int) ≤ (k : Int) := by omega
      have k1 : (k : Int) < (l.length : Int) := by omega
      cases am with
      | true =>
        go_wp2_with fail
        go_quiet (fail)
        go_wp2
        go_roundw
        case rel => exact ⟨k + 1, by omega, by go_num, by rw [HNA.out, HAM.out]; rfl, HO5.out, below_drewN HB5.out _⟩
        case measure => simp [intOf]; omega
      | false =>
        have hq := eq24 c2 a2 fc fa
        go_wp2_with fail
        go_quiet (fail)
        go_wp2
        go_roundw
        case rel => exact ⟨k + 1, by omega, by go_num, by rw [HNA.out, HAM.out]; rfl, HO5.out, below_drewN HB5.out _⟩
        case measure => simp [intOf]; omega
    · have hkn : k = l.length := by omega
      have HBK : Hid (backs l k = l.reverse) := by show _ = _; rw [hkn]; exact backs_all l
      clear hkn
      have HVB : Hid (fltOf (firstOf (backs l k)) = (fc, fa) ∧ (firstOf (backs l k)).isSome = sm) := by
        rw [HBK.out, first_back]; exact ⟨HFV.out, HSM.out⟩
      have HT : Hid (sm = true → am = true ∧ (fc != 0) = true) := by
        intro hs
        have h1 := HSM.out
        rw [hs] at h1
        obtain ⟨f, hf⟩ := Option.isSome_iff_exists.1 h1
        have h2 := HFV.out
        rw [hf] at h2
        have h3 : f = (fc, fa) := h2
        subst h3
        have hm := first_min hf
        refine ⟨?_, bne_iff_ne.2 hm.2.1⟩
        have hkn : k = l.length := by omega
        rw [← HAM.out, hkn]
        exact among_all hm.1
      go_wp2_with fail
      refine (first_vals _ _ fc fa sm HVB.out.1 HVB.out.2 _ HO.out.flts).mono ?_
      rintro e w6 ⟨rfl, hb6⟩
      have g0 : w6.cell? ⟨w2.heap.size, 0, none⟩ = some (.int .i64 fc) := cell_below hb6 (cell_below HB.out HFW.out.1)
      have g1 : w6.cell? ⟨w2.heap.size, 1, none⟩ = some (.int .i64 fa) := cell_below hb6 (cell_below HB.out HFW.out.2.1)
      have g2 : w6.cell? ⟨w3.heap.size, 0, none⟩ = some (.int .i64 fc) := cell_below hb6 (cell_below HB.out HFW.out.2.2.1)
      have g3 : w6.cell? ⟨w3.heap.size, 1, none⟩ = some (.int .i64 fa) := cell_below hb6 (cell_below HB.out HFW.out.2.2.2)
      have g0' := cell_alloc g0 (.cells #[.int .i64 fc, .int .i64 fa] 24)
      have g1' := cell_alloc g1 (.cells #[.int .i64 fc, .int .i64 fa] 24)
      have g2' := cell_alloc g2 (.cells #[.int .i64 fc, .int .i64 fa] 24)
      have g3' := cell_alloc g3 (.cells #[.int .i64 fc, .int .i64 fa] 24)
      have HB6 : Hid (Below w.heap.size w (w6.alloc (.cells #[.int .i64 fc, .int .i64 fa] 24))) := Lib.hid (below_step (below_step (below_step HBW.out HB.out) hb6) (below_alloc _ _))
      clear hb6 g0 g1 g2 g3
      cases sm with
      | true =>
        obtain ⟨rfl, hne⟩ := HT.out rfl
        go_wp2_with fail
        go_ret
        exact ⟨rfl, HB6.out⟩
      | false =>
        go_wp2_with fail
        go_ret
        exact ⟨rfl, HB6.out⟩

theorem flts_zero (w : World) (p : Option Addr) (cap : Nat) : FltsAt w (.slice p 0 cap) [] := ⟨⟨p, cap, rfl⟩, by unfold maxLen; simp, fun h => by simp at h⟩
set_option maxHeartbeats 8000000 in
set_option maxRecDepth 100000 in
theorem lawFirst_nil (p : Option Addr) (cap : Nat) (w : World) (hE : Env w) :
    Calls Tryd.prog 5 #[.slice p 0 cap] w (IsPost true w) := by
  have HE := Lib.hid hE
  clear hE
  go_enter Tryd.func5, Tryd.ntmps5
  go_wp2_with fail
  refine (fixed_any w HE.out).mono ?_
  rintro e w1 ⟨rfl, hb1⟩
  have HB1 := Lib.hid hb1
  clear hb1
  go_wp2_with fail
  refine (first_vals [] _ 0 0 false rfl rfl _ (flts_zero _ _ _)).mono ?_
  rintro e w2 ⟨rfl, hb2⟩
  have HB2 := Lib.hid (below_step HB1.out hb2)
  clear hb2
  go_wp2_with fail
  refine (refFirst_vals [] _ 0 0 false rfl rfl _ (flts_zero _ _ _)).mono ?_
  rintro e w3 ⟨rfl, hb3⟩
  have f0 : w3.cell? ⟨w2.heap.size, 0, none⟩ = some (.int .i64 0) := cell_below hb3 (by simp)
  have f1 : w3.cell? ⟨w2.heap.size, 1, none⟩ = some (.int .i64 0) := cell_below hb3 (by simp)
  have HB3 := Lib.hid (below_step HB2.out (below_step (below_alloc _ _) hb3))
  clear hb3
  have F0 := Lib.hid (cell_alloc f0 (.cells #[.int .i64 0, .int .i64 0] 24))
  have F1 := Lib.hid (cell_alloc f1 (.cells #[.int .i64 0, .int .i64 0] 24))
  clear f0 f1
  go_wp2_with fail
  obtain ⟨W, hW⟩ : ∃ W, W = (w3.alloc (.cells #[.int .i64 0, .int .i64 0] 24)).alloc (.cells #[] 24) := ⟨_, rfl⟩
  have HBW : Hid (Below w.heap.size w W) := by rw [hW]; exact below_step (below_step HB3.out (below_alloc _ _)) (below_alloc _ _)
  have HFW : Hid (W.cell? ⟨w2.heap.size, 0, none⟩ = some (.int .i64 0) ∧ W.cell? ⟨w2.heap.size, 1, none⟩ = some (.int .i64 0) ∧ W.cell? ⟨w3.heap.size, 0, none⟩ = some (.int .i64 0) ∧ W.cell? ⟨w3.heap.size, 1, none⟩ = some (.int .i64 0)) := by
    rw [hW]; exact ⟨cell_alloc F0.out _, cell_alloc F1.out _, cell_alloc (by simp) _, cell_alloc (by simp) _⟩
  rw [← hW]
  clear hW F0 F1
  refine wp_loop_rounds 1 ?_
  rw [rounds_succ]
  go_wp2_with fail
  refine (first_vals [] _ 0 0 false rfl rfl _ (flts_zero _ _ _)).mono ?_
  rintro e w6 ⟨rfl, hb6⟩
  have g0' := cell_alloc (cell_below hb6 HFW.out.1) (.cells #[.int .i64 0, .int .i64 0] 24)
  have g1' := cell_alloc (cell_below hb6 HFW.out.2.1) (.cells #[.int .i64 0, .int .i64 0] 24)
  have g2' := cell_alloc (cell_below hb6 HFW.out.2.2.1) (.cells #[.int .i64 0, .int .i64 0] 24)
  have g3' := cell_alloc (cell_below hb6 HFW.out.2.2.2) (.cells #[.int .i64 0, .int .i64 0] 24)
  have HB6 : Hid (Below w.heap.size w (w6.alloc (.cells #[.int .i64 0, .int .i64 0] 24))) := Lib.hid (below_step (below_step HBW.out hb6) (below_alloc _ _))
  clear hb6
  go_wp2_with fail
  go_ret
  exact ⟨rfl, HB6.out⟩

/-- THE LAW, AT EVERY SLICE OF FAULTS. -/
theorem lawFirst_any (l : List Flt) (v : Value) (w : World) (hE : Env w) (h : FltsAt w v l) :
    Calls Tryd.prog 5 #[v] w (IsPost true w) := by
  have h0 := h
  obtain ⟨⟨p, cap, rfl⟩, hn, h2⟩ := h
  by_cases hbig : 100 < l.length
  · exact lawFirst_big _ hbig p cap w hE
  · rcases Nat.eq_zero_or_pos l.length with hz | hz
    · obtain rfl : l = [] := List.eq_nil_of_length_eq_zero hz
      exact lawFirst_nil p cap w hE
    · obtain ⟨b, o, cap', e, hcl⟩ := h2 hz
      obtain ⟨rfl, rfl⟩ : p = some ⟨b, o, none⟩ ∧ cap = cap' := by injection e with e1 e2 e3; exact ⟨e1, e3⟩
      exact lawFirst_some l (by omega) b o cap w hE h0 hcl
end Go.Proofs.YthiaeppaaahlgaaDoor
