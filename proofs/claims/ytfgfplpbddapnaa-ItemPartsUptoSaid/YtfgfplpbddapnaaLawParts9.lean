/-
  The law ItemParts: parts of items that may be may be; lines of verse, some behind others, have as many items, and boxes, as both have.
-/
import Derived.Test.YtfgfplpbddapnaaShift9
set_option linter.unusedVariables false
set_option linter.unusedSimpArgs false
namespace Go.Proofs.Ytfgfplpbddapnaa
open Go.RowKit

/-- a slice of records, appended to a row of the call's own, at a step of a region that draws -/
theorem step_append_slc {α : Type} {f : α → List Value} {k bytes : Nat} {T S : TypeId} {z : Value} (hS : Try.prog.underlying S = some (.slice T)) (hT : (Try.prog.info? T).map (fun i => (i.zero, i.size, i.bytes)) = some (some z, k, bytes)) (hzk : z.cells.size = k) (hk : 0 < k)
    (hf : ∀ x, (f x).length = k) (h1 : ∀ l : List α, ∀ u ∈ l.flatMap f, u.oneCell' = true)
    {w : World} {ops : Array Oper} {o : Oper} {a : Act} {K : Act → World → Prop} {Q : Exit → Act → World → Prop} {E : Prop} (hgd : o.guard = none) (s x : Operand)
    (ho : o.op = .call { callee := .builtin .append, args := #[s, x], argTypes := #[S, S] })
    (base : Nat) (v u : Value) (xs ys : List α) (hs : a.eval s = v) (hown : OwnR T f k base v xs w) (hx : a.eval x = u) (hsrc : SlcAt f k w u ys) (hlen : (xs.length + ys.length) * bytes ≤ 140737488355328) (hmax : xs.length + ys.length ≤ maxLen) (hbase : base ≤ w.heap.size)
    (h : ∀ v' w', OwnR T f k base v' (xs ++ ys) w' → w.grownBy w' v.ownBlock → K (a.put o.dst v') w') : if Region.wanted o (yielded ops a.tmps) = true then Oper.wp Try.prog o a w K Q else E := by
  obtain ⟨i0, hi, hz0, hz1, hz2⟩ := info_parts hT
  obtain ⟨⟨p, cap, rfl, hcap⟩, hm, hkk⟩ := hsrc
  rw [if_pos (by unfold Region.wanted; rw [hgd])]
  cases p with
  | none =>
    have hn : ys = [] := by
      rcases Nat.eq_zero_or_pos ys.length with h0 | h0
      · exact List.eq_nil_of_length_eq_zero h0
      · obtain ⟨b, o', c', e, _⟩ := hkk h0
        injection e with e1
        cases e1
    subst hn
    have hrun := append_none_any base S o.type T i0 k hS hi v xs.length _ hown cap
    simp only [List.length_nil] at hx
    unfold Oper.wp
    simp [execOp, ho, resolve, invoke, builtin, hs, hx, hrun, Result.andThen]
    exact h v w (by rw [List.append_nil]; exact hown) ⟨rfl, rfl, rfl, Nat.le_refl _, fun _ _ _ => rfl⟩
  | some ad =>
    refine wp_append_own w s x _ ho base T i0 _ k bytes hS hi hz0 hz1 hz2 hzk hk v xs.length _ hs hown ad ys.length cap (ys.flatMap f) hx (flat_len hf ys) (fun j u hu => ?_) (h1 ys) hmax hlen hbase fun v' w' h1 h2 _ => h v' w' ?_ h2
    · have hp : 0 < ys.length := by
        rcases Nat.eq_zero_or_pos ys.length with h0 | h0
        · obtain rfl := List.eq_nil_of_length_eq_zero h0
          simp at hu
        · exact h0
      obtain ⟨b, o', c', e, hc⟩ := hkk hp
      injection e with e1
      injection e1 with e1
      subst e1
      rw [add_none]
      exact flat_cells hf hc j u hu
    · unfold OwnR
      rw [List.length_append, List.flatMap_append]
      exact h1
def VerseY (sp : It.Gl) (x4 x5 x6 x7 : Value) (hy : Int) (ls : List (List (List It.Pt))) (L : List It.Itm) (n : Nat) : Prop := ∀ v w, LinesAt w v ls → Calls Try.prog 7 #[.agg #[.int .i64 sp.w, .int .i64 sp.st, .int .i64 sp.sk, .int .i64 sp.o, x4, x5, x6, x7], .int .i64 hy, v] w (fun e w' => ∃ a cap, e = .returned (.tuple #[.slice a n cap, .agg #[.int .i64 0, .int .i64 0]]) ∧ ItsAt w' (.slice a n cap) L ∧ Below w.heap.size w w')
theorem verse_yes {sp : It.Gl} {x4 x5 x6 x7 : Value} {hy : Int} {ls : List (List (List It.Pt))} (hmay : It.may (It.versI sp hy 0 ls) = true) {L : List It.Itm} (hL : L = It.versI sp hy 0 ls) {n : Nat} (hn : n = L.length) : VerseY sp x4 x5 x6 x7 hy ls L n := fun v w h => (verse_any sp x4 x5 x6 x7 hy v ls w h).mono fun _ _ h => by
  obtain ⟨v1, he, h1, h2⟩ := h.out
  unfold vL vC at *
  rw [hmay, if_pos rfl, ← hL] at h1
  rw [hmay, if_pos rfl] at he
  obtain ⟨⟨a, cap, rfl, _⟩, _, _⟩ := id h1
  rw [hn]
  exact ⟨a, cap, he, h1, h2⟩
def BoxesY (L : List It.Itm) (n : Nat) : Prop := ∀ v w, ItsAt w v L → Calls Try.prog 14 #[v] w (fun e w' => ∃ a cap, e = .returned (.slice a n cap) ∧ Below w.heap.size w w')
theorem boxes_yes9 {L : List It.Itm} (hl : L.length ≤ 2000) {n : Nat} (hn : n = (It.boxes L).length) : BoxesY L n := fun v w h => (itemBoxes_any v L w h (by omega)).mono fun _ _ ⟨u, he, h1, h2⟩ => by
  obtain ⟨⟨a, cap, rfl, _⟩, _, _⟩ := h1.at itC_len
  rw [hn]
  exact ⟨a, cap, he, h2⟩

set_option maxHeartbeats 16000000 in
set_option maxRecDepth 100000 in
theorem lawParts9_no (sp : It.Gl) (x4 x5 x6 x7 : Value) (hy : Int) (va vb : Value) (A B : List (List (List It.Pt))) (w : World) (hA : LinesAt w va A) (hB : LinesAt w vb B) (hnA : A.length ≤ 1048576) (hnB : B.length ≤ 1048576) (hmay : It.may (It.versI sp hy 0 (A ++ B)) = false) :
    Calls Try.prog 6 #[metV9 sp x4 x5 x6 x7, .int .i64 hy, .agg #[va, vb]] w (Ret (.bool true) w) := by
  have HF := Lib.hid (fun w => fixed9 w)
  have HA := Lib.hid hA
  have HB := Lib.hid hB
  have HnA := Lib.hid hnA
  have HnB := Lib.hid hnB
  have HV : Hid (∀ v w, LinesAt w v (A ++ B) → Calls Try.prog 7 #[.agg #[.int .i64 sp.w, .int .i64 sp.st, .int .i64 sp.sk, .int .i64 sp.o, x4, x5, x6, x7], .int .i64 hy, v] w (fun e w' => ∃ a cap, e = .returned (.tuple #[.slice a 0 cap, .agg #[.int .i64 90, .int .i64 0]]) ∧ Below w.heap.size w w')) := Lib.hid (fun v w h => (verse_any sp x4 x5 x6 x7 hy v (A ++ B) w h).mono fun _ _ h => by
    obtain ⟨v1, he, h1, h2⟩ := h.out
    unfold vL vC at *
    rw [hmay] at h1 he
    obtain ⟨a, cap, rfl⟩ := SlcAt.zero h1 rfl
    exact ⟨a, cap, he, h2⟩)
  unfold metV9
  obtain ⟨⟨pa, ca, rfl, hca⟩, hma, _⟩ := hA
  obtain ⟨⟨pb, cb, rfl, hcb⟩, hmb, _⟩ := hB
  obtain ⟨na, hna⟩ : ∃ n, n = A.length := ⟨_, rfl⟩
  obtain ⟨nb, hnb⟩ : ∃ n, n = B.length := ⟨_, rfl⟩
  rw [← hna] at HA ⊢
  rw [← hnb] at HB ⊢
  clear hca hcb hma hmb hna hnb hnA hnB hmay
  -- the lists, one behind the other
  obtain ⟨p0, hp0⟩ : ∃ p, p = w.heap.size := ⟨_, rfl⟩
  obtain ⟨B1, hB1⟩ : ∃ W, W = (w.alloc (.cells #[.int .i64 sp.w, .int .i64 sp.st, .int .i64 sp.sk, .int .i64 sp.o, x4, x5, x6, x7] 28)).alloc (.cells #[.slice pa na ca, .slice pb nb cb] 49) := ⟨_, rfl⟩
  have hs1 : B1.heap.size = p0 + 2 := by rw [hB1, World.size_alloc, World.size_alloc, ← hp0]
  have hbm := below_alloc w (.cells #[.int .i64 sp.w, .int .i64 sp.st, .int .i64 sp.sk, .int .i64 sp.o, x4, x5, x6, x7] 28)
  have hbt := below_alloc (w.alloc (.cells #[.int .i64 sp.w, .int .i64 sp.st, .int .i64 sp.sk, .int .i64 sp.o, x4, x5, x6, x7] 28)) (.cells #[.slice pa na ca, .slice pb nb cb] 49)
  have HB1 : Hid (Below w.heap.size w B1) := Lib.hid (by rw [hB1]; exact below_step hbm hbt)
  have HM1 : Hid (B1.heap[p0]? = some (.cells #[.int .i64 sp.w, .int .i64 sp.st, .int .i64 sp.sk, .int .i64 sp.o, x4, x5, x6, x7] 28 (0, 0))) := Lib.hid (by rw [hB1]; exact obj_kept hbt (obj_new w _ hp0.symm _ _))
  have HT1 : Hid (B1.heap[p0 + 1]? = some (.cells #[.slice pa na ca, .slice pb nb cb] 49 (0, 0))) := Lib.hid (by rw [hB1]; exact obj_new _ _ (by rw [World.size_alloc, ← hp0]) _ _)
  obtain ⟨sa, hsa, hla⟩ := lines_vals (lines_mono _ _ _ _ HA.out HB1.out)
  obtain ⟨sb, hsb, hlb⟩ := lines_vals (lines_mono _ _ _ _ HB.out HB1.out)
  have HSA := Lib.hid hsa
  have HSB := Lib.hid hsb
  have HLA := Lib.hid hla
  have HLB := Lib.hid hlb
  have HLenA : Hid (sa.length ≤ 1048576) := Lib.hid (by rw [hla.1]; exact HnA.out)
  have HLenB : Hid (sb.length ≤ 1048576) := Lib.hid (by rw [hlb.1]; exact HnB.out)
  clear hsa hsb hla hlb hbm hbt
  obtain ⟨W2, hW2⟩ : ∃ W, W = B1.drew := ⟨_, rfl⟩
  have hB2 : Below B1.heap.size B1 W2 := by rw [hW2]; exact below_drew9 _
  have hs2 : W2.heap.size = p0 + 2 := by rw [hW2]; exact hs1
  have HT2 := Lib.hid (obj_kept hB2 HT1.out)
  obtain ⟨W3, hW3⟩ : ∃ W, W = W2.alloc (.cells #[] 36) := ⟨_, rfl⟩
  have hB3 : Below W2.heap.size W2 W3 := by rw [hW3]; exact below_alloc _ _
  have HB13 := Lib.hid (below_step hB2 hB3)
  have HT3 := Lib.hid (obj_kept hB3 HT2.out)
  have HO3 : Hid (OwnR 36 slC 1 (p0 + 2) (.slice (some ⟨p0 + 2, 0, none⟩) 0 0) [] W3) := Lib.hid (by
    have h := own_empty 36 slC 1 W2
    rw [hs2, ← hW3] at h
    exact h)
  have hz3 : p0 + 2 ≤ W3.heap.size := by rw [← hs2]; exact hB3.size
  have HS2 := Lib.hid hs2
  go_enter Try.func6, Try.ntmps6
  go_upto_region 1 with fail
  rw [← hp0, ← hB1]
  have S0 : (fun w' : World => w'.heap[p0 + 1]? = some (.cells #[.slice pa na ca, .slice pb nb cb] 49 (0, 0))) B1.drew := by rw [← hW2]; exact HT2.out
  refine wp_region_held_drew (S := fun w' : World => w'.heap[p0 + 1]? = some (.cells #[.slice pa na ca, .slice pb nb cb] 49 (0, 0))) (by kernel_rfl) S0 (fun hHeld => ?_)
  rw [← hW2] at hHeld ⊢
  clear hW2 S0 hB1 hs1 hp0 hs2
  refine take_op (i := 1) (d := 15) (op := Op.fieldAddr 49 (Operand.tmp 5) 0) (ty := 0) (v := .pointer (some ⟨p0 + 1, 0, none⟩)) (by kernel_rfl) (by kernel_rfl) (by kernel_rfl) (by kernel_rfl) (by kernel_rfl) (fun _ _ _ h => h) (fun wS hS => by clear hS; go_simp) hHeld ?_
  simp only [Act.put, List.setIfInBounds_toArray, List.set_cons_zero, List.set_cons_succ]
  refine take_op (i := 2) (d := 16) (op := Op.load 29 (Operand.tmp 15)) (ty := 29) (v := .slice pa na ca) (by kernel_rfl) (by kernel_rfl) (by kernel_rfl) (by kernel_rfl) (by kernel_rfl) (fun _ _ _ h => h) (fun wS hS => by (try dsimp only at hS); have e0 := Lib.cell_of_heap hS 0; have e1 := Lib.cell_of_heap hS 1; clear hS; go_simp) hHeld ?_
  simp only [Act.put, List.setIfInBounds_toArray, List.set_cons_zero, List.set_cons_succ]
  refine take_op (i := 4) (d := 18) (op := Op.fieldAddr 49 (Operand.tmp 5) 1) (ty := 0) (v := .pointer (some ⟨p0 + 1, 1, none⟩)) (by kernel_rfl) (by kernel_rfl) (by kernel_rfl) (by kernel_rfl) (by kernel_rfl) (fun _ _ _ h => h) (fun wS hS => by clear hS; go_simp) hHeld ?_
  simp only [Act.put, List.setIfInBounds_toArray, List.set_cons_zero, List.set_cons_succ]
  refine take_op (i := 5) (d := 19) (op := Op.load 29 (Operand.tmp 18)) (ty := 29) (v := .slice pb nb cb) (by kernel_rfl) (by kernel_rfl) (by kernel_rfl) (by kernel_rfl) (by kernel_rfl) (fun _ _ _ h => h) (fun wS hS => by (try dsimp only at hS); have e0 := Lib.cell_of_heap hS 0; have e1 := Lib.cell_of_heap hS 1; clear hS; go_simp) hHeld ?_
  simp only [Act.put, List.setIfInBounds_toArray, List.set_cons_zero, List.set_cons_succ]
  refine wpAnyH_ready (rs := [0]) (by kernel_rfl) (by simp) ?_
  refine AllReadyH.cons rfl (fun K hK => ?_) AllReadyH.nil
  go_simp
  rw [← hW3, HS2.out]
  clear hW3
  refine hK.out _ _ HT3.out (fun hHeld => ?_)
  clear hK K
  refine wpAnyH_ready (rs := [3]) (by kernel_rfl) (by simp) ?_
  refine AllReadyH.cons rfl (fun K hK => ?_) AllReadyH.nil
  refine step_append_slc Try.underlying29 infoSl rfl (by decide) slC_len slC_cell rfl _ _ rfl (p0 + 2) (.slice (some ⟨p0 + 2, 0, none⟩) 0 0) (.slice pa na ca) [] sa rfl HO3.out rfl (SlcAt.mono HSA.out HB13.out) (by have := HLenA.out; simp; omega) (by have := HLenA.out; unfold maxLen; simp; omega) hz3 ?_
  intro v4 W4 ho4 hg4
  have hne4 : some (p0 + 1) ≠ (Value.slice (some ⟨p0 + 2, 0, none⟩) 0 0).ownBlock := by intro e; have e := Option.some.inj e; simp at e
  have HT4 := Lib.hid (obj_far HT3.out hg4 hne4)
  have hb4 : Below (p0 + 2) W2 W4 := below_app (hB3.mono (by rw [HS2.out]; exact Nat.le_refl _)) hg4 HO3.out hz3
  have HO4 : Hid (OwnR 36 slC 1 (p0 + 2) v4 sa W4) := Lib.hid (by simpa using ho4)
  have hz4 : p0 + 2 ≤ W4.heap.size := by have := hb4.size; rw [HS2.out] at this; exact this
  have HB14 : Hid (Below B1.heap.size B1 W4) := Lib.hid (hB2.trans (hb4.mono (by rw [← HS2.out]; exact hB2.size)))
  refine hK.out _ _ HT4.out (fun hHeld => ?_)
  clear hK K ho4 hg4 hne4
  simp only [Act.put, List.setIfInBounds_toArray, List.set_cons_zero, List.set_cons_succ]
  refine wpAnyH_ready (rs := [6]) (by kernel_rfl) (by simp) ?_
  refine AllReadyH.cons rfl (fun K hK => ?_) AllReadyH.nil
  refine step_append_slc Try.underlying29 infoSl rfl (by decide) slC_len slC_cell rfl _ _ rfl (p0 + 2) v4 (.slice pb nb cb) sa sb rfl HO4.out rfl (SlcAt.mono HSB.out HB14.out) (by have := HLenA.out; have := HLenB.out; omega) (by have := HLenA.out; have := HLenB.out; unfold maxLen; omega) hz4 ?_
  intro v5 W5 ho5 hg5
  have hne5 : some (p0 + 1) ≠ v4.ownBlock := fun e => by have := (World.ownsRow.lt HO4.out _ e.symm).1; omega
  have HT5 := Lib.hid (obj_far HT4.out hg5 hne5)
  have hb5 : Below (p0 + 2) W2 W5 := below_app hb4 hg5 HO4.out hz4
  have HB15 : Hid (Below B1.heap.size B1 W5) := Lib.hid (hB2.trans (hb5.mono (by rw [← HS2.out]; exact hB2.size)))
  have HALL : Hid (LinesAt W5 v5 (A ++ B)) := Lib.hid (vals_lines (ho5.at slC_len) ((HLA.out.mono HB15.out).app (HLB.out.mono HB15.out)))
  refine hK.out _ _ HT5.out (fun hHeld => ?_)
  clear hK K ho5 hg5 hne5
  simp only [Act.put, List.setIfInBounds_toArray, List.set_cons_zero, List.set_cons_succ]
  refine wpAnyH_ready (rs := [7]) (by kernel_rfl) (by simp) ?_
  refine AllReadyH.cons rfl (fun K hK => ?_) AllReadyH.nil
  go_simp
  refine hK.out _ _ hHeld (fun _ => ?_)
  clear hK K
  refine wpAnyH_done (by kernel_rfl) ?_ _
  have HBw5 := Lib.hid (below_step HB1.out HB15.out)
  have HM5 := Lib.hid (obj_kept HB15.out HM1.out)
  have HA5 := Lib.hid (lines_mono _ _ _ _ HA.out HBw5.out)
  have HB5 := Lib.hid (lines_mono _ _ _ _ HB.out HBw5.out)
  clear hb4 hb5 hz3 hz4 hHeld hB2 hB3 HT2 HT3 HT4 HO3 HO4 HB13 HB14 HSA HSB HLA HLB HLenA HLenB HS2
  clear HM1 HT1 HB1 HB15
  obtain ⟨x0, x1, x2, x3, z4, z5, z6, z7⟩ := met_cells9 HM5.out
  have HC1 := Lib.hid (HV.out _ W5 HALL.out)
  go_wp2_with fail
  refine HC1.out.mono ?_
  rintro e w6 ⟨a6, cap6, rfl, hb6⟩
  have hb6' := below_step hb6 (below_alloc w6 (.cells #[.int .i64 90, .int .i64 0] 33))
  obtain ⟨W6, hW6⟩ : ∃ W, W = w6.alloc (.cells #[.int .i64 90, .int .i64 0] 33) := ⟨_, rfl⟩
  have HG6 := Lib.hid (flt_new w6 90 0)
  rw [← hW6] at hb6' HG6
  have HB6 := Lib.hid (below_step HBw5.out hb6')
  clear hb6 hb6' x0 x1 x2 x3 z4 z5 z6 z7
  obtain ⟨r6, hr6⟩ : ∃ r, r = w6.heap.size := ⟨_, rfl⟩
  rw [← hr6] at HG6
  go_upto_region 3 with fail
  rw [← hW6, ← hr6]
  clear hW6 hr6
  have HFx := Lib.hid (HF.out W6)
  go_wp2_with fail
  refine HFx.out.mono ?_
  rintro e w7 ⟨rfl, hb7⟩
  have HB7 := Lib.hid (below_step HB6.out hb7)
  have a0 := (HG6.out.mono hb7).c0
  have a1 := (HG6.out.mono hb7).c1
  have HFy := Lib.hid (HF.out w7)
  clear hb7
  go_wp2_with fail
  refine HFy.out.mono ?_
  rintro e w8 ⟨rfl, hb8⟩
  have HB8 := Lib.hid (below_step HB7.out hb8)
  clear hb8 a0 a1
  go_wp2
  go_ret
  exact ⟨rfl, HB8.out⟩

set_option maxHeartbeats 16000000 in
set_option maxRecDepth 100000 in
theorem lawParts9_yes (sp : It.Gl) (x4 x5 x6 x7 : Value) (hy : Int) (va vb : Value) (A B : List (List (List It.Pt))) (w : World) (hA : LinesAt w va A) (hB : LinesAt w vb B) (hnA : A.length ≤ 1048576) (hnB : B.length ≤ 1048576) (hmay : It.may (It.versI sp hy 0 (A ++ B)) = true) :
    Calls Try.prog 6 #[metV9 sp x4 x5 x6 x7, .int .i64 hy, .agg #[va, vb]] w (Ret (.bool true) w) := by
  have HF := Lib.hid (fun w => fixed9 w)
  have HA := Lib.hid hA
  have HB := Lib.hid hB
  have HnA := Lib.hid hnA
  have HnB := Lib.hid hnB
  obtain ⟨mA, mB, kL, kT, kB, kM⟩ := It.both hmay
  obtain ⟨LT, hLT⟩ : ∃ t, t = It.versI sp hy 0 (A ++ B) := ⟨_, rfl⟩
  obtain ⟨LA, hLA⟩ : ∃ t, t = It.versI sp hy 0 A := ⟨_, rfl⟩
  obtain ⟨LB, hLB⟩ : ∃ t, t = It.versI sp hy 0 B := ⟨_, rfl⟩
  have lT : LT.length ≤ 2000 := by rw [hLT]; exact (It.may_yes hmay).1
  obtain ⟨nt, hnt⟩ : ∃ n, n = LT.length := ⟨_, rfl⟩
  obtain ⟨ka, hka⟩ : ∃ n, n = LA.length := ⟨_, rfl⟩
  obtain ⟨kb, hkb⟩ : ∃ n, n = LB.length := ⟨_, rfl⟩
  obtain ⟨bt, hbt'⟩ : ∃ n, n = (It.boxes LT).length := ⟨_, rfl⟩
  obtain ⟨ba, hba⟩ : ∃ n, n = (It.boxes LA).length := ⟨_, rfl⟩
  obtain ⟨bb, hbb⟩ : ∃ n, n = (It.boxes LB).length := ⟨_, rfl⟩
  have HVT := Lib.hid (verse_yes (x4 := x4) (x5 := x5) (x6 := x6) (x7 := x7) hmay hLT hnt)
  have HVA := Lib.hid (verse_yes (x4 := x4) (x5 := x5) (x6 := x6) (x7 := x7) mA hLA hka)
  have HVB := Lib.hid (verse_yes (x4 := x4) (x5 := x5) (x6 := x6) (x7 := x7) mB hLB hkb)
  unfold VerseY at HVT HVA HVB
  rw [← hLA, ← hLB, ← hLT, ← hka, ← hkb, ← hnt] at kL
  rw [← hLT, ← hLA, ← hka] at kT
  rw [← hLA, ← hLB, ← hLT, ← hba, ← hbb, ← hbt'] at kB
  rw [← hLT, ← hLA, ← hka] at kM
  have bl : bt ≤ LT.length := by rw [hbt']; exact List.length_filter_le _ _
  have HXT := Lib.hid (boxes_yes9 (by omega) hbt')
  have HXA := Lib.hid (boxes_yes9 (by omega) hba)
  have HXB := Lib.hid (boxes_yes9 (by omega) hbb)
  unfold BoxesY at HXT HXA HXB
  have HWn : IntKind.i64.wrap ((ka : Int) + (kb : Int)) = (nt : Int) := by rw [wr64 (by omega) (by omega)]; omega
  have HWb : IntKind.i64.wrap ((ba : Int) + (bb : Int)) = (bt : Int) := by rw [wr64 (by omega) (by omega)]; omega
  have Hle : Hid (ka ≤ nt) := Lib.hid (by omega)
  have HnT : Hid (nt = LT.length) := Lib.hid hnt
  have HSm : Hid (∀ w v u, ItsAt w v (LT.take ka) → ItsAt w u LA → Calls Try.prog 11 #[v, u] w (Ret (.bool true) w)) := Lib.hid (fun w v u h1 h2 => by
    have h := same_any v u _ _ w h1 h2
    rw [kT, decide_eq_true rfl] at h
    exact h)
  have HMy : Hid (∀ v w, ItsAt w v (LT.drop ka) → Calls Try.prog 12 #[v] w (Ret (.bool true) w)) := Lib.hid (fun v w h => by
    have h2 := itemMay_any v _ w h
    rw [kM] at h2
    exact h2)
  clear hLT hLA hLB hka hkb hbt' hba hbb kT kM kB kL bl mA mB lT hnt
  unfold metV9
  obtain ⟨⟨pa, ca, rfl, hca⟩, hma, _⟩ := hA
  obtain ⟨⟨pb, cb, rfl, hcb⟩, hmb, _⟩ := hB
  obtain ⟨na, hna⟩ : ∃ n, n = A.length := ⟨_, rfl⟩
  obtain ⟨nb, hnb⟩ : ∃ n, n = B.length := ⟨_, rfl⟩
  rw [← hna] at HA ⊢
  rw [← hnb] at HB ⊢
  clear hca hcb hma hmb hna hnb hnA hnB hmay
  -- the lists, one behind the other
  obtain ⟨p0, hp0⟩ : ∃ p, p = w.heap.size := ⟨_, rfl⟩
  obtain ⟨B1, hB1⟩ : ∃ W, W = (w.alloc (.cells #[.int .i64 sp.w, .int .i64 sp.st, .int .i64 sp.sk, .int .i64 sp.o, x4, x5, x6, x7] 28)).alloc (.cells #[.slice pa na ca, .slice pb nb cb] 49) := ⟨_, rfl⟩
  have hs1 : B1.heap.size = p0 + 2 := by rw [hB1, World.size_alloc, World.size_alloc, ← hp0]
  have hbm := below_alloc w (.cells #[.int .i64 sp.w, .int .i64 sp.st, .int .i64 sp.sk, .int .i64 sp.o, x4, x5, x6, x7] 28)
  have hbt := below_alloc (w.alloc (.cells #[.int .i64 sp.w, .int .i64 sp.st, .int .i64 sp.sk, .int .i64 sp.o, x4, x5, x6, x7] 28)) (.cells #[.slice pa na ca, .slice pb nb cb] 49)
  have HB1 : Hid (Below w.heap.size w B1) := Lib.hid (by rw [hB1]; exact below_step hbm hbt)
  have HM1 : Hid (B1.heap[p0]? = some (.cells #[.int .i64 sp.w, .int .i64 sp.st, .int .i64 sp.sk, .int .i64 sp.o, x4, x5, x6, x7] 28 (0, 0))) := Lib.hid (by rw [hB1]; exact obj_kept hbt (obj_new w _ hp0.symm _ _))
  have HT1 : Hid (B1.heap[p0 + 1]? = some (.cells #[.slice pa na ca, .slice pb nb cb] 49 (0, 0))) := Lib.hid (by rw [hB1]; exact obj_new _ _ (by rw [World.size_alloc, ← hp0]) _ _)
  obtain ⟨sa, hsa, hla⟩ := lines_vals (lines_mono _ _ _ _ HA.out HB1.out)
  obtain ⟨sb, hsb, hlb⟩ := lines_vals (lines_mono _ _ _ _ HB.out HB1.out)
  have HSA := Lib.hid hsa
  have HSB := Lib.hid hsb
  have HLA := Lib.hid hla
  have HLB := Lib.hid hlb
  have HLenA : Hid (sa.length ≤ 1048576) := Lib.hid (by rw [hla.1]; exact HnA.out)
  have HLenB : Hid (sb.length ≤ 1048576) := Lib.hid (by rw [hlb.1]; exact HnB.out)
  clear hsa hsb hla hlb hbm hbt
  obtain ⟨W2, hW2⟩ : ∃ W, W = B1.drew := ⟨_, rfl⟩
  have hB2 : Below B1.heap.size B1 W2 := by rw [hW2]; exact below_drew9 _
  have hs2 : W2.heap.size = p0 + 2 := by rw [hW2]; exact hs1
  have HT2 := Lib.hid (obj_kept hB2 HT1.out)
  obtain ⟨W3, hW3⟩ : ∃ W, W = W2.alloc (.cells #[] 36) := ⟨_, rfl⟩
  have hB3 : Below W2.heap.size W2 W3 := by rw [hW3]; exact below_alloc _ _
  have HB13 := Lib.hid (below_step hB2 hB3)
  have HT3 := Lib.hid (obj_kept hB3 HT2.out)
  have HO3 : Hid (OwnR 36 slC 1 (p0 + 2) (.slice (some ⟨p0 + 2, 0, none⟩) 0 0) [] W3) := Lib.hid (by
    have h := own_empty 36 slC 1 W2
    rw [hs2, ← hW3] at h
    exact h)
  have hz3 : p0 + 2 ≤ W3.heap.size := by rw [← hs2]; exact hB3.size
  have HS2 := Lib.hid hs2
  go_enter Try.func6, Try.ntmps6
  go_upto_region 1 with fail
  rw [← hp0, ← hB1]
  have S0 : (fun w' : World => w'.heap[p0 + 1]? = some (.cells #[.slice pa na ca, .slice pb nb cb] 49 (0, 0))) B1.drew := by rw [← hW2]; exact HT2.out
  refine wp_region_held_drew (S := fun w' : World => w'.heap[p0 + 1]? = some (.cells #[.slice pa na ca, .slice pb nb cb] 49 (0, 0))) (by kernel_rfl) S0 (fun hHeld => ?_)
  rw [← hW2] at hHeld ⊢
  clear hW2 S0 hB1 hs1 hp0 hs2
  refine take_op (i := 1) (d := 15) (op := Op.fieldAddr 49 (Operand.tmp 5) 0) (ty := 0) (v := .pointer (some ⟨p0 + 1, 0, none⟩)) (by kernel_rfl) (by kernel_rfl) (by kernel_rfl) (by kernel_rfl) (by kernel_rfl) (fun _ _ _ h => h) (fun wS hS => by clear hS; go_simp) hHeld ?_
  simp only [Act.put, List.setIfInBounds_toArray, List.set_cons_zero, List.set_cons_succ]
  refine take_op (i := 2) (d := 16) (op := Op.load 29 (Operand.tmp 15)) (ty := 29) (v := .slice pa na ca) (by kernel_rfl) (by kernel_rfl) (by kernel_rfl) (by kernel_rfl) (by kernel_rfl) (fun _ _ _ h => h) (fun wS hS => by (try dsimp only at hS); have e0 := Lib.cell_of_heap hS 0; have e1 := Lib.cell_of_heap hS 1; clear hS; go_simp) hHeld ?_
  simp only [Act.put, List.setIfInBounds_toArray, List.set_cons_zero, List.set_cons_succ]
  refine take_op (i := 4) (d := 18) (op := Op.fieldAddr 49 (Operand.tmp 5) 1) (ty := 0) (v := .pointer (some ⟨p0 + 1, 1, none⟩)) (by kernel_rfl) (by kernel_rfl) (by kernel_rfl) (by kernel_rfl) (by kernel_rfl) (fun _ _ _ h => h) (fun wS hS => by clear hS; go_simp) hHeld ?_
  simp only [Act.put, List.setIfInBounds_toArray, List.set_cons_zero, List.set_cons_succ]
  refine take_op (i := 5) (d := 19) (op := Op.load 29 (Operand.tmp 18)) (ty := 29) (v := .slice pb nb cb) (by kernel_rfl) (by kernel_rfl) (by kernel_rfl) (by kernel_rfl) (by kernel_rfl) (fun _ _ _ h => h) (fun wS hS => by (try dsimp only at hS); have e0 := Lib.cell_of_heap hS 0; have e1 := Lib.cell_of_heap hS 1; clear hS; go_simp) hHeld ?_
  simp only [Act.put, List.setIfInBounds_toArray, List.set_cons_zero, List.set_cons_succ]
  refine wpAnyH_ready (rs := [0]) (by kernel_rfl) (by simp) ?_
  refine AllReadyH.cons rfl (fun K hK => ?_) AllReadyH.nil
  go_simp
  rw [← hW3, HS2.out]
  clear hW3
  refine hK.out _ _ HT3.out (fun hHeld => ?_)
  clear hK K
  refine wpAnyH_ready (rs := [3]) (by kernel_rfl) (by simp) ?_
  refine AllReadyH.cons rfl (fun K hK => ?_) AllReadyH.nil
  refine step_append_slc Try.underlying29 infoSl rfl (by decide) slC_len slC_cell rfl _ _ rfl (p0 + 2) (.slice (some ⟨p0 + 2, 0, none⟩) 0 0) (.slice pa na ca) [] sa rfl HO3.out rfl (SlcAt.mono HSA.out HB13.out) (by have := HLenA.out; simp; omega) (by have := HLenA.out; unfold maxLen; simp; omega) hz3 ?_
  intro v4 W4 ho4 hg4
  have hne4 : some (p0 + 1) ≠ (Value.slice (some ⟨p0 + 2, 0, none⟩) 0 0).ownBlock := by intro e; have e := Option.some.inj e; simp at e
  have HT4 := Lib.hid (obj_far HT3.out hg4 hne4)
  have hb4 : Below (p0 + 2) W2 W4 := below_app (hB3.mono (by rw [HS2.out]; exact Nat.le_refl _)) hg4 HO3.out hz3
  have HO4 : Hid (OwnR 36 slC 1 (p0 + 2) v4 sa W4) := Lib.hid (by simpa using ho4)
  have hz4 : p0 + 2 ≤ W4.heap.size := by have := hb4.size; rw [HS2.out] at this; exact this
  have HB14 : Hid (Below B1.heap.size B1 W4) := Lib.hid (hB2.trans (hb4.mono (by rw [← HS2.out]; exact hB2.size)))
  refine hK.out _ _ HT4.out (fun hHeld => ?_)
  clear hK K ho4 hg4 hne4
  simp only [Act.put, List.setIfInBounds_toArray, List.set_cons_zero, List.set_cons_succ]
  refine wpAnyH_ready (rs := [6]) (by kernel_rfl) (by simp) ?_
  refine AllReadyH.cons rfl (fun K hK => ?_) AllReadyH.nil
  refine step_append_slc Try.underlying29 infoSl rfl (by decide) slC_len slC_cell rfl _ _ rfl (p0 + 2) v4 (.slice pb nb cb) sa sb rfl HO4.out rfl (SlcAt.mono HSB.out HB14.out) (by have := HLenA.out; have := HLenB.out; omega) (by have := HLenA.out; have := HLenB.out; unfold maxLen; omega) hz4 ?_
  intro v5 W5 ho5 hg5
  have hne5 : some (p0 + 1) ≠ v4.ownBlock := fun e => by have := (World.ownsRow.lt HO4.out _ e.symm).1; omega
  have HT5 := Lib.hid (obj_far HT4.out hg5 hne5)
  have hb5 : Below (p0 + 2) W2 W5 := below_app hb4 hg5 HO4.out hz4
  have HB15 : Hid (Below B1.heap.size B1 W5) := Lib.hid (hB2.trans (hb5.mono (by rw [← HS2.out]; exact hB2.size)))
  have HALL : Hid (LinesAt W5 v5 (A ++ B)) := Lib.hid (vals_lines (ho5.at slC_len) ((HLA.out.mono HB15.out).app (HLB.out.mono HB15.out)))
  refine hK.out _ _ HT5.out (fun hHeld => ?_)
  clear hK K ho5 hg5 hne5
  simp only [Act.put, List.setIfInBounds_toArray, List.set_cons_zero, List.set_cons_succ]
  refine wpAnyH_ready (rs := [7]) (by kernel_rfl) (by simp) ?_
  refine AllReadyH.cons rfl (fun K hK => ?_) AllReadyH.nil
  go_simp
  refine hK.out _ _ hHeld (fun _ => ?_)
  clear hK K
  refine wpAnyH_done (by kernel_rfl) ?_ _
  have HBw5 := Lib.hid (below_step HB1.out HB15.out)
  have HM5 := Lib.hid (obj_kept HB15.out HM1.out)
  have HA5 := Lib.hid (lines_mono _ _ _ _ HA.out HBw5.out)
  have HB5 := Lib.hid (lines_mono _ _ _ _ HB.out HBw5.out)
  clear hb4 hb5 hz3 hz4 hHeld hB2 hB3 HT2 HT3 HT4 HO3 HO4 HB13 HB14 HSA HSB HLA HLB HLenA HLenB HS2
  clear HM1 HT1 HB1 HB15
  obtain ⟨x0, x1, x2, x3, z4, z5, z6, z7⟩ := met_cells9 HM5.out
  have HC6 := Lib.hid (HVT.out _ W5 HALL.out)
  go_wp2_with fail
  refine HC6.out.mono ?_
  rintro e w6 ⟨a6, cap6, rfl, hi6, hb6⟩
  have hb6' := below_step hb6 (below_alloc w6 (.cells #[.int .i64 0, .int .i64 0] 33))
  obtain ⟨W6, hW6⟩ : ∃ W, W = w6.alloc (.cells #[.int .i64 0, .int .i64 0] 33) := ⟨_, rfl⟩
  have HI6 := Lib.hid (SlcAt.mono hi6 (below_alloc w6 (.cells #[.int .i64 0, .int .i64 0] 33)))
  have HG6 := Lib.hid (flt_new w6 0 0)
  rw [← hW6] at hb6' HG6 HI6
  have HB6 := Lib.hid (below_step HBw5.out hb6')
  have HM6 := Lib.hid (obj_kept hb6' HM5.out)
  have HA6 := Lib.hid (lines_mono _ _ _ _ HA5.out hb6')
  have HB6l := Lib.hid (lines_mono _ _ _ _ HB5.out hb6')
  have HT6 := Lib.hid (obj_kept hb6' HT5.out)
  clear hb6 hb6' hi6 x0 x1 x2 x3 z4 z5 z6 z7 HM5 HA5 HB5 HT5
  obtain ⟨r6, hr6⟩ : ∃ r, r = w6.heap.size := ⟨_, rfl⟩
  rw [← hr6] at HG6
  go_upto_region 3 with fail
  rw [← hW6, ← hr6]
  clear hW6 hr6
  have HFx := Lib.hid (HF.out W6)
  go_wp2_with fail
  refine HFx.out.mono ?_
  rintro e w7 ⟨rfl, hb7⟩
  have HB7 := Lib.hid (below_step HB6.out hb7)
  have HG7 := Lib.hid (HG6.out.mono hb7)
  have a0 := HG7.out.c0
  have a1 := HG7.out.c1
  have HM7 := Lib.hid (obj_kept hb7 HM6.out)
  have HT7 := Lib.hid (obj_kept hb7 HT6.out)
  have HA7 := Lib.hid (lines_mono _ _ _ _ HA6.out hb7)
  have HB7l := Lib.hid (lines_mono _ _ _ _ HB6l.out hb7)
  have HI7 := Lib.hid (SlcAt.mono HI6.out hb7)
  have t0 := Lib.cell_of_heap HT7.out 0
  have t1 := Lib.cell_of_heap HT7.out 1
  clear hb7 HM6 HT6 HA6 HB6l HI6 HG6
  obtain ⟨x0, x1, x2, x3, z4, z5, z6, z7⟩ := met_cells9 HM7.out
  have HC8 := Lib.hid (HVA.out _ w7 HA7.out)
  go_wp2_with fail
  refine HC8.out.mono ?_
  rintro e w8 ⟨a8, cap8, rfl, hi8, hb8⟩
  have hb8' := below_step hb8 (below_alloc w8 (.cells #[.int .i64 0, .int .i64 0] 33))
  obtain ⟨W8, hW8⟩ : ∃ W, W = w8.alloc (.cells #[.int .i64 0, .int .i64 0] 33) := ⟨_, rfl⟩
  have HI8 := Lib.hid (SlcAt.mono hi8 (below_alloc w8 (.cells #[.int .i64 0, .int .i64 0] 33)))
  have HG8 := Lib.hid (flt_new w8 0 0)
  rw [← hW8] at hb8' HG8 HI8
  have HB8 := Lib.hid (below_step HB7.out hb8')
  have HM8 := Lib.hid (obj_kept hb8' HM7.out)
  have HB8l := Lib.hid (lines_mono _ _ _ _ HB7l.out hb8')
  have HT8 := Lib.hid (obj_kept hb8' HT7.out)
  have HI8t := Lib.hid (SlcAt.mono HI7.out hb8')
  clear hb8 a0 a1 t0 t1 hb8' hi8 x0 x1 x2 x3 z4 z5 z6 z7 HM7 HB7l HT7 HI7
  obtain ⟨r8, hr8⟩ : ∃ r, r = w8.heap.size := ⟨_, rfl⟩
  rw [← hr8] at HG8
  go_upto_region 6 with fail
  rw [← hW8, ← hr8]
  clear hW8 hr8
  have t0 := Lib.cell_of_heap HT8.out 0
  have t1 := Lib.cell_of_heap HT8.out 1
  obtain ⟨x0, x1, x2, x3, z4, z5, z6, z7⟩ := met_cells9 HM8.out
  have HC9 := Lib.hid (HVB.out _ W8 HB8l.out)
  go_wp2_with fail
  refine HC9.out.mono ?_
  rintro e w9 ⟨a9, cap9, rfl, hi9, hb9⟩
  have hb9' := below_step hb9 (below_alloc w9 (.cells #[.int .i64 0, .int .i64 0] 33))
  obtain ⟨W9, hW9⟩ : ∃ W, W = w9.alloc (.cells #[.int .i64 0, .int .i64 0] 33) := ⟨_, rfl⟩
  have HI9 := Lib.hid (SlcAt.mono hi9 (below_alloc w9 (.cells #[.int .i64 0, .int .i64 0] 33)))
  have HG9 := Lib.hid (flt_new w9 0 0)
  rw [← hW9] at hb9' HG9 HI9
  have HB9 := Lib.hid (below_step HB8.out hb9')
  have HI9t := Lib.hid (SlcAt.mono HI8t.out hb9')
  have HI9a := Lib.hid (SlcAt.mono HI8.out hb9')
  have HG9a := Lib.hid (HG8.out.mono hb9')
  clear hb9 t0 t1 hb9' hi9 x0 x1 x2 x3 z4 z5 z6 z7 HI8t HI8 HG8
  obtain ⟨r9, hr9⟩ : ∃ r, r = w9.heap.size := ⟨_, rfl⟩
  rw [← hr9] at HG9
  go_upto_region 7 with fail
  rw [← hW9, ← hr9]
  clear hW9 hr9
  have a0 := HG9a.out.c0
  have a1 := HG9a.out.c1
  have a2 := HG9.out.c0
  have a3 := HG9.out.c1
  have hs1 : ∀ wx, (Instr.slice 30 (.slice a6 nt cap6) none (some (.int .i64 (ka : Int))) none).run Try.prog wx = .ok (.slice a6 ka cap6) wx := fun wx => run_head9 a6 nt ka cap6 (by
    obtain ⟨⟨_, _, e, hc⟩, _, _⟩ := HI9t.out
    injection e with e1 e2 e3
    have := Hle.out
    omega) wx
  have hs2 : ∀ wx, (Instr.sliceAt 30 (.slice a6 nt cap6) none (some (.int .i64 (ka : Int))) none).run Try.prog wx = .ok (.slice a6 ka cap6) wx := fun wx => by rw [run_sliceAt_slice (h := by rw [elemIt]; exact Try.underlying30)]; exact hs1 wx
  have hs3 : ∀ wx, (Instr.slice 30 (.slice a6 nt cap6) (some (.int .i64 (ka : Int))) none none).run Try.prog wx = .ok (.slice (tailA a6 ka cap6) (nt - ka) (cap6 - ka)) wx := fun wx => run_tail9 a6 nt ka cap6 Hle.out wx
  have hs4 : ∀ wx, (Instr.sliceAt 30 (.slice a6 nt cap6) (some (.int .i64 (ka : Int))) none none).run Try.prog wx = .ok (.slice (tailA a6 ka cap6) (nt - ka) (cap6 - ka)) wx := fun wx => by rw [run_sliceAt_slice (h := by rw [elemIt]; exact Try.underlying30)]; exact hs3 wx
  have HSx := Lib.hid (HSm.out W9 (.slice a6 ka cap6) (.slice a8 ka cap8) (slc_head (by have h := HI9t.out; rw [HnT.out] at h; exact h) ka (by have := Hle.out; have := HnT.out; omega)) HI9a.out)
  go_wp2_with fail
  refine HSx.out.mono ?_
  rintro e w10 ⟨rfl, hb10⟩
  have HB10 := Lib.hid (below_step HB9.out hb10)
  have HIt := Lib.hid (SlcAt.mono HI9t.out hb10)
  have HIa := Lib.hid (SlcAt.mono HI9a.out hb10)
  have HIb := Lib.hid (SlcAt.mono HI9.out hb10)
  have HXa := Lib.hid (HXA.out _ w10 HIa.out)
  clear hb10 a0 a1 a2 a3
  go_wp2_with fail
  refine HXa.out.mono ?_
  rintro e w11 ⟨a11, cap11, rfl, hb11⟩
  have HB11 := Lib.hid (below_step HB10.out hb11)
  have HIt1 := Lib.hid (SlcAt.mono HIt.out hb11)
  have HIb1 := Lib.hid (SlcAt.mono HIb.out hb11)
  have HXb := Lib.hid (HXB.out _ w11 HIb1.out)
  clear hb11
  go_wp2_with fail
  refine HXb.out.mono ?_
  rintro e w12 ⟨a12, cap12, rfl, hb12⟩
  have HB12 := Lib.hid (below_step HB11.out hb12)
  have HIt2 := Lib.hid (SlcAt.mono HIt1.out hb12)
  have HXt := Lib.hid (HXT.out _ w12 HIt2.out)
  clear hb12
  go_wp2_with fail
  refine HXt.out.mono ?_
  rintro e w13 ⟨a13, cap13, rfl, hb13⟩
  have HB13' := Lib.hid (below_step HB12.out hb13)
  have HIt3 := Lib.hid (SlcAt.mono HIt2.out hb13)
  have HMx := Lib.hid (HMy.out (.slice (tailA a6 ka cap6) (nt - ka) (cap6 - ka)) w13 (by
    have h := HIt3.out
    rw [HnT.out] at h ⊢
    exact slc_tail h ka (by have := Hle.out; have := HnT.out; omega)))
  clear hb13
  go_wp2_with fail
  refine HMx.out.mono ?_
  rintro e w14 ⟨rfl, hb14⟩
  have HB14' := Lib.hid (below_step HB13'.out hb14)
  clear hb14
  go_wp2
  go_ret
  exact ⟨rfl, HB14'.out⟩
theorem lawParts9 (sp : It.Gl) (x4 x5 x6 x7 : Value) (hy : Int) (va vb : Value) (A B : List (List (List It.Pt))) (w : World) (hA : LinesAt w va A) (hB : LinesAt w vb B) (hnA : A.length ≤ 1048576) (hnB : B.length ≤ 1048576) :
    Calls Try.prog 6 #[metV9 sp x4 x5 x6 x7, .int .i64 hy, .agg #[va, vb]] w (Ret (.bool true) w) := by
  cases hmay : It.may (It.versI sp hy 0 (A ++ B)) with
  | false => exact lawParts9_no sp x4 x5 x6 x7 hy va vb A B w hA hB hnA hnB hmay
  | true => exact lawParts9_yes sp x4 x5 x6 x7 hy va vb A B w hA hB hnA hnB hmay
end Go.Proofs.Ytfgfplpbddapnaa
