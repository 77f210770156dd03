/-
  The landed takeLabel: a label of a text.
-/
import Derived.Test.YtfjplhgajoehfaaGreatDoorQWord14
set_option linter.unusedVariables false
set_option linter.unusedSimpArgs false
namespace Go.Proofs.YtfjplhgajoehfaaGreatDoor
open Go.RowKit

/-- a lookup in a region -/
theorem step_look14 {w : World} {ops : Array Oper} {o : Oper} {a : Act} {K' : Act → World → Prop} {Q : Exit → Act → World → Prop} {Ex : Prop} (hgd : o.guard = none) (m x : Operand) (t : TypeId) (hop : o.op = Op.lookup t m x true)
    {e : TypeId} (hT : Tryz.prog.underlying t = some (.map 9 e)) {z : Value} (hz : (zeroValue e).run Tryz.prog w = .ok z w) (b : Nat) (l : List (List UInt8 × Value)) (hm : a.eval m = .map (some b)) (hown : Map14 w b l) (y : List UInt8) (hx : a.eval x = .string (str y))
    (hK : K' (a.put o.dst (.tuple #[(look y l).getD z, .bool (look y l).isSome])) w) : if Region.wanted o (yielded ops a.tmps) = true then Oper.wp Tryz.prog o a w K' Q else Ex := by
  rw [if_pos (by simp [Region.wanted, hgd])]
  have hrun := run_look14 hT hz hown y
  unfold Oper.wp
  simp [execOp, hop, hm, hx, hrun, Result.andThen]
  exact hK
theorem step_put14 {w : World} {ops : Array Oper} {o : Oper} {a : Act} {K' : Act → World → Prop} {Q : Exit → Act → World → Prop} {Ex : Prop} (hgd : o.guard = none) (m x v : Operand) (t : TypeId) (hop : o.op = Op.mapUpdate t m x v)
    {e : TypeId} (hT : Tryz.prog.underlying t = some (.map 9 e)) (b : Nat) (l : List (List UInt8 × Value)) (hm : a.eval m = .map (some b)) (hown : Map14 w b l) (y : List UInt8) (hx : a.eval x = .string (str y)) (hl : look y l = none) (val : Value) (hv : a.eval v = val)
    (hK : ∀ w', Map14 w' b (l ++ [(y, val)]) → w.grownBy w' (some b) → K' (a.put o.dst undef) w') : if Region.wanted o (yielded ops a.tmps) = true then Oper.wp Tryz.prog o a w K' Q else Ex := by
  rw [if_pos (by simp [Region.wanted, hgd])]
  obtain ⟨w', hrun, r1, r2⟩ := run_put14 hT hown y hl val
  unfold Oper.wp
  simp [execOp, hop, hm, hx, hv, hrun, Result.andThen]
  exact hK w' r1 r2
theorem zeroUnit14 (w : World) : (zeroValue 146).run Tryz.prog w = .ok (.agg #[]) w := by kernel_rfl
/-- the names of labels, as a map holds them -/
def nameM (l : List (List UInt8)) : List (List UInt8 × Value) := l.map fun x => (x, .agg #[])
theorem look_name (x : List UInt8) : ∀ l : List (List UInt8), look x (nameM l) = if x ∈ l then some (.agg #[]) else none
  | [] => by simp [nameM, look]
  | y :: r => by
    have ih := look_name x r
    unfold nameM at ih ⊢
    simp only [List.map_cons, look]
    by_cases h : x = y
    · rw [if_pos h, if_pos (by simp [h])]
    · rw [if_neg h, ih]
      simp [h]
theorem lab_names (l : List El.Lab) : (l.map fun x => (x.name, Value.agg #[])) = nameM (l.map (·.name)) := by
  unfold nameM
  rw [List.map_map]
  rfl

/-- the maker, where the map of labels is one name ahead -/
structure MkL (E : Env14) (S : Nat → Prop) (w1 : World) (lev d : Nat) (s : El.St) (K : Nat → Prop) (y : Dyn) (lst : List (List UInt8)) (w : World) : Prop where
  obj : w.heap[E.p]? = some (.cells (E.cells y lev s) 83 (0, 0))
  lab : Map14 w E.bl (nameM lst)
  below : Below E.w0.heap.size E.w0 w
  keep : ∀ b, S b → w.heap[b]? = w1.heap[b]?
  KS : ∀ b, S b → ¬ K b
  Kp : ¬ K E.p
  Kl : ¬ K E.bl
  Sp : ¬ S E.p
  Sl : ¬ S E.bl
  hp : E.w0.heap.size ≤ E.p
  hl : E.w0.heap.size ≤ E.bl
  rows : Rows14 E.w0.heap.size d s K (fun b => K b ∨ S b) y w
section
variable {E : Env14} {S : Nat → Prop} {w1 : World} {lev d : Nat} {s s' : El.St} {K : Nat → Prop} {y y' : Dyn} {lst : List (List UInt8)} {w w' : World}
theorem MkP.put (h : MkP E S w1 lev d s K y w) {x : List UInt8} (hm : Map14 w' E.bl ((nameM (s.labels.map (·.name))) ++ [(x, .agg #[])])) (hg : w.grownBy w' (some E.bl)) : MkL E S w1 lev d s K y (s.labels.map (·.name) ++ [x]) w' where
  obj := obj_far h.obj hg (fun e => h.ppl (Option.some.inj e))
  lab := by
    have e : nameM (s.labels.map (·.name) ++ [x]) = nameM (s.labels.map (·.name)) ++ [(x, .agg #[])] := by unfold nameM; rw [List.map_append]; rfl
    rw [e]; exact hm
  below := h.below.grown hg h.below.size (fun q hq => by cases hq; exact h.hl)
  keep := fun b hb => (hg.block b (h.Slt hb) (fun e => h.Sl (Option.some.inj e ▸ hb))).trans (h.keep b hb)
  KS := h.KS
  Kp := h.Kp
  Kl := h.Kl
  Sp := h.Sp
  Sl := h.Sl
  hp := h.hp
  hl := h.hl
  rows := h.rows.kept hg (fun b hb e => hb.elim (fun h1 => h.Kl (Option.some.inj e ▸ h1)) (fun h1 => h.Sl (Option.some.inj e ▸ h1))) (fun b e => by
    cases e
    obtain ⟨es, clock, h1, _⟩ := h.lab
    exact .inr ⟨_, h1, fun T cs fr e => by cases e⟩)
theorem MkL.mono (h : MkL E S w1 lev d s K y lst w) (hb : Below w.heap.size w w') : MkL E S w1 lev d s K y lst w' where
  obj := obj_kept hb h.obj
  lab := h.lab.mono hb
  below := h.below.trans (hb.mono h.below.size)
  keep := fun b hb' => (hb.block b (h.rows.Klt b (.inr hb'))).trans (h.keep b hb')
  KS := h.KS
  Kp := h.Kp
  Kl := h.Kl
  Sp := h.Sp
  Sl := h.Sl
  hp := h.hp
  hl := h.hl
  rows := h.rows.mono hb
theorem MkL.objFar (h : MkL E S w1 lev d s K y lst w) {ρ α : Type} {κ : Knd ρ α} {v0 : Value} {l : List α} (ho : OwnE κ E.w0.heap.size K (fun b => K b ∨ S b) v0 l w) (hg : w.grownBy w' v0.ownBlock) (hκ : 83 ≠ κ.T) : w'.heap[E.p]? = some (.cells (E.cells y lev s) 83 (0, 0)) := by
  obtain ⟨rs, hr, _⟩ := ho.row
  exact obj_far h.obj hg (own_off9 hr h.obj hκ)
theorem MkL.push (h : MkL E S w1 lev d s K y lst w) {row : Option Nat} (hg : w.grownBy w' row) {ρ α : Type} {κ : Knd ρ α} {v0 : Value} {l : List α} (ho : OwnE κ E.w0.heap.size K (fun b => K b ∨ S b) v0 l w) (hrow : row = v0.ownBlock) (hκ : 83 ≠ κ.T) (rows' : Rows14 E.w0.heap.size d s' K (fun b => K b ∨ S b) y' w') (hl : s'.labels.map (·.name) = lst) (i : Nat) (v : Value)
    (hc : (E.cells y lev s).setIfInBounds i v = E.cells y' lev s') : MkP E S w1 lev d s' K y' (w'.setCell ⟨E.p, i, none⟩ v) := by
  subst hrow
  obtain ⟨rs, hr, _⟩ := ho.row
  have hne : some E.p ≠ v0.ownBlock := own_off9 hr h.obj hκ
  have hnl : some E.bl ≠ v0.ownBlock := fun e => by
    obtain ⟨es, clock, h1, _⟩ := h.lab
    rcases hr.2 with ⟨rfl, _⟩ | ⟨g, cap, cur, rfl, _, hg', _⟩
    · cases e
    · simp [Value.ownBlock] at e
      rw [← e, h1] at hg'
      cases hg'
  have hobj : w'.heap[E.p]? = some (.cells (E.cells y lev s) 83 (0, 0)) := obj_far h.obj hg hne
  have hlab := h.lab.kept hg hnl
  have hb' : Below E.w0.heap.size E.w0 w' := h.below.grown hg h.below.size (fun q hq => (ho.lt hq).1)
  have hpl : E.bl ≠ E.p := fun e => by
    obtain ⟨es, clock, h1, _⟩ := h.lab
    have h2 := h.obj
    rw [← e, h1] at h2
    cases h2
  exact {
    obj := by rw [heap_setCell_same w' E.p i _ _ v hobj, hc]
    lab := by rw [lab_names, hl]; exact hlab.kept (grown_set _ _ _ _) (fun e => hpl (Option.some.inj e))
    below := hb'.setCell (p := ⟨E.p, i, none⟩) h.hp v
    keep := fun b hb => by
      rw [Below.heap_setCell w' ⟨E.p, i, none⟩ v b (fun e => h.Sp (by have e2 : b = E.p := e; rw [← e2]; exact hb))]
      rw [hg.block b (h.rows.Klt b (.inr hb)) (fun e => ho.ne b (.inr hb) e.symm)]
      exact h.keep b hb
    KS := h.KS
    Kp := h.Kp
    Kl := h.Kl
    Sp := h.Sp
    Sl := h.Sl
    hp := h.hp
    hl := h.hl
    rows := rows'.setp hobj makerT (fun hk => hk.elim h.Kp h.Sp) }
theorem MkL.kept (h : MkL E S w1 lev d s K y lst w) {b : Nat} {o : Obj} (hS : S b) (ho : w1.heap[b]? = some o) : w.heap[b]? = some o := by
  rw [h.keep b hS]
  exact ho
end
set_option maxHeartbeats 1000000 in
set_option maxRecDepth 100000 in
theorem words_cell (p : Nat) (a : Option Addr) (n c : Nat) (w : World) (c32 : w.cell? ⟨p, 32, none⟩ = some (.slice a n c)) : Calls Tryz.prog 81 #[.pointer (some ⟨p, 0, none⟩)] w (Is (.int .i64 n) w) := by
  go_enter Tryz.func81, Tryz.ntmps81
  go_wp2
  go_ret
  exact ⟨rfl, rfl⟩
theorem kLa_ne : 83 ≠ kLa.T := by decide

set_option maxHeartbeats 8000000 in
set_option maxRecDepth 100000 in
theorem takeLabel_any (E : Env14) (lev : Nat) : OpA E lev 3 61 (fun v => #[E.m, v]) (fun l => l = 1) El.labelOp := by
  intro S w1 hst n va s w hva har hsz hmk
  have hva2 := hva
  obtain ⟨⟨pa, ca, rfl, _⟩, _, _⟩ := hva2
  have hb := below_alloc w (.cells #[.bool (El.isCmd n), .string (str (El.text n)), .slice pa (El.args n).length ca, .int .i64 (El.loc n)] 89)
  have HS := Lib.hid (single_any E S w1 lev 3 hst n _ s _ hva har hsz (hmk.mono hb))
  show Calls _ _ #[E.m, ndV n (.slice pa (El.args n).length ca)] _ (Out14 E S w1 lev 3 ((El.single n).then (fun x => if El.text x ∈ s.labels.map (·.name) then .bad 147 (El.loc x) else .ok { s with labels := s.labels ++ [⟨El.text x, s.sides.length, s.words.length⟩] })))
  have q1 := err_nil
  have q2 := err_some
  obtain ⟨r, hr⟩ : ∃ r, r = El.single n := ⟨_, rfl⟩
  rw [← hr] at HS ⊢
  have HZ : Hid (El.sz s ≤ lim14) := Lib.hid (by omega)
  generalize (El.args n).length = la at *
  clear hb hst hmk hsz hva hr har
  unfold Env14.m ndV at HS ⊢
  go_enter Tryz.func61, Tryz.ntmps61
  go_wp2_with fail
  refine HS.out.mono ?_
  intro e w2 ho
  cases r with
  | bad c a =>
    obtain ⟨ns, T, x, s2, rfl, he, hm2⟩ := ho
    have HE := Lib.hid he
    have HM := Lib.hid (hm2.mono (below_alloc w2 (.cells #[.bool false, .string ⟨#[]⟩, .slice none 0 0, .int .i64 0] 89)))
    clear he hm2 HS
    go_wp2
    go_ret
    exact ⟨ns, _, s2, rfl, HE.out, HM.out⟩
  | word x =>
    obtain ⟨hm2, a2, k2, c2, rfl, hx⟩ := ho
    obtain ⟨wb, hwb⟩ : ∃ wb, wb = w2.alloc (.cells #[.bool (El.isCmd x), .string (str (El.text x)), .slice a2 k2 c2, .int .i64 (El.loc x)] 89) := ⟨_, rfl⟩
    have hb : Below w2.heap.size w2 wb := by rw [hwb]; exact below_alloc _ _
    have hbx : wb.heap[w2.heap.size]? = some (.cells #[.bool (El.isCmd x), .string (str (El.text x)), .slice a2 k2 c2, .int .i64 (El.loc x)] 89 (0, 0)) := by rw [hwb]; exact obj_new _ _ rfl _ _
    have hinS : Plus S w2 wb w2.heap.size := .inr ⟨Nat.le_refl _, by rw [hwb, World.size_alloc]; omega⟩
    have HBK := Lib.hid (fun lev' d' s' w3 (h : MK E (Plus S w2 wb) wb lev' d' s' w3) => hm2.back hb h)
    obtain ⟨K0, y, hP⟩ := hm2.enter hb
    have c30 := hP.c30
    have b1 := mcell hbx 1 rfl
    have hlab := hP.lab
    rw [lab_names] at hlab
    have HLB := Lib.hid hlab
    have HP := Lib.hid hP
    have HBX := Lib.hid hbx
    have HIS := Lib.hid hinS
    have hlook := look_name (El.text x) (s.labels.map (·.name))
    clear hlab hP hbx hinS hb hm2 HS
    have HLM := Lib.hid (fun w7 (hb7 : Below wb.heap.size wb w7) => HLB.out.mono hb7)
    clear HLB
    by_cases hin : (El.text x) ∈ s.labels.map (·.name)
    · rw [if_pos hin] at hlook
      have HF := Lib.hid (fun w7 (hb7 : Below wb.heap.size wb w7) => fail_out (d := 3) (MK.mono ⟨K0, y, HP.out⟩ hb7) (fail_any 147 (El.loc x) w7))
      have b3 := mcell HBX.out 3 rfl
      unfold ndV
      go_upto_region 4 with fail
      rw [← hwb]
      clear hwb
      go_cut [8] (fun bv wx => bv = .bool true ∧ Hid (Below wb.heap.size wb wx))
      case first =>
        refine wp_region_held_drew (S := fun w' : World => w'.cell? ⟨E.p, 30, none⟩ = some (.map (some E.bl)) ∧ w'.cell? ⟨w2.heap.size, 1, none⟩ = some (.string (str (El.text x)))) (by kernel_rfl) ⟨c30, b1⟩ (fun hHeld => ?_)
        refine take_op (i := 0) (d := 19) (op := Op.move (Operand.tmp 0)) (ty := 66) (v := (.pointer (some ⟨E.p, 0, none⟩))) (by kernel_rfl) (by kernel_rfl) (by kernel_rfl) (by kernel_rfl) (by kernel_rfl) (fun _ _ _ h => h) (fun wS hS => by clear hS; go_simp) hHeld ?_
        simp only [Act.put, List.setIfInBounds_toArray, List.set_cons_zero, List.set_cons_succ]
        refine take_op (i := 1) (d := 20) (op := Op.nilCheck (Operand.tmp 19)) (ty := 0) (v := (.pointer (some ⟨E.p, 0, none⟩))) (by kernel_rfl) (by kernel_rfl) (by kernel_rfl) (by kernel_rfl) (by kernel_rfl) (fun _ _ _ h => h) (fun wS hS => by clear hS; go_simp) hHeld ?_
        simp only [Act.put, List.setIfInBounds_toArray, List.set_cons_zero, List.set_cons_succ]
        refine take_op (i := 2) (d := 21) (op := Op.fieldAddr 83 (Operand.tmp 20) 3) (ty := 0) (v := (.pointer (some ⟨E.p, 30, none⟩))) (by kernel_rfl) (by kernel_rfl) (by kernel_rfl) (by kernel_rfl) (by kernel_rfl) (fun _ _ _ h => h) (fun wS hS => by clear hS; go_simp) hHeld ?_
        simp only [Act.put, List.setIfInBounds_toArray, List.set_cons_zero, List.set_cons_succ]
        refine take_op (i := 3) (d := 22) (op := Op.load 81 (Operand.tmp 21)) (ty := 81) (v := (.map (some E.bl))) (by kernel_rfl) (by kernel_rfl) (by kernel_rfl) (by kernel_rfl) (by kernel_rfl) (fun _ _ _ h => h) (fun wS hS => by (try dsimp only at hS); have e0 := hS.1; have e1 := hS.2; clear hS; go_simp) hHeld ?_
        simp only [Act.put, List.setIfInBounds_toArray, List.set_cons_zero, List.set_cons_succ]
        refine take_op (i := 4) (d := 23) (op := Op.fieldAddr 89 (Operand.tmp 5) 1) (ty := 0) (v := (.pointer (some ⟨w2.heap.size, 1, none⟩))) (by kernel_rfl) (by kernel_rfl) (by kernel_rfl) (by kernel_rfl) (by kernel_rfl) (fun _ _ _ h => h) (fun wS hS => by clear hS; go_simp) hHeld ?_
        simp only [Act.put, List.setIfInBounds_toArray, List.set_cons_zero, List.set_cons_succ]
        refine take_op (i := 5) (d := 24) (op := Op.load 9 (Operand.tmp 23)) (ty := 9) (v := (.string (str (El.text x)))) (by kernel_rfl) (by kernel_rfl) (by kernel_rfl) (by kernel_rfl) (by kernel_rfl) (fun _ _ _ h => h) (fun wS hS => by (try dsimp only at hS); have e0 := hS.1; have e1 := hS.2; clear hS; go_simp) hHeld ?_
        simp only [Act.put, List.setIfInBounds_toArray, List.set_cons_zero, List.set_cons_succ]
        refine wpAnyH_ready (rs := [6, 10]) (by kernel_rfl) (by simp) ?_
        refine AllReadyH.cons rfl (fun K hK => ?_) (AllReadyH.cons rfl (fun K hK => ?_) AllReadyH.nil)
        · refine step_look14 (by rfl) _ _ 81 (by rfl) Tryz.underlying81 (zeroUnit14 _) E.bl _ (by rfl) (HLM.out _ (below_drew9 _)) (El.text x) (by rfl) ?_
          rw [hlook]
          simp only [Option.getD_some, Option.isSome_some]
          refine hK.out _ _ hHeld (fun hHeld => ?_)
          clear hK K
          try simp only [Act.put, List.setIfInBounds_toArray, List.set_cons_zero, List.set_cons_succ]
          refine take_op (i := 7) (d := 18) (op := Op.move (Operand.tmp 25)) (ty := 147) (v := (.tuple #[.agg #[], .bool true])) (by kernel_rfl) (by kernel_rfl) (by kernel_rfl) (by kernel_rfl) (by kernel_rfl) (fun _ _ _ h => h) (fun wS hS => by clear hS; go_simp) hHeld ?_
          simp only [Act.put, List.setIfInBounds_toArray, List.set_cons_zero, List.set_cons_succ]
          refine take_op (i := 8) (d := 26) (op := Op.extract (Operand.tmp 18) 0) (ty := 146) (v := (.agg #[])) (by kernel_rfl) (by kernel_rfl) (by kernel_rfl) (by kernel_rfl) (by kernel_rfl) (fun _ _ _ h => h) (fun wS hS => by clear hS; go_simp) hHeld ?_
          simp only [Act.put, List.setIfInBounds_toArray, List.set_cons_zero, List.set_cons_succ]
          refine take_op (i := 9) (d := 27) (op := Op.extract (Operand.tmp 18) 1) (ty := 4) (v := (.bool true)) (by kernel_rfl) (by kernel_rfl) (by kernel_rfl) (by kernel_rfl) (by kernel_rfl) (fun _ _ _ h => h) (fun wS hS => by clear hS; go_simp) hHeld ?_
          simp only [Act.put, List.setIfInBounds_toArray, List.set_cons_zero, List.set_cons_succ]
          refine wpAnyH_ready (rs := [10]) (by kernel_rfl) (by simp) ?_
          refine AllReadyH.cons rfl (fun K hK => ?_) AllReadyH.nil
          go_simp
          refine hK.out _ _ ⟨cell_below (below_step (below_drew9 wb) (below_alloc _ _)) c30, cell_below (below_step (below_drew9 wb) (below_alloc _ _)) b1⟩ (fun hHeld => ?_)
          clear hK K
          refine wpAnyH_ready (rs := [11]) (by kernel_rfl) (by simp) ?_
          refine AllReadyH.cons rfl (fun K hK => ?_) AllReadyH.nil
          go_simp
          refine hK.out _ _ hHeld (fun hHeld => ?_)
          clear hK K
          refine take_op (i := 12) (d := 8) (op := Op.assign (Operand.tmp 27)) (ty := 4) (v := (.bool true)) (by kernel_rfl) (by kernel_rfl) (by kernel_rfl) (by kernel_rfl) (by kernel_rfl) (fun _ _ _ h => h) (fun wS hS => by clear hS; go_simp) hHeld ?_
          simp only [Act.put, List.setIfInBounds_toArray, List.set_cons_zero, List.set_cons_succ]
          refine wpAnyH_done (by kernel_rfl) ?_ _
          go_wp2_with fail
          go_meet
          exact ⟨rfl, Lib.hid (below_step (below_drew9 _) (below_alloc _ _))⟩
        · go_simp
          refine hK.out _ _ ⟨cell_below (below_step (below_drew9 wb) (below_alloc _ _)) c30, cell_below (below_step (below_drew9 wb) (below_alloc _ _)) b1⟩ (fun hHeld => ?_)
          clear hK K
          refine wpAnyH_ready (rs := [6]) (by kernel_rfl) (by simp) ?_
          refine AllReadyH.cons rfl (fun K hK => ?_) AllReadyH.nil
          refine step_look14 (by rfl) _ _ 81 (by rfl) Tryz.underlying81 (zeroUnit14 _) E.bl _ (by rfl) (HLM.out _ (below_step (below_drew9 _) (below_alloc _ _))) (El.text x) (by rfl) ?_
          rw [hlook]
          simp only [Option.getD_some, Option.isSome_some]
          refine hK.out _ _ hHeld (fun hHeld => ?_)
          clear hK K
          try simp only [Act.put, List.setIfInBounds_toArray, List.set_cons_zero, List.set_cons_succ]
          refine take_op (i := 7) (d := 18) (op := Op.move (Operand.tmp 25)) (ty := 147) (v := (.tuple #[.agg #[], .bool true])) (by kernel_rfl) (by kernel_rfl) (by kernel_rfl) (by kernel_rfl) (by kernel_rfl) (fun _ _ _ h => h) (fun wS hS => by clear hS; go_simp) hHeld ?_
          simp only [Act.put, List.setIfInBounds_toArray, List.set_cons_zero, List.set_cons_succ]
          refine take_op (i := 8) (d := 26) (op := Op.extract (Operand.tmp 18) 0) (ty := 146) (v := (.agg #[])) (by kernel_rfl) (by kernel_rfl) (by kernel_rfl) (by kernel_rfl) (by kernel_rfl) (fun _ _ _ h => h) (fun wS hS => by clear hS; go_simp) hHeld ?_
          simp only [Act.put, List.setIfInBounds_toArray, List.set_cons_zero, List.set_cons_succ]
          refine take_op (i := 9) (d := 27) (op := Op.extract (Operand.tmp 18) 1) (ty := 4) (v := (.bool true)) (by kernel_rfl) (by kernel_rfl) (by kernel_rfl) (by kernel_rfl) (by kernel_rfl) (fun _ _ _ h => h) (fun wS hS => by clear hS; go_simp) hHeld ?_
          simp only [Act.put, List.setIfInBounds_toArray, List.set_cons_zero, List.set_cons_succ]
          refine wpAnyH_ready (rs := [11]) (by kernel_rfl) (by simp) ?_
          refine AllReadyH.cons rfl (fun K hK => ?_) AllReadyH.nil
          go_simp
          refine hK.out _ _ hHeld (fun hHeld => ?_)
          clear hK K
          refine take_op (i := 12) (d := 8) (op := Op.assign (Operand.tmp 27)) (ty := 4) (v := (.bool true)) (by kernel_rfl) (by kernel_rfl) (by kernel_rfl) (by kernel_rfl) (by kernel_rfl) (fun _ _ _ h => h) (fun wS hS => by clear hS; go_simp) hHeld ?_
          simp only [Act.put, List.setIfInBounds_toArray, List.set_cons_zero, List.set_cons_succ]
          refine wpAnyH_done (by kernel_rfl) ?_ _
          go_wp2_with fail
          go_meet
          exact ⟨rfl, Lib.hid (below_step (below_drew9 _) (below_alloc _ _))⟩
      case rest =>
        obtain ⟨rfl, HB8⟩ := hcut
        have d3 := cell_below HB8.out b3
        clear b3 b1 c30
        go_wp2_with fail
        refine (HF.out _ HB8.out).mono ?_
        rintro e w7 ⟨ns, v, s2, rfl, he, hm7⟩
        have HE := Lib.hid he
        have HM := Lib.hid (HBK.out _ _ _ _ hm7)
        clear he hm7 d3 HF
        go_wp2
        go_ret
        show Out14 E S w1 lev 3 (if El.text x ∈ s.labels.map (·.name) then .bad 147 (El.loc x) else .ok { s with labels := s.labels ++ [⟨El.text x, s.sides.length, s.words.length⟩] }) _ _
        rw [if_pos hin]
        exact ⟨ns, v, s2, rfl, HE.out, HM.out⟩
    · rw [if_neg hin] at hlook
      unfold ndV
      go_upto_region 4 with fail
      rw [← hwb]
      clear hwb
      go_cut [8] (fun bv wx => bv = .bool false ∧ Hid (Below wb.heap.size wb wx))
      case first =>
        refine wp_region_held_drew (S := fun w' : World => w'.cell? ⟨E.p, 30, none⟩ = some (.map (some E.bl)) ∧ w'.cell? ⟨w2.heap.size, 1, none⟩ = some (.string (str (El.text x)))) (by kernel_rfl) ⟨c30, b1⟩ (fun hHeld => ?_)
        refine take_op (i := 0) (d := 19) (op := Op.move (Operand.tmp 0)) (ty := 66) (v := (.pointer (some ⟨E.p, 0, none⟩))) (by kernel_rfl) (by kernel_rfl) (by kernel_rfl) (by kernel_rfl) (by kernel_rfl) (fun _ _ _ h => h) (fun wS hS => by clear hS; go_simp) hHeld ?_
        simp only [Act.put, List.setIfInBounds_toArray, List.set_cons_zero, List.set_cons_succ]
        refine take_op (i := 1) (d := 20) (op := Op.nilCheck (Operand.tmp 19)) (ty := 0) (v := (.pointer (some ⟨E.p, 0, none⟩))) (by kernel_rfl) (by kernel_rfl) (by kernel_rfl) (by kernel_rfl) (by kernel_rfl) (fun _ _ _ h => h) (fun wS hS => by clear hS; go_simp) hHeld ?_
        simp only [Act.put, List.setIfInBounds_toArray, List.set_cons_zero, List.set_cons_succ]
        refine take_op (i := 2) (d := 21) (op := Op.fieldAddr 83 (Operand.tmp 20) 3) (ty := 0) (v := (.pointer (some ⟨E.p, 30, none⟩))) (by kernel_rfl) (by kernel_rfl) (by kernel_rfl) (by kernel_rfl) (by kernel_rfl) (fun _ _ _ h => h) (fun wS hS => by clear hS; go_simp) hHeld ?_
        simp only [Act.put, List.setIfInBounds_toArray, List.set_cons_zero, List.set_cons_succ]
        refine take_op (i := 3) (d := 22) (op := Op.load 81 (Operand.tmp 21)) (ty := 81) (v := (.map (some E.bl))) (by kernel_rfl) (by kernel_rfl) (by kernel_rfl) (by kernel_rfl) (by kernel_rfl) (fun _ _ _ h => h) (fun wS hS => by (try dsimp only at hS); have e0 := hS.1; have e1 := hS.2; clear hS; go_simp) hHeld ?_
        simp only [Act.put, List.setIfInBounds_toArray, List.set_cons_zero, List.set_cons_succ]
        refine take_op (i := 4) (d := 23) (op := Op.fieldAddr 89 (Operand.tmp 5) 1) (ty := 0) (v := (.pointer (some ⟨w2.heap.size, 1, none⟩))) (by kernel_rfl) (by kernel_rfl) (by kernel_rfl) (by kernel_rfl) (by kernel_rfl) (fun _ _ _ h => h) (fun wS hS => by clear hS; go_simp) hHeld ?_
        simp only [Act.put, List.setIfInBounds_toArray, List.set_cons_zero, List.set_cons_succ]
        refine take_op (i := 5) (d := 24) (op := Op.load 9 (Operand.tmp 23)) (ty := 9) (v := (.string (str (El.text x)))) (by kernel_rfl) (by kernel_rfl) (by kernel_rfl) (by kernel_rfl) (by kernel_rfl) (fun _ _ _ h => h) (fun wS hS => by (try dsimp only at hS); have e0 := hS.1; have e1 := hS.2; clear hS; go_simp) hHeld ?_
        simp only [Act.put, List.setIfInBounds_toArray, List.set_cons_zero, List.set_cons_succ]
        refine wpAnyH_ready (rs := [6, 10]) (by kernel_rfl) (by simp) ?_
        refine AllReadyH.cons rfl (fun K hK => ?_) (AllReadyH.cons rfl (fun K hK => ?_) AllReadyH.nil)
        · refine step_look14 (by rfl) _ _ 81 (by rfl) Tryz.underlying81 (zeroUnit14 _) E.bl _ (by rfl) (HLM.out _ (below_drew9 _)) (El.text x) (by rfl) ?_
          rw [hlook]
          simp only [Option.getD_none, Option.isSome_none]
          refine hK.out _ _ hHeld (fun hHeld => ?_)
          clear hK K
          try simp only [Act.put, List.setIfInBounds_toArray, List.set_cons_zero, List.set_cons_succ]
          refine take_op (i := 7) (d := 18) (op := Op.move (Operand.tmp 25)) (ty := 147) (v := (.tuple #[.agg #[], .bool false])) (by kernel_rfl) (by kernel_rfl) (by kernel_rfl) (by kernel_rfl) (by kernel_rfl) (fun _ _ _ h => h) (fun wS hS => by clear hS; go_simp) hHeld ?_
          simp only [Act.put, List.setIfInBounds_toArray, List.set_cons_zero, List.set_cons_succ]
          refine take_op (i := 8) (d := 26) (op := Op.extract (Operand.tmp 18) 0) (ty := 146) (v := (.agg #[])) (by kernel_rfl) (by kernel_rfl) (by kernel_rfl) (by kernel_rfl) (by kernel_rfl) (fun _ _ _ h => h) (fun wS hS => by clear hS; go_simp) hHeld ?_
          simp only [Act.put, List.setIfInBounds_toArray, List.set_cons_zero, List.set_cons_succ]
          refine take_op (i := 9) (d := 27) (op := Op.extract (Operand.tmp 18) 1) (ty := 4) (v := (.bool false)) (by kernel_rfl) (by kernel_rfl) (by kernel_rfl) (by kernel_rfl) (by kernel_rfl) (fun _ _ _ h => h) (fun wS hS => by clear hS; go_simp) hHeld ?_
          simp only [Act.put, List.setIfInBounds_toArray, List.set_cons_zero, List.set_cons_succ]
          refine wpAnyH_ready (rs := [10]) (by kernel_rfl) (by simp) ?_
          refine AllReadyH.cons rfl (fun K hK => ?_) AllReadyH.nil
          go_simp
          refine hK.out _ _ ⟨cell_below (below_step (below_drew9 wb) (below_alloc _ _)) c30, cell_below (below_step (below_drew9 wb) (below_alloc _ _)) b1⟩ (fun hHeld => ?_)
          clear hK K
          refine wpAnyH_ready (rs := [11]) (by kernel_rfl) (by simp) ?_
          refine AllReadyH.cons rfl (fun K hK => ?_) AllReadyH.nil
          go_simp
          refine hK.out _ _ hHeld (fun hHeld => ?_)
          clear hK K
          refine take_op (i := 12) (d := 8) (op := Op.assign (Operand.tmp 27)) (ty := 4) (v := (.bool false)) (by kernel_rfl) (by kernel_rfl) (by kernel_rfl) (by kernel_rfl) (by kernel_rfl) (fun _ _ _ h => h) (fun wS hS => by clear hS; go_simp) hHeld ?_
          simp only [Act.put, List.setIfInBounds_toArray, List.set_cons_zero, List.set_cons_succ]
          refine wpAnyH_done (by kernel_rfl) ?_ _
          go_wp2_with fail
          go_meet
          exact ⟨rfl, Lib.hid (below_step (below_drew9 _) (below_alloc _ _))⟩
        · go_simp
          refine hK.out _ _ ⟨cell_below (below_step (below_drew9 wb) (below_alloc _ _)) c30, cell_below (below_step (below_drew9 wb) (below_alloc _ _)) b1⟩ (fun hHeld => ?_)
          clear hK K
          refine wpAnyH_ready (rs := [6]) (by kernel_rfl) (by simp) ?_
          refine AllReadyH.cons rfl (fun K hK => ?_) AllReadyH.nil
          refine step_look14 (by rfl) _ _ 81 (by rfl) Tryz.underlying81 (zeroUnit14 _) E.bl _ (by rfl) (HLM.out _ (below_step (below_drew9 _) (below_alloc _ _))) (El.text x) (by rfl) ?_
          rw [hlook]
          simp only [Option.getD_none, Option.isSome_none]
          refine hK.out _ _ hHeld (fun hHeld => ?_)
          clear hK K
          try simp only [Act.put, List.setIfInBounds_toArray, List.set_cons_zero, List.set_cons_succ]
          refine take_op (i := 7) (d := 18) (op := Op.move (Operand.tmp 25)) (ty := 147) (v := (.tuple #[.agg #[], .bool false])) (by kernel_rfl) (by kernel_rfl) (by kernel_rfl) (by kernel_rfl) (by kernel_rfl) (fun _ _ _ h => h) (fun wS hS => by clear hS; go_simp) hHeld ?_
          simp only [Act.put, List.setIfInBounds_toArray, List.set_cons_zero, List.set_cons_succ]
          refine take_op (i := 8) (d := 26) (op := Op.extract (Operand.tmp 18) 0) (ty := 146) (v := (.agg #[])) (by kernel_rfl) (by kernel_rfl) (by kernel_rfl) (by kernel_rfl) (by kernel_rfl) (fun _ _ _ h => h) (fun wS hS => by clear hS; go_simp) hHeld ?_
          simp only [Act.put, List.setIfInBounds_toArray, List.set_cons_zero, List.set_cons_succ]
          refine take_op (i := 9) (d := 27) (op := Op.extract (Operand.tmp 18) 1) (ty := 4) (v := (.bool false)) (by kernel_rfl) (by kernel_rfl) (by kernel_rfl) (by kernel_rfl) (by kernel_rfl) (fun _ _ _ h => h) (fun wS hS => by clear hS; go_simp) hHeld ?_
          simp only [Act.put, List.setIfInBounds_toArray, List.set_cons_zero, List.set_cons_succ]
          refine wpAnyH_ready (rs := [11]) (by kernel_rfl) (by simp) ?_
          refine AllReadyH.cons rfl (fun K hK => ?_) AllReadyH.nil
          go_simp
          refine hK.out _ _ hHeld (fun hHeld => ?_)
          clear hK K
          refine take_op (i := 12) (d := 8) (op := Op.assign (Operand.tmp 27)) (ty := 4) (v := (.bool false)) (by kernel_rfl) (by kernel_rfl) (by kernel_rfl) (by kernel_rfl) (by kernel_rfl) (fun _ _ _ h => h) (fun wS hS => by clear hS; go_simp) hHeld ?_
          simp only [Act.put, List.setIfInBounds_toArray, List.set_cons_zero, List.set_cons_succ]
          refine wpAnyH_done (by kernel_rfl) ?_ _
          go_wp2_with fail
          go_meet
          exact ⟨rfl, Lib.hid (below_step (below_drew9 _) (below_alloc _ _))⟩
      case rest =>
        obtain ⟨rfl, HB8⟩ := hcut
        obtain ⟨wd, hwd⟩ : ∃ wd, wd = wc := ⟨_, rfl⟩
        subst hwd
        have d1 := cell_below HB8.out b1
        have d30 := cell_below HB8.out c30
        have HPd := Lib.hid (HP.out.mono HB8.out)
        have HLD := Lib.hid (fun w7 (hb7 : Below wd.heap.size wd w7) => HLM.out _ (below_step HB8.out hb7))
        clear b1 c30
        go_upto_region 7 with fail
        go_cut [4] (fun bv wx => bv = .nilIface ∧ Hid (MkL E (Plus S w2 wb) wb lev 3 s K0 y (s.labels.map (·.name) ++ [(El.text x)]) wx))
        case first =>
          refine wp_region_held_drew (S := fun w' : World => w'.cell? ⟨E.p, 30, none⟩ = some (.map (some E.bl)) ∧ w'.cell? ⟨w2.heap.size, 1, none⟩ = some (.string (str (El.text x)))) (by kernel_rfl) ⟨d30, d1⟩ (fun hHeld => ?_)
          refine take_op (i := 0) (d := 32) (op := Op.move (Operand.tmp 0)) (ty := 66) (v := (.pointer (some ⟨E.p, 0, none⟩))) (by kernel_rfl) (by kernel_rfl) (by kernel_rfl) (by kernel_rfl) (by kernel_rfl) (fun _ _ _ h => h) (fun wS hS => by clear hS; go_simp) hHeld ?_
          simp only [Act.put, List.setIfInBounds_toArray, List.set_cons_zero, List.set_cons_succ]
          refine take_op (i := 1) (d := 33) (op := Op.nilCheck (Operand.tmp 32)) (ty := 0) (v := (.pointer (some ⟨E.p, 0, none⟩))) (by kernel_rfl) (by kernel_rfl) (by kernel_rfl) (by kernel_rfl) (by kernel_rfl) (fun _ _ _ h => h) (fun wS hS => by clear hS; go_simp) hHeld ?_
          simp only [Act.put, List.setIfInBounds_toArray, List.set_cons_zero, List.set_cons_succ]
          refine take_op (i := 2) (d := 34) (op := Op.fieldAddr 83 (Operand.tmp 33) 3) (ty := 0) (v := (.pointer (some ⟨E.p, 30, none⟩))) (by kernel_rfl) (by kernel_rfl) (by kernel_rfl) (by kernel_rfl) (by kernel_rfl) (fun _ _ _ h => h) (fun wS hS => by clear hS; go_simp) hHeld ?_
          simp only [Act.put, List.setIfInBounds_toArray, List.set_cons_zero, List.set_cons_succ]
          refine take_op (i := 3) (d := 35) (op := Op.load 81 (Operand.tmp 34)) (ty := 81) (v := (.map (some E.bl))) (by kernel_rfl) (by kernel_rfl) (by kernel_rfl) (by kernel_rfl) (by kernel_rfl) (fun _ _ _ h => h) (fun wS hS => by (try dsimp only at hS); have e0 := hS.1; have e1 := hS.2; clear hS; go_simp) hHeld ?_
          simp only [Act.put, List.setIfInBounds_toArray, List.set_cons_zero, List.set_cons_succ]
          refine take_op (i := 4) (d := 36) (op := Op.fieldAddr 89 (Operand.tmp 5) 1) (ty := 0) (v := (.pointer (some ⟨w2.heap.size, 1, none⟩))) (by kernel_rfl) (by kernel_rfl) (by kernel_rfl) (by kernel_rfl) (by kernel_rfl) (fun _ _ _ h => h) (fun wS hS => by clear hS; go_simp) hHeld ?_
          simp only [Act.put, List.setIfInBounds_toArray, List.set_cons_zero, List.set_cons_succ]
          refine take_op (i := 5) (d := 37) (op := Op.load 9 (Operand.tmp 36)) (ty := 9) (v := (.string (str (El.text x)))) (by kernel_rfl) (by kernel_rfl) (by kernel_rfl) (by kernel_rfl) (by kernel_rfl) (fun _ _ _ h => h) (fun wS hS => by (try dsimp only at hS); have e0 := hS.1; have e1 := hS.2; clear hS; go_simp) hHeld ?_
          simp only [Act.put, List.setIfInBounds_toArray, List.set_cons_zero, List.set_cons_succ]
          refine take_op (i := 6) (d := 38) (op := Op.build 146 #[]) (ty := 146) (v := (.agg #[])) (by kernel_rfl) (by kernel_rfl) (by kernel_rfl) (by kernel_rfl) (by kernel_rfl) (fun _ _ _ h => h) (fun wS hS => by clear hS; go_simp) hHeld ?_
          simp only [Act.put, List.setIfInBounds_toArray, List.set_cons_zero, List.set_cons_succ]
          refine wpAnyH_ready (rs := [7]) (by kernel_rfl) (by simp) ?_
          refine AllReadyH.cons rfl (fun K hK => ?_) AllReadyH.nil
          refine step_put14 (by rfl) _ _ _ 81 (by rfl) Tryz.underlying81 E.bl _ (by rfl) (HLD.out _ (below_drew9 _)) (El.text x) (by rfl) hlook (.agg #[]) (by rfl) ?_
          intro w9 hm9 hg9
          have hL9 := (HPd.out.mono (below_drew9 _)).put hm9 hg9
          have HL9 := Lib.hid hL9
          refine hK.out _ _ ⟨mcell hL9.obj 30 rfl, mcell (hL9.kept HIS.out HBX.out) 1 rfl⟩ (fun hHeld => ?_)
          clear hK K hL9 hm9 hg9
          refine wpAnyH_done (by kernel_rfl) ?_ _
          go_wp2_with fail
          go_meet
          exact ⟨rfl, HL9⟩
        case rest =>
          obtain ⟨rfl, HL⟩ := hcut
          clear d1 d30 HPd HLD HLM
          obtain ⟨wf, hwf⟩ : ∃ wf, wf = wc := ⟨_, rfl⟩
          subst hwf
          have HLd := Lib.hid (HL.out.mono (below_drew9 wf))
          obtain ⟨vsa, vsc, hvs, _⟩ := HL.out.rows.sides.len
          obtain ⟨vla, vlc, hvl, _⟩ := HL.out.rows.labels.len
          obtain ⟨vwa, vwc, hvw, _⟩ := (HL.out.rows.words (by omega)).len
          have e28 : wf.drew.cell? ⟨E.p, 28, none⟩ = some (.slice vsa s.sides.length vsc) := by rw [← hvs]; exact mcell HLd.out.obj 28 rfl
          have e32 : wf.drew.cell? ⟨E.p, 32, none⟩ = some (.slice vwa s.words.length vwc) := by rw [← hvw]; exact mcell HLd.out.obj 32 rfl
          have r0 : wf.drew.cell? ⟨E.p, 29, none⟩ = some (.slice vla s.labels.length vlc) := by rw [← hvl]; exact mcell HLd.out.obj 29 rfl
          have e1x := mcell (HLd.out.kept HIS.out HBX.out) 1 rfl
          have HC := Lib.hid (clone14 (str (El.text x)) (by rw [str_size13]; unfold lim14 at hx; omega) wf.drew)
          have HYL := Lib.hid hvl
          have HYS := Lib.hid hvs
          have HYW := Lib.hid hvw
          have HSL : Hid (s.labels.length ≤ 1000000000000) := Lib.hid (by
            have h1 := HZ.out
            unfold El.sz lim14 at h1
            omega)
          clear hvs hvl hvw
          go_upto_region 8 with fail
          refine wp_region_held_drew (S := fun w' : World => w'.cell? ⟨w2.heap.size, 1, none⟩ = some (.string (str (El.text x))) ∧ w'.cell? ⟨E.p, 28, none⟩ = some (.slice vsa s.sides.length vsc) ∧ w'.cell? ⟨E.p, 32, none⟩ = some (.slice vwa s.words.length vwc)) (by kernel_rfl) ⟨e1x, e28, e32⟩ (fun hHeld => ?_)
          refine take_op (i := 0) (d := 39) (op := Op.move (Operand.tmp 0)) (ty := 66) (v := (.pointer (some ⟨E.p, 0, none⟩))) (by kernel_rfl) (by kernel_rfl) (by kernel_rfl) (by kernel_rfl) (by kernel_rfl) (fun _ _ _ h => h) (fun wS hS => by clear hS; go_simp) hHeld ?_
          simp only [Act.put, List.setIfInBounds_toArray, List.set_cons_zero, List.set_cons_succ]
          refine take_op (i := 1) (d := 40) (op := Op.move (Operand.tmp 0)) (ty := 66) (v := (.pointer (some ⟨E.p, 0, none⟩))) (by kernel_rfl) (by kernel_rfl) (by kernel_rfl) (by kernel_rfl) (by kernel_rfl) (fun _ _ _ h => h) (fun wS hS => by clear hS; go_simp) hHeld ?_
          simp only [Act.put, List.setIfInBounds_toArray, List.set_cons_zero, List.set_cons_succ]
          refine take_op (i := 2) (d := 41) (op := Op.nilCheck (Operand.tmp 40)) (ty := 0) (v := (.pointer (some ⟨E.p, 0, none⟩))) (by kernel_rfl) (by kernel_rfl) (by kernel_rfl) (by kernel_rfl) (by kernel_rfl) (fun _ _ _ h => h) (fun wS hS => by clear hS; go_simp) hHeld ?_
          simp only [Act.put, List.setIfInBounds_toArray, List.set_cons_zero, List.set_cons_succ]
          refine take_op (i := 3) (d := 42) (op := Op.fieldAddr 83 (Operand.tmp 41) 2) (ty := 0) (v := (.pointer (some ⟨E.p, 28, none⟩))) (by kernel_rfl) (by kernel_rfl) (by kernel_rfl) (by kernel_rfl) (by kernel_rfl) (fun _ _ _ h => h) (fun wS hS => by clear hS; go_simp) hHeld ?_
          simp only [Act.put, List.setIfInBounds_toArray, List.set_cons_zero, List.set_cons_succ]
          refine take_op (i := 4) (d := 43) (op := Op.fieldAddr 29 (Operand.tmp 42) 1) (ty := 0) (v := (.pointer (some ⟨E.p, 29, none⟩))) (by kernel_rfl) (by kernel_rfl) (by kernel_rfl) (by kernel_rfl) (by kernel_rfl) (fun _ _ _ h => h) (fun wS hS => by clear hS; go_simp) hHeld ?_
          simp only [Act.put, List.setIfInBounds_toArray, List.set_cons_zero, List.set_cons_succ]
          refine take_op (i := 6) (d := 45) (op := Op.fieldAddr 89 (Operand.tmp 5) 1) (ty := 0) (v := (.pointer (some ⟨w2.heap.size, 1, none⟩))) (by kernel_rfl) (by kernel_rfl) (by kernel_rfl) (by kernel_rfl) (by kernel_rfl) (fun _ _ _ h => h) (fun wS hS => by clear hS; go_simp) hHeld ?_
          simp only [Act.put, List.setIfInBounds_toArray, List.set_cons_zero, List.set_cons_succ]
          refine take_op (i := 7) (d := 46) (op := Op.load 9 (Operand.tmp 45)) (ty := 9) (v := (.string (str (El.text x)))) (by kernel_rfl) (by kernel_rfl) (by kernel_rfl) (by kernel_rfl) (by kernel_rfl) (fun _ _ _ h => h) (fun wS hS => by (try dsimp only at hS); have e0 := hS.1; have e1 := hS.2.1; have e2 := hS.2.2; clear hS; go_simp) hHeld ?_
          simp only [Act.put, List.setIfInBounds_toArray, List.set_cons_zero, List.set_cons_succ]
          refine take_op (i := 9) (d := 48) (op := Op.move (Operand.tmp 0)) (ty := 66) (v := (.pointer (some ⟨E.p, 0, none⟩))) (by kernel_rfl) (by kernel_rfl) (by kernel_rfl) (by kernel_rfl) (by kernel_rfl) (fun _ _ _ h => h) (fun wS hS => by clear hS; go_simp) hHeld ?_
          simp only [Act.put, List.setIfInBounds_toArray, List.set_cons_zero, List.set_cons_succ]
          refine take_op (i := 10) (d := 49) (op := Op.nilCheck (Operand.tmp 48)) (ty := 0) (v := (.pointer (some ⟨E.p, 0, none⟩))) (by kernel_rfl) (by kernel_rfl) (by kernel_rfl) (by kernel_rfl) (by kernel_rfl) (fun _ _ _ h => h) (fun wS hS => by clear hS; go_simp) hHeld ?_
          simp only [Act.put, List.setIfInBounds_toArray, List.set_cons_zero, List.set_cons_succ]
          refine take_op (i := 11) (d := 50) (op := Op.fieldAddr 83 (Operand.tmp 49) 2) (ty := 0) (v := (.pointer (some ⟨E.p, 28, none⟩))) (by kernel_rfl) (by kernel_rfl) (by kernel_rfl) (by kernel_rfl) (by kernel_rfl) (fun _ _ _ h => h) (fun wS hS => by clear hS; go_simp) hHeld ?_
          simp only [Act.put, List.setIfInBounds_toArray, List.set_cons_zero, List.set_cons_succ]
          refine take_op (i := 12) (d := 51) (op := Op.fieldAddr 29 (Operand.tmp 50) 0) (ty := 0) (v := (.pointer (some ⟨E.p, 28, none⟩))) (by kernel_rfl) (by kernel_rfl) (by kernel_rfl) (by kernel_rfl) (by kernel_rfl) (fun _ _ _ h => h) (fun wS hS => by clear hS; go_simp) hHeld ?_
          simp only [Act.put, List.setIfInBounds_toArray, List.set_cons_zero, List.set_cons_succ]
          refine take_op (i := 13) (d := 52) (op := Op.load 26 (Operand.tmp 51)) (ty := 26) (v := (.slice vsa s.sides.length vsc)) (by kernel_rfl) (by kernel_rfl) (by kernel_rfl) (by kernel_rfl) (by kernel_rfl) (fun _ _ _ h => h) (fun wS hS => by (try dsimp only at hS); have e0 := hS.1; have e1 := hS.2.1; have e2 := hS.2.2; clear hS; go_simp) hHeld ?_
          simp only [Act.put, List.setIfInBounds_toArray, List.set_cons_zero, List.set_cons_succ]
          refine take_op (i := 14) (d := 53) (op := Op.call { callee := Callee.builtin Builtin.len, args := #[Operand.tmp 52], argTypes := #[26] }) (ty := 3) (v := (.int .i64 s.sides.length)) (by kernel_rfl) (by kernel_rfl) (by kernel_rfl) (by kernel_rfl) (by kernel_rfl) (fun _ _ _ h => h) (fun wS hS => by clear hS; go_simp) hHeld ?_
          simp only [Act.put, List.setIfInBounds_toArray, List.set_cons_zero, List.set_cons_succ]
          refine take_op (i := 15) (d := 54) (op := Op.move (Operand.tmp 0)) (ty := 66) (v := (.pointer (some ⟨E.p, 0, none⟩))) (by kernel_rfl) (by kernel_rfl) (by kernel_rfl) (by kernel_rfl) (by kernel_rfl) (fun _ _ _ h => h) (fun wS hS => by clear hS; go_simp) hHeld ?_
          simp only [Act.put, List.setIfInBounds_toArray, List.set_cons_zero, List.set_cons_succ]
          refine wpAnyH_ready (rs := [5, 8]) (by kernel_rfl) (by simp) ?_
          refine AllReadyH.cons rfl (fun K hK => ?_) (AllReadyH.cons rfl (fun K hK => ?_) AllReadyH.nil)
          · go_simp
            refine hK.out _ _ hHeld (fun hHeld => ?_)
            clear hK K
            refine wpAnyH_ready (rs := [8]) (by kernel_rfl) (by simp) ?_
            refine AllReadyH.cons rfl (fun K hK => ?_) AllReadyH.nil
            go_simp
            go_at_call 34
            refine HC.out.mono ?_
            rintro e w7 ⟨rfl, hb7⟩
            have HB7 := Lib.hid hb7
            have r7 := cell_below hb7 r0
            refine hK.out _ _ ⟨cell_below hb7 hHeld.1, cell_below hb7 hHeld.2.1, cell_below hb7 hHeld.2.2⟩ (fun hHeld => ?_)
            clear hK K hb7
            try simp only [Act.put, List.setIfInBounds_toArray, List.set_cons_zero, List.set_cons_succ]
            refine wpAnyH_ready (rs := [16]) (by kernel_rfl) (by simp) ?_
            refine AllReadyH.cons rfl (fun K hK => ?_) AllReadyH.nil
            have h32 := hHeld.2.2
            go_simp
            go_at_call 81
            refine (words_cell E.p vwa s.words.length vwc w7 h32).mono ?_
            rintro e w8 ⟨rfl, rfl⟩
            refine hK.out _ _ hHeld (fun hHeld => ?_)
            clear hK K h32
            try simp only [Act.put, List.setIfInBounds_toArray, List.set_cons_zero, List.set_cons_succ]
            refine take_op (i := 17) (d := 56) (op := Op.build 57 #[(0, Operand.tmp 47), (1, Operand.tmp 53), (2, Operand.tmp 55)]) (ty := 57) (v := (.agg #[.string (str (El.text x)), .int .i64 s.sides.length, .int .i64 s.words.length])) (by kernel_rfl) (by kernel_rfl) (by kernel_rfl) (by kernel_rfl) (by kernel_rfl) (fun _ _ _ h => h) (fun wS hS => by clear hS; go_simp) hHeld ?_
            simp only [Act.put, List.setIfInBounds_toArray, List.set_cons_zero, List.set_cons_succ]
            refine wpAnyH_ready (rs := [18]) (by kernel_rfl) (by simp) ?_
            refine AllReadyH.cons rfl (fun K hK => ?_) AllReadyH.nil
            go_simp
            have hbA := below_alloc w7 (.cells #[.string (str (El.text x)), .int .i64 s.sides.length, .int .i64 s.words.length] 57)
            have HBA := Lib.hid (below_step HB7.out hbA)
            have rA := cell_below hbA r7
            refine hK.out _ _ ⟨cell_below hbA hHeld.1, cell_below hbA hHeld.2.1, cell_below hbA hHeld.2.2⟩ (fun hHeld => ?_)
            clear hK K hbA
            refine wpAnyH_ready (rs := [19]) (by kernel_rfl) (by simp) ?_
            refine AllReadyH.cons rfl (fun K hK => ?_) AllReadyH.nil
            have hL8 := HLd.out.mono HBA.out
            have hOL := hL8.rows.labels
            rw [HYL.out] at hOL
            refine step_push14 okLa (by rfl) _ _ (by rfl) E.w0.heap.size K0 (fun b => K0 b ∨ Plus S w2 wb b) (.slice vla s.labels.length vlc) s.labels ⟨El.text x, s.sides.length, s.words.length⟩ ⟨El.text x, s.sides.length, s.words.length⟩ w7.heap.size (by rfl) (by rfl) hOL (src_new rfl) rfl HSL.out hL8.below.size hL8.rows.Klt hL8.rows.KX ?_
            intro g9 cap9 w9 ho9 hg9
            have hb9 := hL8.objFar hOL hg9 kLa_ne
            have HP9 := Lib.hid (hL8.push hg9 hOL rfl kLa_ne (hL8.rows.push_labels (by rw [HYL.out]; exact hg9) ho9) (by simp only [List.map_append, List.map_cons, List.map_nil]) 29 (.slice (some ⟨g9, 0, none⟩) (s.labels.length + 1) cap9) rfl)
            have c9 : w9.cell? ⟨E.p, 29, none⟩ = some y.vl := mcell hb9 29 rfl
            have f9 : w9.frozen? ⟨E.p, 29, none⟩ = false := Lib.frozen_of_heap hb9 29
            have hbx9 : w9.cell? ⟨w2.heap.size, 1, none⟩ = some (.string (str (El.text x))) := mcell ((hg9.block w2.heap.size (lt_of_obj (hL8.kept HIS.out HBX.out)) (fun e => hOL.ne w2.heap.size (.inr HIS.out) e.symm)).trans (hL8.kept HIS.out HBX.out)) 1 rfl
            have s28 : w9.cell? ⟨E.p, 28, none⟩ = some (.slice vsa s.sides.length vsc) := by rw [← HYS.out]; exact mcell hb9 28 rfl
            have s32 : w9.cell? ⟨E.p, 32, none⟩ = some (.slice vwa s.words.length vwc) := by rw [← HYW.out]; exact mcell hb9 32 rfl
            refine hK.out _ _ ⟨hbx9, s28, s32⟩ (fun hHeld => ?_)
            clear hK K hL8 hOL ho9 hg9 hb9 hbx9 s28 s32
            try simp only [Act.put, List.setIfInBounds_toArray, List.set_cons_zero, List.set_cons_succ]
            refine take_op (i := 20) (d := 59) (op := Op.nilCheck (Operand.tmp 39)) (ty := 0) (v := (.pointer (some ⟨E.p, 0, none⟩))) (by kernel_rfl) (by kernel_rfl) (by kernel_rfl) (by kernel_rfl) (by kernel_rfl) (fun _ _ _ h => h) (fun wS hS => by clear hS; go_simp) hHeld ?_
            simp only [Act.put, List.setIfInBounds_toArray, List.set_cons_zero, List.set_cons_succ]
            refine take_op (i := 21) (d := 60) (op := Op.fieldAddr 83 (Operand.tmp 59) 2) (ty := 0) (v := (.pointer (some ⟨E.p, 28, none⟩))) (by kernel_rfl) (by kernel_rfl) (by kernel_rfl) (by kernel_rfl) (by kernel_rfl) (fun _ _ _ h => h) (fun wS hS => by clear hS; go_simp) hHeld ?_
            simp only [Act.put, List.setIfInBounds_toArray, List.set_cons_zero, List.set_cons_succ]
            refine take_op (i := 22) (d := 61) (op := Op.fieldAddr 29 (Operand.tmp 60) 1) (ty := 0) (v := (.pointer (some ⟨E.p, 29, none⟩))) (by kernel_rfl) (by kernel_rfl) (by kernel_rfl) (by kernel_rfl) (by kernel_rfl) (fun _ _ _ h => h) (fun wS hS => by clear hS; go_simp) hHeld ?_
            simp only [Act.put, List.setIfInBounds_toArray, List.set_cons_zero, List.set_cons_succ]
            refine wpAnyH_ready (rs := [23]) (by kernel_rfl) (by simp) ?_
            refine AllReadyH.cons rfl (fun K hK => ?_) AllReadyH.nil
            go_simp
            refine hK.out _ _ ⟨mcell (MK.kept ⟨_, _, HP9.out⟩ HIS.out HBX.out) 1 rfl, by rw [← HYS.out]; exact HP9.out.c28, by rw [← HYW.out]; exact HP9.out.c32⟩ (fun _ => ?_)
            clear hK K c9 f9
            refine wpAnyH_done (by kernel_rfl) ?_ _
            go_wp2
            go_ret
            show Out14 E S w1 lev 3 (if El.text x ∈ s.labels.map (·.name) then .bad 147 (El.loc x) else .ok { s with labels := s.labels ++ [⟨El.text x, s.sides.length, s.words.length⟩] }) _ _
            rw [if_neg hin]
            exact ⟨rfl, HBK.out _ _ _ _ ⟨_, _, HP9.out⟩⟩
          · go_simp
            go_at_call 34
            refine HC.out.mono ?_
            rintro e w7 ⟨rfl, hb7⟩
            have HB7 := Lib.hid hb7
            have r7 := cell_below hb7 r0
            refine hK.out _ _ ⟨cell_below hb7 hHeld.1, cell_below hb7 hHeld.2.1, cell_below hb7 hHeld.2.2⟩ (fun hHeld => ?_)
            clear hK K hb7
            try simp only [Act.put, List.setIfInBounds_toArray, List.set_cons_zero, List.set_cons_succ]
            refine wpAnyH_ready (rs := [5, 16]) (by kernel_rfl) (by simp) ?_
            refine AllReadyH.cons rfl (fun K hK => ?_) (AllReadyH.cons rfl (fun K hK => ?_) AllReadyH.nil)
            · go_simp
              refine hK.out _ _ hHeld (fun hHeld => ?_)
              clear hK K
              refine wpAnyH_ready (rs := [16]) (by kernel_rfl) (by simp) ?_
              refine AllReadyH.cons rfl (fun K hK => ?_) AllReadyH.nil
              have h32 := hHeld.2.2
              go_simp
              go_at_call 81
              refine (words_cell E.p vwa s.words.length vwc w7 h32).mono ?_
              rintro e w8 ⟨rfl, rfl⟩
              refine hK.out _ _ hHeld (fun hHeld => ?_)
              clear hK K h32
              try simp only [Act.put, List.setIfInBounds_toArray, List.set_cons_zero, List.set_cons_succ]
              refine take_op (i := 17) (d := 56) (op := Op.build 57 #[(0, Operand.tmp 47), (1, Operand.tmp 53), (2, Operand.tmp 55)]) (ty := 57) (v := (.agg #[.string (str (El.text x)), .int .i64 s.sides.length, .int .i64 s.words.length])) (by kernel_rfl) (by kernel_rfl) (by kernel_rfl) (by kernel_rfl) (by kernel_rfl) (fun _ _ _ h => h) (fun wS hS => by clear hS; go_simp) hHeld ?_
              simp only [Act.put, List.setIfInBounds_toArray, List.set_cons_zero, List.set_cons_succ]
              refine wpAnyH_ready (rs := [18]) (by kernel_rfl) (by simp) ?_
              refine AllReadyH.cons rfl (fun K hK => ?_) AllReadyH.nil
              go_simp
              have hbA := below_alloc w7 (.cells #[.string (str (El.text x)), .int .i64 s.sides.length, .int .i64 s.words.length] 57)
              have HBA := Lib.hid (below_step HB7.out hbA)
              have rA := cell_below hbA r7
              refine hK.out _ _ ⟨cell_below hbA hHeld.1, cell_below hbA hHeld.2.1, cell_below hbA hHeld.2.2⟩ (fun hHeld => ?_)
              clear hK K hbA
              refine wpAnyH_ready (rs := [19]) (by kernel_rfl) (by simp) ?_
              refine AllReadyH.cons rfl (fun K hK => ?_) AllReadyH.nil
              have hL8 := HLd.out.mono HBA.out
              have hOL := hL8.rows.labels
              rw [HYL.out] at hOL
              refine step_push14 okLa (by rfl) _ _ (by rfl) E.w0.heap.size K0 (fun b => K0 b ∨ Plus S w2 wb b) (.slice vla s.labels.length vlc) s.labels ⟨El.text x, s.sides.length, s.words.length⟩ ⟨El.text x, s.sides.length, s.words.length⟩ w7.heap.size (by rfl) (by rfl) hOL (src_new rfl) rfl HSL.out hL8.below.size hL8.rows.Klt hL8.rows.KX ?_
              intro g9 cap9 w9 ho9 hg9
              have hb9 := hL8.objFar hOL hg9 kLa_ne
              have HP9 := Lib.hid (hL8.push hg9 hOL rfl kLa_ne (hL8.rows.push_labels (by rw [HYL.out]; exact hg9) ho9) (by simp only [List.map_append, List.map_cons, List.map_nil]) 29 (.slice (some ⟨g9, 0, none⟩) (s.labels.length + 1) cap9) rfl)
              have c9 : w9.cell? ⟨E.p, 29, none⟩ = some y.vl := mcell hb9 29 rfl
              have f9 : w9.frozen? ⟨E.p, 29, none⟩ = false := Lib.frozen_of_heap hb9 29
              have hbx9 : w9.cell? ⟨w2.heap.size, 1, none⟩ = some (.string (str (El.text x))) := mcell ((hg9.block w2.heap.size (lt_of_obj (hL8.kept HIS.out HBX.out)) (fun e => hOL.ne w2.heap.size (.inr HIS.out) e.symm)).trans (hL8.kept HIS.out HBX.out)) 1 rfl
              have s28 : w9.cell? ⟨E.p, 28, none⟩ = some (.slice vsa s.sides.length vsc) := by rw [← HYS.out]; exact mcell hb9 28 rfl
              have s32 : w9.cell? ⟨E.p, 32, none⟩ = some (.slice vwa s.words.length vwc) := by rw [← HYW.out]; exact mcell hb9 32 rfl
              refine hK.out _ _ ⟨hbx9, s28, s32⟩ (fun hHeld => ?_)
              clear hK K hL8 hOL ho9 hg9 hb9 hbx9 s28 s32
              try simp only [Act.put, List.setIfInBounds_toArray, List.set_cons_zero, List.set_cons_succ]
              refine take_op (i := 20) (d := 59) (op := Op.nilCheck (Operand.tmp 39)) (ty := 0) (v := (.pointer (some ⟨E.p, 0, none⟩))) (by kernel_rfl) (by kernel_rfl) (by kernel_rfl) (by kernel_rfl) (by kernel_rfl) (fun _ _ _ h => h) (fun wS hS => by clear hS; go_simp) hHeld ?_
              simp only [Act.put, List.setIfInBounds_toArray, List.set_cons_zero, List.set_cons_succ]
              refine take_op (i := 21) (d := 60) (op := Op.fieldAddr 83 (Operand.tmp 59) 2) (ty := 0) (v := (.pointer (some ⟨E.p, 28, none⟩))) (by kernel_rfl) (by kernel_rfl) (by kernel_rfl) (by kernel_rfl) (by kernel_rfl) (fun _ _ _ h => h) (fun wS hS => by clear hS; go_simp) hHeld ?_
              simp only [Act.put, List.setIfInBounds_toArray, List.set_cons_zero, List.set_cons_succ]
              refine take_op (i := 22) (d := 61) (op := Op.fieldAddr 29 (Operand.tmp 60) 1) (ty := 0) (v := (.pointer (some ⟨E.p, 29, none⟩))) (by kernel_rfl) (by kernel_rfl) (by kernel_rfl) (by kernel_rfl) (by kernel_rfl) (fun _ _ _ h => h) (fun wS hS => by clear hS; go_simp) hHeld ?_
              simp only [Act.put, List.setIfInBounds_toArray, List.set_cons_zero, List.set_cons_succ]
              refine wpAnyH_ready (rs := [23]) (by kernel_rfl) (by simp) ?_
              refine AllReadyH.cons rfl (fun K hK => ?_) AllReadyH.nil
              go_simp
              refine hK.out _ _ ⟨mcell (MK.kept ⟨_, _, HP9.out⟩ HIS.out HBX.out) 1 rfl, by rw [← HYS.out]; exact HP9.out.c28, by rw [← HYW.out]; exact HP9.out.c32⟩ (fun _ => ?_)
              clear hK K c9 f9
              refine wpAnyH_done (by kernel_rfl) ?_ _
              go_wp2
              go_ret
              show Out14 E S w1 lev 3 (if El.text x ∈ s.labels.map (·.name) then .bad 147 (El.loc x) else .ok { s with labels := s.labels ++ [⟨El.text x, s.sides.length, s.words.length⟩] }) _ _
              rw [if_neg hin]
              exact ⟨rfl, HBK.out _ _ _ _ ⟨_, _, HP9.out⟩⟩
            · have h32 := hHeld.2.2
              go_simp
              go_at_call 81
              refine (words_cell E.p vwa s.words.length vwc w7 h32).mono ?_
              rintro e w8 ⟨rfl, rfl⟩
              refine hK.out _ _ hHeld (fun hHeld => ?_)
              clear hK K h32
              try simp only [Act.put, List.setIfInBounds_toArray, List.set_cons_zero, List.set_cons_succ]
              refine take_op (i := 17) (d := 56) (op := Op.build 57 #[(0, Operand.tmp 47), (1, Operand.tmp 53), (2, Operand.tmp 55)]) (ty := 57) (v := (.agg #[.string (str (El.text x)), .int .i64 s.sides.length, .int .i64 s.words.length])) (by kernel_rfl) (by kernel_rfl) (by kernel_rfl) (by kernel_rfl) (by kernel_rfl) (fun _ _ _ h => h) (fun wS hS => by clear hS; go_simp) hHeld ?_
              simp only [Act.put, List.setIfInBounds_toArray, List.set_cons_zero, List.set_cons_succ]
              refine wpAnyH_ready (rs := [5, 18]) (by kernel_rfl) (by simp) ?_
              refine AllReadyH.cons rfl (fun K hK => ?_) (AllReadyH.cons rfl (fun K hK => ?_) AllReadyH.nil)
              · go_simp
                refine hK.out _ _ hHeld (fun hHeld => ?_)
                clear hK K
                refine wpAnyH_ready (rs := [18]) (by kernel_rfl) (by simp) ?_
                refine AllReadyH.cons rfl (fun K hK => ?_) AllReadyH.nil
                go_simp
                have hbA := below_alloc w7 (.cells #[.string (str (El.text x)), .int .i64 s.sides.length, .int .i64 s.words.length] 57)
                have HBA := Lib.hid (below_step HB7.out hbA)
                have rA := cell_below hbA r7
                refine hK.out _ _ ⟨cell_below hbA hHeld.1, cell_below hbA hHeld.2.1, cell_below hbA hHeld.2.2⟩ (fun hHeld => ?_)
                clear hK K hbA
                refine wpAnyH_ready (rs := [19]) (by kernel_rfl) (by simp) ?_
                refine AllReadyH.cons rfl (fun K hK => ?_) AllReadyH.nil
                have hL8 := HLd.out.mono HBA.out
                have hOL := hL8.rows.labels
                rw [HYL.out] at hOL
                refine step_push14 okLa (by rfl) _ _ (by rfl) E.w0.heap.size K0 (fun b => K0 b ∨ Plus S w2 wb b) (.slice vla s.labels.length vlc) s.labels ⟨El.text x, s.sides.length, s.words.length⟩ ⟨El.text x, s.sides.length, s.words.length⟩ w7.heap.size (by rfl) (by rfl) hOL (src_new rfl) rfl HSL.out hL8.below.size hL8.rows.Klt hL8.rows.KX ?_
                intro g9 cap9 w9 ho9 hg9
                have hb9 := hL8.objFar hOL hg9 kLa_ne
                have HP9 := Lib.hid (hL8.push hg9 hOL rfl kLa_ne (hL8.rows.push_labels (by rw [HYL.out]; exact hg9) ho9) (by simp only [List.map_append, List.map_cons, List.map_nil]) 29 (.slice (some ⟨g9, 0, none⟩) (s.labels.length + 1) cap9) rfl)
                have c9 : w9.cell? ⟨E.p, 29, none⟩ = some y.vl := mcell hb9 29 rfl
                have f9 : w9.frozen? ⟨E.p, 29, none⟩ = false := Lib.frozen_of_heap hb9 29
                have hbx9 : w9.cell? ⟨w2.heap.size, 1, none⟩ = some (.string (str (El.text x))) := mcell ((hg9.block w2.heap.size (lt_of_obj (hL8.kept HIS.out HBX.out)) (fun e => hOL.ne w2.heap.size (.inr HIS.out) e.symm)).trans (hL8.kept HIS.out HBX.out)) 1 rfl
                have s28 : w9.cell? ⟨E.p, 28, none⟩ = some (.slice vsa s.sides.length vsc) := by rw [← HYS.out]; exact mcell hb9 28 rfl
                have s32 : w9.cell? ⟨E.p, 32, none⟩ = some (.slice vwa s.words.length vwc) := by rw [← HYW.out]; exact mcell hb9 32 rfl
                refine hK.out _ _ ⟨hbx9, s28, s32⟩ (fun hHeld => ?_)
                clear hK K hL8 hOL ho9 hg9 hb9 hbx9 s28 s32
                try simp only [Act.put, List.setIfInBounds_toArray, List.set_cons_zero, List.set_cons_succ]
                refine take_op (i := 20) (d := 59) (op := Op.nilCheck (Operand.tmp 39)) (ty := 0) (v := (.pointer (some ⟨E.p, 0, none⟩))) (by kernel_rfl) (by kernel_rfl) (by kernel_rfl) (by kernel_rfl) (by kernel_rfl) (fun _ _ _ h => h) (fun wS hS => by clear hS; go_simp) hHeld ?_
                simp only [Act.put, List.setIfInBounds_toArray, List.set_cons_zero, List.set_cons_succ]
                refine take_op (i := 21) (d := 60) (op := Op.fieldAddr 83 (Operand.tmp 59) 2) (ty := 0) (v := (.pointer (some ⟨E.p, 28, none⟩))) (by kernel_rfl) (by kernel_rfl) (by kernel_rfl) (by kernel_rfl) (by kernel_rfl) (fun _ _ _ h => h) (fun wS hS => by clear hS; go_simp) hHeld ?_
                simp only [Act.put, List.setIfInBounds_toArray, List.set_cons_zero, List.set_cons_succ]
                refine take_op (i := 22) (d := 61) (op := Op.fieldAddr 29 (Operand.tmp 60) 1) (ty := 0) (v := (.pointer (some ⟨E.p, 29, none⟩))) (by kernel_rfl) (by kernel_rfl) (by kernel_rfl) (by kernel_rfl) (by kernel_rfl) (fun _ _ _ h => h) (fun wS hS => by clear hS; go_simp) hHeld ?_
                simp only [Act.put, List.setIfInBounds_toArray, List.set_cons_zero, List.set_cons_succ]
                refine wpAnyH_ready (rs := [23]) (by kernel_rfl) (by simp) ?_
                refine AllReadyH.cons rfl (fun K hK => ?_) AllReadyH.nil
                go_simp
                refine hK.out _ _ ⟨mcell (MK.kept ⟨_, _, HP9.out⟩ HIS.out HBX.out) 1 rfl, by rw [← HYS.out]; exact HP9.out.c28, by rw [← HYW.out]; exact HP9.out.c32⟩ (fun _ => ?_)
                clear hK K c9 f9
                refine wpAnyH_done (by kernel_rfl) ?_ _
                go_wp2
                go_ret
                show Out14 E S w1 lev 3 (if El.text x ∈ s.labels.map (·.name) then .bad 147 (El.loc x) else .ok { s with labels := s.labels ++ [⟨El.text x, s.sides.length, s.words.length⟩] }) _ _
                rw [if_neg hin]
                exact ⟨rfl, HBK.out _ _ _ _ ⟨_, _, HP9.out⟩⟩
              · go_simp
                have hbA := below_alloc w7 (.cells #[.string (str (El.text x)), .int .i64 s.sides.length, .int .i64 s.words.length] 57)
                have HBA := Lib.hid (below_step HB7.out hbA)
                have rA := cell_below hbA r7
                refine hK.out _ _ ⟨cell_below hbA hHeld.1, cell_below hbA hHeld.2.1, cell_below hbA hHeld.2.2⟩ (fun hHeld => ?_)
                clear hK K hbA
                refine wpAnyH_ready (rs := [5]) (by kernel_rfl) (by simp) ?_
                refine AllReadyH.cons rfl (fun K hK => ?_) AllReadyH.nil
                go_simp
                refine hK.out _ _ hHeld (fun hHeld => ?_)
                clear hK K
                refine wpAnyH_ready (rs := [19]) (by kernel_rfl) (by simp) ?_
                refine AllReadyH.cons rfl (fun K hK => ?_) AllReadyH.nil
                have hL8 := HLd.out.mono HBA.out
                have hOL := hL8.rows.labels
                rw [HYL.out] at hOL
                refine step_push14 okLa (by rfl) _ _ (by rfl) E.w0.heap.size K0 (fun b => K0 b ∨ Plus S w2 wb b) (.slice vla s.labels.length vlc) s.labels ⟨El.text x, s.sides.length, s.words.length⟩ ⟨El.text x, s.sides.length, s.words.length⟩ w7.heap.size (by rfl) (by rfl) hOL (src_new rfl) rfl HSL.out hL8.below.size hL8.rows.Klt hL8.rows.KX ?_
                intro g9 cap9 w9 ho9 hg9
                have hb9 := hL8.objFar hOL hg9 kLa_ne
                have HP9 := Lib.hid (hL8.push hg9 hOL rfl kLa_ne (hL8.rows.push_labels (by rw [HYL.out]; exact hg9) ho9) (by simp only [List.map_append, List.map_cons, List.map_nil]) 29 (.slice (some ⟨g9, 0, none⟩) (s.labels.length + 1) cap9) rfl)
                have c9 : w9.cell? ⟨E.p, 29, none⟩ = some y.vl := mcell hb9 29 rfl
                have f9 : w9.frozen? ⟨E.p, 29, none⟩ = false := Lib.frozen_of_heap hb9 29
                have hbx9 : w9.cell? ⟨w2.heap.size, 1, none⟩ = some (.string (str (El.text x))) := mcell ((hg9.block w2.heap.size (lt_of_obj (hL8.kept HIS.out HBX.out)) (fun e => hOL.ne w2.heap.size (.inr HIS.out) e.symm)).trans (hL8.kept HIS.out HBX.out)) 1 rfl
                have s28 : w9.cell? ⟨E.p, 28, none⟩ = some (.slice vsa s.sides.length vsc) := by rw [← HYS.out]; exact mcell hb9 28 rfl
                have s32 : w9.cell? ⟨E.p, 32, none⟩ = some (.slice vwa s.words.length vwc) := by rw [← HYW.out]; exact mcell hb9 32 rfl
                refine hK.out _ _ ⟨hbx9, s28, s32⟩ (fun hHeld => ?_)
                clear hK K hL8 hOL ho9 hg9 hb9 hbx9 s28 s32
                try simp only [Act.put, List.setIfInBounds_toArray, List.set_cons_zero, List.set_cons_succ]
                refine take_op (i := 20) (d := 59) (op := Op.nilCheck (Operand.tmp 39)) (ty := 0) (v := (.pointer (some ⟨E.p, 0, none⟩))) (by kernel_rfl) (by kernel_rfl) (by kernel_rfl) (by kernel_rfl) (by kernel_rfl) (fun _ _ _ h => h) (fun wS hS => by clear hS; go_simp) hHeld ?_
                simp only [Act.put, List.setIfInBounds_toArray, List.set_cons_zero, List.set_cons_succ]
                refine take_op (i := 21) (d := 60) (op := Op.fieldAddr 83 (Operand.tmp 59) 2) (ty := 0) (v := (.pointer (some ⟨E.p, 28, none⟩))) (by kernel_rfl) (by kernel_rfl) (by kernel_rfl) (by kernel_rfl) (by kernel_rfl) (fun _ _ _ h => h) (fun wS hS => by clear hS; go_simp) hHeld ?_
                simp only [Act.put, List.setIfInBounds_toArray, List.set_cons_zero, List.set_cons_succ]
                refine take_op (i := 22) (d := 61) (op := Op.fieldAddr 29 (Operand.tmp 60) 1) (ty := 0) (v := (.pointer (some ⟨E.p, 29, none⟩))) (by kernel_rfl) (by kernel_rfl) (by kernel_rfl) (by kernel_rfl) (by kernel_rfl) (fun _ _ _ h => h) (fun wS hS => by clear hS; go_simp) hHeld ?_
                simp only [Act.put, List.setIfInBounds_toArray, List.set_cons_zero, List.set_cons_succ]
                refine wpAnyH_ready (rs := [23]) (by kernel_rfl) (by simp) ?_
                refine AllReadyH.cons rfl (fun K hK => ?_) AllReadyH.nil
                go_simp
                refine hK.out _ _ ⟨mcell (MK.kept ⟨_, _, HP9.out⟩ HIS.out HBX.out) 1 rfl, by rw [← HYS.out]; exact HP9.out.c28, by rw [← HYW.out]; exact HP9.out.c32⟩ (fun _ => ?_)
                clear hK K c9 f9
                refine wpAnyH_done (by kernel_rfl) ?_ _
                go_wp2
                go_ret
                show Out14 E S w1 lev 3 (if El.text x ∈ s.labels.map (·.name) then .bad 147 (El.loc x) else .ok { s with labels := s.labels ++ [⟨El.text x, s.sides.length, s.words.length⟩] }) _ _
                rw [if_neg hin]
                exact ⟨rfl, HBK.out _ _ _ _ ⟨_, _, HP9.out⟩⟩
end Go.Proofs.YtfjplhgajoehfaaGreatDoor
