/-
  The landed checkRefsOf, checkRefs: the first label that is named and is not there.
-/
import Derived.Test.YtfjplhgajoehfaaGreatDoorQSide14
set_option linter.unusedVariables false
set_option linter.unusedSimpArgs false
namespace Go.Proofs.YtfjplhgajoehfaaGreatDoor
open Go.RowKit

def names14 (s : El.St) : List (List UInt8) := s.labels.map (·.name)
theorem refSaid_step {ls : List (List UInt8)} {t : List El.Said} {k : Nat} {x : El.Said} (hx : t[k]? = some x) (h : El.refSaid ls (t.take k) = none) : El.refSaid ls (t.take (k + 1)) = if x.kind = 2 ∧ x.txt ∉ ls then some x.loc else none := by
  rw [It.take_snoc hx]
  generalize t.take k = p at h
  induction p with
  | nil => rfl
  | cons y r ih =>
    unfold El.refSaid at h
    rw [List.cons_append]
    unfold El.refSaid
    split at h
    · cases h
    · rename_i hy
      rw [if_neg hy]
      exact ih h
theorem refSaid_stop {ls : List (List UInt8)} {t : List El.Said} {k : Nat} {a : Int} (h : El.refSaid ls (t.take k) = some a) : El.refSaid ls t = some a := by
  rw [← List.take_append_drop k t]
  generalize t.take k = p at h
  generalize t.drop k = q
  induction p with
  | nil => cases h
  | cons y r ih =>
    unfold El.refSaid at h
    rw [List.cons_append]
    unfold El.refSaid
    split at h
    · rename_i hy; rw [if_pos hy]; exact h
    · rename_i hy; rw [if_neg hy]; exact ih h
theorem refNotes_step {ls : List (List UInt8)} {t : List El.Note} {k : Nat} {x : El.Note} (hx : t[k]? = some x) (h : El.refNotes ls (t.take k) = none) : El.refNotes ls (t.take (k + 1)) = El.refSaid ls x.txt := by
  rw [It.take_snoc hx]
  generalize t.take k = p at h
  induction p with
  | nil =>
    show (match El.refSaid ls x.txt with | some a => some a | none => none) = _
    cases El.refSaid ls x.txt <;> rfl
  | cons y r ih =>
    unfold El.refNotes at h
    rw [List.cons_append]
    unfold El.refNotes
    cases hy : El.refSaid ls y.txt with
    | some a => rw [hy] at h; cases h
    | none => rw [hy] at h; exact ih h
theorem refNotes_stop {ls : List (List UInt8)} {t : List El.Note} {k : Nat} {a : Int} (h : El.refNotes ls (t.take k) = some a) : El.refNotes ls t = some a := by
  rw [← List.take_append_drop k t]
  generalize t.take k = p at h
  generalize t.drop k = q
  induction p with
  | nil => cases h
  | cons y r ih =>
    unfold El.refNotes at h
    rw [List.cons_append]
    unfold El.refNotes
    cases hy : El.refSaid ls y.txt with
    | some b => rw [hy] at h; exact h
    | none => rw [hy] at h; exact ih h
theorem refSides_step {ls : List (List UInt8)} {t : List El.Side} {k : Nat} {x : El.Side} (hx : t[k]? = some x) (h : El.refSides ls (t.take k) = none) : El.refSides ls (t.take (k + 1)) = El.refNotes ls x.notes := by
  rw [It.take_snoc hx]
  generalize t.take k = p at h
  induction p with
  | nil =>
    show (match El.refNotes ls x.notes with | some a => some a | none => none) = _
    cases El.refNotes ls x.notes <;> rfl
  | cons y r ih =>
    unfold El.refSides at h
    rw [List.cons_append]
    unfold El.refSides
    cases hy : El.refNotes ls y.notes with
    | some a => rw [hy] at h; cases h
    | none => rw [hy] at h; exact ih h
theorem refSides_stop {ls : List (List UInt8)} {t : List El.Side} {k : Nat} {a : Int} (h : El.refSides ls (t.take k) = some a) : El.refSides ls t = some a := by
  rw [← List.take_append_drop k t]
  generalize t.take k = p at h
  generalize t.drop k = q
  induction p with
  | nil => cases h
  | cons y r ih =>
    unfold El.refSides at h
    rw [List.cons_append]
    unfold El.refSides
    cases hy : El.refNotes ls y.notes with
    | some b => rw [hy] at h; exact h
    | none => rw [hy] at h; exact ih h
def RefRet (r : Option Int) (w : World) (e : Ending) (w' : World) : Prop := Below w.heap.size w w' ∧ (match r with
  | none => e = .returned .nilIface
  | some a => e = .returned (.iface 69 (.agg #[.int .i64 151, .int .i64 a])))
theorem lookD {c : Prop} [Decidable c] : (if c then some (Value.agg #[]) else none).getD (.agg #[]) = .agg #[] := by split <;> rfl
theorem lookS {c : Prop} [Decidable c] : (if c then some (Value.agg #[]) else none).isSome = decide c := by
  by_cases h : c
  · rw [if_pos h, decide_eq_true h]; rfl
  · rw [if_neg h, decide_eq_false h]; rfl
set_option maxHeartbeats 8000000 in
set_option maxRecDepth 100000 in
theorem refsOf_any (p bl : Nat) (ls : List (List UInt8)) (ser fr til : Nat) (vt : Value) (a0 : Int) (txt : List El.Said) (w : World) (hc : w.cell? ⟨p, 30, none⟩ = some (.map (some bl))) (hm : Map14 w bl (nameM ls)) (hS : SlcAt saC 3 w vt txt) :
    Calls Tryz.prog 89 #[.pointer (some ⟨p, 0, none⟩), .agg #[.int .i64 ser, .int .i64 fr, .int .i64 til, vt, .int .i64 a0]] w (RefRet (El.refSaid ls txt) w) := by
  have HA := Lib.hid hS
  obtain ⟨⟨ad, cp, rfl, _⟩, hmx, _⟩ := hS
  obtain ⟨na, hna⟩ : ∃ n, n = txt.length := ⟨_, rfl⟩
  have Hna := Lib.hid hna
  have hza : na ≤ 9223372036854775807 := by rw [hna]; unfold maxLen at hmx; omega
  have HM := Lib.hid hm
  have HC := Lib.hid hc
  have HR0 : Hid (El.refSaid ls (txt.take 0) = none) := Lib.hid rfl
  have HB0 := Lib.hid (below_alloc w (.cells #[.int .i64 ser, .int .i64 fr, .int .i64 til, .slice ad txt.length cp, .int .i64 a0] 44))
  rw [← hna] at HB0 ⊢
  clear hmx hna hm hc
  go_enter Tryz.func89, Tryz.ntmps89
  go_wp2_with fail
  go_loopw [12] (fun iv wr => ∃ k : Nat, k ≤ na ∧ iv = .int .i64 k ∧ Hid (El.refSaid ls (txt.take k) = none) ∧ Hid (Below w.heap.size w wr)) (fun iv _ => na - (intOf iv).toNat)
  case atStart => exact ⟨0, Nat.zero_le _, rfl, HR0, HB0⟩
  case round =>
    obtain ⟨k, hk, rfl, HR, HB⟩ := hrel
    clear HR0 HB0
    by_cases hlt : k < na
    · obtain ⟨b1, o1, d1, e1, r1⟩ := HA.out.2.2 (by rw [← Hna.out]; omega)
      obtain ⟨rfl, rfl⟩ : ad = some ⟨b1, o1, none⟩ ∧ cp = d1 := by injection e1 with a1 a2 a3; exact ⟨a1, a3⟩
      obtain ⟨x, hx⟩ : ∃ x, txt[k]? = some x := ⟨_, List.getElem?_eq_getElem (by rw [← Hna.out]; exact hlt)⟩
      have hrec := (r1 k x hx).mono HB.out
      have y0 : wr.cell? ⟨b1, o1 + k * 3, none⟩ = some (.int .i64 x.kind) := hrec 0 _ rfl
      have y1 : wr.cell? ⟨b1, o1 + k * 3 + 1, none⟩ = some (.string (str x.txt)) := hrec 1 _ rfl
      have y2 : wr.cell? ⟨b1, o1 + k * 3 + 2, none⟩ = some (.int .i64 x.loc) := hrec 2 _ rfl
      have k0 : (0 : Int) ≤ (k : Int) := by omega
      have kl : (k : Int) < (na : Int) := by omega
      obtain ⟨wq, hwq⟩ : ∃ wq, wq = wr.alloc (.cells #[.int .i64 x.kind, .string (str x.txt), .int .i64 x.loc] 60) := ⟨_, rfl⟩
      have hbq : Below wr.heap.size wr wq := by rw [hwq]; exact below_alloc _ _
      have hbx : wq.heap[wr.heap.size]? = some (.cells #[.int .i64 x.kind, .string (str x.txt), .int .i64 x.loc] 60 (0, 0)) := by rw [hwq]; exact obj_new _ _ rfl _ _
      have HBq := Lib.hid (below_step HB.out hbq)
      have c30 := cell_below HBq.out HC.out
      have b1x := mcell hbx 1 rfl
      have b0x := mcell hbx 0 rfl
      have b2x := mcell hbx 2 rfl
      have HLM := Lib.hid (fun w7 (hb7 : Below wq.heap.size wq w7) => HM.out.mono (below_step HBq.out hb7))
      have hlook := look_name x.txt ls
      have HST := Lib.hid (refSaid_step hx HR.out)
      have HF := Lib.hid (fun w9 => fail_any 151 x.loc w9)
      clear r1 e1 hx hrec hbx hbq
      go_upto_region 4 with fail
      rw [← hwq]
      clear hwq y0 y1 y2
      go_cut [8] (fun bv wx => bv = .bool (decide (x.txt ∈ ls)) ∧ Hid (Below wq.heap.size wq wx))
      case first =>
        refine wp_region_held_drew (S := fun w' : World => w'.cell? ⟨p, 30, none⟩ = some (.map (some bl)) ∧ w'.cell? ⟨wr.heap.size, 1, none⟩ = some (.string (str x.txt))) (by kernel_rfl) ⟨c30, b1x⟩ (fun hHeld => ?_)
        refine take_op (i := 0) (d := 17) (op := Op.move (Operand.tmp 0)) (ty := 66) (v := (.pointer (some ⟨p, 0, none⟩))) (by kernel_rfl) (by kernel_rfl) (by kernel_rfl) (by kernel_rfl) (by kernel_rfl) (fun _ _ _ h => h) (fun wS hS => by clear hS; go_simp) hHeld ?_
        simp only [Act.put, List.setIfInBounds_toArray, List.set_cons_zero, List.set_cons_succ]
        refine take_op (i := 1) (d := 18) (op := Op.nilCheck (Operand.tmp 17)) (ty := 0) (v := (.pointer (some ⟨p, 0, none⟩))) (by kernel_rfl) (by kernel_rfl) (by kernel_rfl) (by kernel_rfl) (by kernel_rfl) (fun _ _ _ h => h) (fun wS hS => by clear hS; go_simp) hHeld ?_
        simp only [Act.put, List.setIfInBounds_toArray, List.set_cons_zero, List.set_cons_succ]
        refine take_op (i := 2) (d := 19) (op := Op.fieldAddr 83 (Operand.tmp 18) 3) (ty := 0) (v := (.pointer (some ⟨p, 30, none⟩))) (by kernel_rfl) (by kernel_rfl) (by kernel_rfl) (by kernel_rfl) (by kernel_rfl) (fun _ _ _ h => h) (fun wS hS => by clear hS; go_simp) hHeld ?_
        simp only [Act.put, List.setIfInBounds_toArray, List.set_cons_zero, List.set_cons_succ]
        refine take_op (i := 3) (d := 20) (op := Op.load 81 (Operand.tmp 19)) (ty := 81) (v := (.map (some bl))) (by kernel_rfl) (by kernel_rfl) (by kernel_rfl) (by kernel_rfl) (by kernel_rfl) (fun _ _ _ h => h) (fun wS hS => by (try dsimp only at hS); have e0 := hS.1; have e1 := hS.2; clear hS; go_simp) hHeld ?_
        simp only [Act.put, List.setIfInBounds_toArray, List.set_cons_zero, List.set_cons_succ]
        refine take_op (i := 4) (d := 21) (op := Op.fieldAddr 60 (Operand.tmp 6) 1) (ty := 0) (v := (.pointer (some ⟨wr.heap.size, 1, none⟩))) (by kernel_rfl) (by kernel_rfl) (by kernel_rfl) (by kernel_rfl) (by kernel_rfl) (fun _ _ _ h => h) (fun wS hS => by clear hS; go_simp) hHeld ?_
        simp only [Act.put, List.setIfInBounds_toArray, List.set_cons_zero, List.set_cons_succ]
        refine take_op (i := 5) (d := 22) (op := Op.load 9 (Operand.tmp 21)) (ty := 9) (v := (.string (str x.txt))) (by kernel_rfl) (by kernel_rfl) (by kernel_rfl) (by kernel_rfl) (by kernel_rfl) (fun _ _ _ h => h) (fun wS hS => by (try dsimp only at hS); have e0 := hS.1; have e1 := hS.2; clear hS; go_simp) hHeld ?_
        simp only [Act.put, List.setIfInBounds_toArray, List.set_cons_zero, List.set_cons_succ]
        refine wpAnyH_ready (rs := [6, 10]) (by kernel_rfl) (by simp) ?_
        refine AllReadyH.cons rfl (fun K hK => ?_) (AllReadyH.cons rfl (fun K hK => ?_) AllReadyH.nil)
        · refine step_look14 (by rfl) _ _ 81 (by rfl) Tryz.underlying81 (zeroUnit14 _) bl _ (by rfl) (HLM.out _ (below_drew9 _)) x.txt (by rfl) ?_
          rw [hlook, lookD, lookS]
          refine hK.out _ _ hHeld (fun hHeld => ?_)
          clear hK K
          try simp only [Act.put, List.setIfInBounds_toArray, List.set_cons_zero, List.set_cons_succ]
          refine take_op (i := 7) (d := 16) (op := Op.move (Operand.tmp 23)) (ty := 147) (v := (.tuple #[.agg #[], .bool (decide (x.txt ∈ ls))])) (by kernel_rfl) (by kernel_rfl) (by kernel_rfl) (by kernel_rfl) (by kernel_rfl) (fun _ _ _ h => h) (fun wS hS => by clear hS; go_simp) hHeld ?_
          simp only [Act.put, List.setIfInBounds_toArray, List.set_cons_zero, List.set_cons_succ]
          refine take_op (i := 8) (d := 24) (op := Op.extract (Operand.tmp 16) 0) (ty := 146) (v := (.agg #[])) (by kernel_rfl) (by kernel_rfl) (by kernel_rfl) (by kernel_rfl) (by kernel_rfl) (fun _ _ _ h => h) (fun wS hS => by clear hS; go_simp) hHeld ?_
          simp only [Act.put, List.setIfInBounds_toArray, List.set_cons_zero, List.set_cons_succ]
          refine take_op (i := 9) (d := 25) (op := Op.extract (Operand.tmp 16) 1) (ty := 4) (v := (.bool (decide (x.txt ∈ ls)))) (by kernel_rfl) (by kernel_rfl) (by kernel_rfl) (by kernel_rfl) (by kernel_rfl) (fun _ _ _ h => h) (fun wS hS => by clear hS; go_simp) hHeld ?_
          simp only [Act.put, List.setIfInBounds_toArray, List.set_cons_zero, List.set_cons_succ]
          refine wpAnyH_ready (rs := [10]) (by kernel_rfl) (by simp) ?_
          refine AllReadyH.cons rfl (fun K hK => ?_) AllReadyH.nil
          go_simp
          refine hK.out _ _ ⟨cell_below (below_step (below_drew9 wq) (below_alloc _ _)) c30, cell_below (below_step (below_drew9 wq) (below_alloc _ _)) b1x⟩ (fun hHeld => ?_)
          clear hK K
          refine wpAnyH_ready (rs := [11]) (by kernel_rfl) (by simp) ?_
          refine AllReadyH.cons rfl (fun K hK => ?_) AllReadyH.nil
          go_simp
          refine hK.out _ _ hHeld (fun hHeld => ?_)
          clear hK K
          refine take_op (i := 12) (d := 8) (op := Op.assign (Operand.tmp 25)) (ty := 4) (v := (.bool (decide (x.txt ∈ ls)))) (by kernel_rfl) (by kernel_rfl) (by kernel_rfl) (by kernel_rfl) (by kernel_rfl) (fun _ _ _ h => h) (fun wS hS => by clear hS; go_simp) hHeld ?_
          simp only [Act.put, List.setIfInBounds_toArray, List.set_cons_zero, List.set_cons_succ]
          refine wpAnyH_done (by kernel_rfl) ?_ _
          go_wp2_with fail
          go_meet
          exact ⟨rfl, Lib.hid (below_step (below_drew9 _) (below_alloc _ _))⟩
        · go_simp
          refine hK.out _ _ ⟨cell_below (below_step (below_drew9 wq) (below_alloc _ _)) c30, cell_below (below_step (below_drew9 wq) (below_alloc _ _)) b1x⟩ (fun hHeld => ?_)
          clear hK K
          refine wpAnyH_ready (rs := [6]) (by kernel_rfl) (by simp) ?_
          refine AllReadyH.cons rfl (fun K hK => ?_) AllReadyH.nil
          refine step_look14 (by rfl) _ _ 81 (by rfl) Tryz.underlying81 (zeroUnit14 _) bl _ (by rfl) (HLM.out _ (below_step (below_drew9 _) (below_alloc _ _))) x.txt (by rfl) ?_
          rw [hlook, lookD, lookS]
          refine hK.out _ _ hHeld (fun hHeld => ?_)
          clear hK K
          try simp only [Act.put, List.setIfInBounds_toArray, List.set_cons_zero, List.set_cons_succ]
          refine take_op (i := 7) (d := 16) (op := Op.move (Operand.tmp 23)) (ty := 147) (v := (.tuple #[.agg #[], .bool (decide (x.txt ∈ ls))])) (by kernel_rfl) (by kernel_rfl) (by kernel_rfl) (by kernel_rfl) (by kernel_rfl) (fun _ _ _ h => h) (fun wS hS => by clear hS; go_simp) hHeld ?_
          simp only [Act.put, List.setIfInBounds_toArray, List.set_cons_zero, List.set_cons_succ]
          refine take_op (i := 8) (d := 24) (op := Op.extract (Operand.tmp 16) 0) (ty := 146) (v := (.agg #[])) (by kernel_rfl) (by kernel_rfl) (by kernel_rfl) (by kernel_rfl) (by kernel_rfl) (fun _ _ _ h => h) (fun wS hS => by clear hS; go_simp) hHeld ?_
          simp only [Act.put, List.setIfInBounds_toArray, List.set_cons_zero, List.set_cons_succ]
          refine take_op (i := 9) (d := 25) (op := Op.extract (Operand.tmp 16) 1) (ty := 4) (v := (.bool (decide (x.txt ∈ ls)))) (by kernel_rfl) (by kernel_rfl) (by kernel_rfl) (by kernel_rfl) (by kernel_rfl) (fun _ _ _ h => h) (fun wS hS => by clear hS; go_simp) hHeld ?_
          simp only [Act.put, List.setIfInBounds_toArray, List.set_cons_zero, List.set_cons_succ]
          refine wpAnyH_ready (rs := [11]) (by kernel_rfl) (by simp) ?_
          refine AllReadyH.cons rfl (fun K hK => ?_) AllReadyH.nil
          go_simp
          refine hK.out _ _ hHeld (fun hHeld => ?_)
          clear hK K
          refine take_op (i := 12) (d := 8) (op := Op.assign (Operand.tmp 25)) (ty := 4) (v := (.bool (decide (x.txt ∈ ls)))) (by kernel_rfl) (by kernel_rfl) (by kernel_rfl) (by kernel_rfl) (by kernel_rfl) (fun _ _ _ h => h) (fun wS hS => by clear hS; go_simp) hHeld ?_
          simp only [Act.put, List.setIfInBounds_toArray, List.set_cons_zero, List.set_cons_succ]
          refine wpAnyH_done (by kernel_rfl) ?_ _
          go_wp2_with fail
          go_meet
          exact ⟨rfl, Lib.hid (below_step (below_drew9 _) (below_alloc _ _))⟩
      case rest =>
        obtain ⟨rfl, HB8⟩ := hcut
        have d0 := cell_below HB8.out b0x
        have d2 := cell_below HB8.out b2x
        have HBW := Lib.hid (below_step HBq.out HB8.out)
        clear b0x b1x b2x c30 hlook
        by_cases h2 : x.kind = 2
        · by_cases hin : x.txt ∈ ls
          · rw [if_neg (fun h => h.2 hin)] at HST
            have hd : decide (x.txt ∈ ls) = true := decide_eq_true hin
            have h2' : (x.kind == 2) = true := by rw [h2]; rfl
            rw [h2] at d0
            clear h2 hin
            rw [hd]
            go_wp2
            go_roundw
            case rel => exact ⟨k + 1, by omega, by go_num, HST, HBW⟩
            case measure => simp [intOf]; omega
          · rw [if_pos ⟨h2, hin⟩] at HST
            have hd : decide (x.txt ∈ ls) = false := decide_eq_false hin
            rw [h2] at d0
            clear h2 hin
            rw [hd]
            go_wp2_with fail
            refine (HF.out _).mono ?_
            rintro e w9 ⟨rfl, hb9⟩
            have HB9 := Lib.hid (below_step HBW.out hb9)
            clear hb9 HF d0 d2
            go_wp2
            go_ret
            rw [refSaid_stop HST.out]
            exact ⟨HB9.out, rfl⟩
        · rw [if_neg (fun h => h2 h.1)] at HST
          generalize decide (x.txt ∈ ls) = bb
          go_wp2
          go_roundw
          case rel => exact ⟨k + 1, by omega, by go_num, HST, HBW⟩
          case measure => simp [intOf]; omega
    · have HE : Hid (txt.take k = txt) := Lib.hid (List.take_of_length_le (by rw [← Hna.out]; omega))
      go_wp2
      go_ret
      have h1 := HR.out
      rw [HE.out] at h1
      rw [h1]
      exact ⟨HB.out, rfl⟩
end Go.Proofs.YtfjplhgajoehfaaGreatDoor
