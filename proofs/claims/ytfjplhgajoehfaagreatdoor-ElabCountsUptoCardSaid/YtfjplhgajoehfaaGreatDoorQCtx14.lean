/-
  The landed contextsOf: the rules of all contexts, bound to a maker.
-/
import Derived.Test.YtfjplhgajoehfaaGreatDoorQCtxP14
set_option linter.unusedVariables false
set_option linter.unusedSimpArgs false
namespace Go.Proofs.YtfjplhgajoehfaaGreatDoor
open Go.RowKit

set_option maxHeartbeats 16000000 in
set_option maxRecDepth 100000 in
theorem contextsOf_any (p : Nat) (w : World) (hs : SerAt w) : Calls Tryz.prog 37 #[.pointer (some ⟨p, 0, none⟩)] w (CtxPost p w) := by
  have hm9 := @run_makeMap Tryz.prog
  have hmf := mkf13
  obtain ⟨H, hH⟩ : ∃ H, H = w.heap.size := ⟨_, rfl⟩
  obtain ⟨W0, hW0⟩ : ∃ W0, W0 = (((w.alloc (.cells #[.pointer (some ⟨p, 0, none⟩)] 66)).alloc (.cells #[.string ⟨#[]⟩, .nilFunc, .map none, .string ⟨#[]⟩, .nilFunc, .map none, .string ⟨#[]⟩, .nilFunc, .map none, .string ⟨#[]⟩, .nilFunc, .map none, .string ⟨#[]⟩, .nilFunc, .map none, .string ⟨#[]⟩, .nilFunc, .map none, .string ⟨#[]⟩, .nilFunc, .map none, .string ⟨#[]⟩, .nilFunc, .map none, .string ⟨#[]⟩, .nilFunc, .map none] 80)).alloc (.cells #[.int .i64 1, .func (.func 51) #[.pointer (some ⟨p, 0, none⟩)] #[]] 117)).alloc (.map #[] 0) := ⟨_, rfl⟩
  have h1 := below_alloc w (.cells #[.pointer (some ⟨p, 0, none⟩)] 66)
  have h2 := below_alloc (w.alloc (.cells #[.pointer (some ⟨p, 0, none⟩)] 66)) (.cells #[.string ⟨#[]⟩, .nilFunc, .map none, .string ⟨#[]⟩, .nilFunc, .map none, .string ⟨#[]⟩, .nilFunc, .map none, .string ⟨#[]⟩, .nilFunc, .map none, .string ⟨#[]⟩, .nilFunc, .map none, .string ⟨#[]⟩, .nilFunc, .map none, .string ⟨#[]⟩, .nilFunc, .map none, .string ⟨#[]⟩, .nilFunc, .map none, .string ⟨#[]⟩, .nilFunc, .map none] 80)
  have h3 := below_alloc ((w.alloc (.cells #[.pointer (some ⟨p, 0, none⟩)] 66)).alloc (.cells #[.string ⟨#[]⟩, .nilFunc, .map none, .string ⟨#[]⟩, .nilFunc, .map none, .string ⟨#[]⟩, .nilFunc, .map none, .string ⟨#[]⟩, .nilFunc, .map none, .string ⟨#[]⟩, .nilFunc, .map none, .string ⟨#[]⟩, .nilFunc, .map none, .string ⟨#[]⟩, .nilFunc, .map none, .string ⟨#[]⟩, .nilFunc, .map none, .string ⟨#[]⟩, .nilFunc, .map none] 80)) (.cells #[.int .i64 1, .func (.func 51) #[.pointer (some ⟨p, 0, none⟩)] #[]] 117)
  have h4 := below_alloc (((w.alloc (.cells #[.pointer (some ⟨p, 0, none⟩)] 66)).alloc (.cells #[.string ⟨#[]⟩, .nilFunc, .map none, .string ⟨#[]⟩, .nilFunc, .map none, .string ⟨#[]⟩, .nilFunc, .map none, .string ⟨#[]⟩, .nilFunc, .map none, .string ⟨#[]⟩, .nilFunc, .map none, .string ⟨#[]⟩, .nilFunc, .map none, .string ⟨#[]⟩, .nilFunc, .map none, .string ⟨#[]⟩, .nilFunc, .map none, .string ⟨#[]⟩, .nilFunc, .map none] 80)).alloc (.cells #[.int .i64 1, .func (.func 51) #[.pointer (some ⟨p, 0, none⟩)] #[]] 117)) (.map #[] 0)
  have hC0 : CW H (H + 1) (H + 2) (.pointer (some ⟨p, 0, none⟩)) (fun _ => 0) 0 [] w W0 := by
    rw [hW0, hH]
    exact ⟨obj_kept h4 (obj_kept h3 (obj_kept h2 (obj_new _ _ rfl _ _))), obj_kept h4 (obj_kept h3 (obj_new _ _ (by rw [World.size_alloc]) _ _)), obj_kept h4 (obj_new _ _ (by simp only [World.size_alloc]) _ _), fun i hi => (by omega), fun x hx => (by cases hx), below_step (below_step (below_step h1 h2) h3) h4, fun i hi => (by omega)⟩
  have hM0 : Map14 W0 (H + 3) (notesL H (fun _ => 0) 0) := by
    rw [hW0, hH]
    have := map14_new (((w.alloc (.cells #[.pointer (some ⟨p, 0, none⟩)] 66)).alloc (.cells #[.string ⟨#[]⟩, .nilFunc, .map none, .string ⟨#[]⟩, .nilFunc, .map none, .string ⟨#[]⟩, .nilFunc, .map none, .string ⟨#[]⟩, .nilFunc, .map none, .string ⟨#[]⟩, .nilFunc, .map none, .string ⟨#[]⟩, .nilFunc, .map none, .string ⟨#[]⟩, .nilFunc, .map none, .string ⟨#[]⟩, .nilFunc, .map none, .string ⟨#[]⟩, .nilFunc, .map none] 80)).alloc (.cells #[.int .i64 1, .func (.func 51) #[.pointer (some ⟨p, 0, none⟩)] #[]] 117))
    simp only [World.size_alloc] at this
    exact this
  have hHB : H + 3 < W0.heap.size := hM0.lt
  have HC0 := Lib.hid hC0
  have HM0 := Lib.hid hM0
  have s0 : W0.cell? ⟨0, 0, none⟩ = some (.string ⟨#[65]⟩) := cell_below hC0.below (hs 0 (by omega))
  have s1 : W0.cell? ⟨0, 1, none⟩ = some (.string ⟨#[66]⟩) := cell_below hC0.below (hs 1 (by omega))
  have s2 : W0.cell? ⟨0, 2, none⟩ = some (.string ⟨#[67]⟩) := cell_below hC0.below (hs 2 (by omega))
  have s3 : W0.cell? ⟨0, 3, none⟩ = some (.string ⟨#[68]⟩) := cell_below hC0.below (hs 3 (by omega))
  have s4 : W0.cell? ⟨0, 4, none⟩ = some (.string ⟨#[69]⟩) := cell_below hC0.below (hs 4 (by omega))
  have s5 : W0.cell? ⟨0, 5, none⟩ = some (.string ⟨#[102, 65]⟩) := cell_below hC0.below (hs 5 (by omega))
  have s6 : W0.cell? ⟨0, 6, none⟩ = some (.string ⟨#[102, 66]⟩) := cell_below hC0.below (hs 6 (by omega))
  have s7 : W0.cell? ⟨0, 7, none⟩ = some (.string ⟨#[102, 67]⟩) := cell_below hC0.below (hs 7 (by omega))
  have s8 : W0.cell? ⟨0, 8, none⟩ = some (.string ⟨#[102, 68]⟩) := cell_below hC0.below (hs 8 (by omega))
  have s9 : W0.cell? ⟨0, 9, none⟩ = some (.string ⟨#[102, 69]⟩) := cell_below hC0.below (hs 9 (by omega))
  have s10 : W0.cell? ⟨0, 10, none⟩ = some (.string ⟨#[101, 110, 100]⟩) := cell_below hC0.below (hs 10 (by omega))
  have HB9 := Lib.hid hHB
  have HH := Lib.hid hH
  clear hs h1 h2 h3 h4 hC0 hM0 hHB
  go_enter Tryz.func37, Tryz.ntmps37
  go_upto_region 3 with fail
  rw [← hW0, ← hH]
  clear hW0 hH
  go_wp2_with fail
  clear s0 s1 s2 s3 s4 s5 s6 s7 s8 s9 s10
  go_loopw [12] (fun iv wr => ∃ (k : Nat) (q : Nat → Nat), k ≤ 11 ∧ iv = .int .i64 k ∧ Hid (Map14 wr (H + 3) (notesL H q k)) ∧ Hid (CW H (H + 1) (H + 2) (.pointer (some ⟨p, 0, none⟩)) q k [] w wr)) (fun iv _ => 11 - (intOf iv).toNat)
  case atStart => exact ⟨0, _, by omega, rfl, HM0, HC0⟩
  case round =>
    obtain ⟨k, q, hk, rfl, HM, HC⟩ := hrel
    clear HM0 HC0
    by_cases hlt : k < 11
    · have hix := index_series k hlt
      unfold seriesA at hix
      have hlook := notesL_look H q k hlt
      have hbq := below_alloc wr (.cells #[.int .i64 k] 3)
      have HMq := Lib.hid (HM.out.mono hbq)
      have HCq := Lib.hid (((HC.out.mono hbq)).more (obj_new wr _ rfl #[.int .i64 k] 3) HC.out.below.size)
      have k0 : (0 : Int) ≤ (k : Int) := by omega
      have kl : (k : Int) < 11 := by omega
      have HNS := Lib.hid (notesL_succ H q k wr.heap.size)
      generalize El.seriesL.getD k [] = nm at *
      clear hbq
      go_wp2_with (first
        | (at_mapUpdate; refine wpList_put14 _ (by rfl) _ _ _ 76 (by rfl) Tryz.underlying76 (H + 3) (notesL H q k) (by rfl) HMq.out nm (by rfl) hlook (footV H wr.heap.size) (by rfl) ?_; intro w9 hm9 hg9; have HM9 := Lib.hid (HNS.out ▸ hm9); have HC9 := Lib.hid (HCq.out.put HMq.out hg9 (fun x hx => by cases hx) (by have := HH.out; omega)); clear hm9 hg9)
        | go_in)
      go_roundw
      case rel => exact ⟨k + 1, _, by omega, by go_num, HM9, HC9⟩
      case measure => simp [intOf]; omega
    · obtain rfl : k = 11 := by omega
      have hlq := HM.out.lt
      have hCf := HC.out.fin HM.out
      have HFR0 := Lib.hid (hCf.fresh (Nat.le_refl _))
      have hCa := hCf.mono (below_alloc wr (.map #[] 0))
      have t_a := mcell hCa.t3 0 rfl
      have t_b := mcell hCa.t3 1 rfl
      have HCa0 := Lib.hid hCa
      have HMa0 := Lib.hid (map14_new wr)
      have HBa0 := Lib.hid (nn_base HC.out)
      have hpm0 := mcell hCa.pm 0 rfl
      clear hCf hCa hlq hk
      go_upto_region 8 with fail
      simp only [List.append_eq, List.cons_append, List.nil_append]
      go_wp2_with (first
        | (refine wpList_ins14 (by rfl) _ _ _ 76 (by rfl) Tryz.underlying76 wr.heap.size [] (by rfl) HMa0.out El.tText (by rfl) (by rfl) (.agg #[.int .i64 1, .func (.func 51) #[.pointer (some ⟨p, 0, none⟩)] #[]]) (by rfl) ?_; intro w1 hm9 hg9; have hC := HCa0.out.put HMa0.out hg9 HFR0.out HBa0.out; have pa1 := mcell hC.pm 0 rfl; have ta1 := mcell hC.t3 0 rfl; have tb1 := mcell hC.t3 1 rfl; have HCa1 := Lib.hid hC; have HMa1 := Lib.hid hm9; have HFR1 := HFR0; have HBa1 := HBa0; clear hC hm9 hg9)
        | (refine wpList_ins14 (by rfl) _ _ _ 76 (by rfl) Tryz.underlying76 wr.heap.size [(El.tText, (.agg #[.int .i64 1, .func (.func 51) #[.pointer (some ⟨p, 0, none⟩)] #[]]))] (by rfl) HMa1.out El.tLeft (by rfl) (by rfl) (.agg #[.int .i64 1, .func (.func 51) #[.pointer (some ⟨p, 0, none⟩)] #[]]) (by rfl) ?_; intro w2 hm9 hg9; have hC := HCa1.out.put HMa1.out hg9 HFR1.out HBa1.out; have pa2 := mcell hC.pm 0 rfl; have ta2 := mcell hC.t3 0 rfl; have tb2 := mcell hC.t3 1 rfl; have HCa2 := Lib.hid hC; have HMa2 := Lib.hid hm9; have HFR2 := HFR1; have HBa2 := HBa1; clear hC hm9 hg9)
        | (refine wpList_ins14 (by rfl) _ _ _ 76 (by rfl) Tryz.underlying76 wr.heap.size [(El.tText, (.agg #[.int .i64 1, .func (.func 51) #[.pointer (some ⟨p, 0, none⟩)] #[]])), (El.tLeft, (.agg #[.int .i64 1, .func (.func 51) #[.pointer (some ⟨p, 0, none⟩)] #[]]))] (by rfl) HMa2.out El.tRight (by rfl) (by rfl) (.agg #[.int .i64 1, .func (.func 51) #[.pointer (some ⟨p, 0, none⟩)] #[]]) (by rfl) ?_; intro w3 hm9 hg9; have hC := HCa2.out.put HMa2.out hg9 HFR2.out HBa2.out; have hCf := hC.fin hm9; have HFR3 := Lib.hid (hCf.fresh (Nat.le_refl _)); have hCa := hCf.mono (below_alloc w3 (.map #[] 0)); have pa3 := mcell hC.pm 0 rfl; have pb3 := mcell hCa.pm 0 rfl; have HCa3 := Lib.hid hCa; have HMa3 := Lib.hid (map14_new w3); have HBa3 := Lib.hid (nn_base hC); clear hCf hCa hC hm9 hg9)
        | (refine wpList_ins14 (by rfl) _ _ _ 76 (by rfl) Tryz.underlying76 w3.heap.size [] (by rfl) HMa3.out El.tChunk (by rfl) (by rfl) (.agg #[.int .i64 1, .func (.func 54) #[.pointer (some ⟨p, 0, none⟩)] #[]]) (by rfl) ?_; intro w4 hm9 hg9; have hC := HCa3.out.put HMa3.out hg9 HFR3.out HBa3.out; have hCf := hC.fin hm9; have HFR4 := Lib.hid (hCf.fresh (Nat.le_refl _)); have hCa := hCf.mono (below_alloc w4 (.map #[] 0)); have pa4 := mcell hC.pm 0 rfl; have pb4 := mcell hCa.pm 0 rfl; have HCa4 := Lib.hid hCa; have HMa4 := Lib.hid (map14_new w4); have HBa4 := Lib.hid (nn_base hC); clear hCf hCa hC hm9 hg9)
        | (refine wpList_ins14 (by rfl) _ _ _ 76 (by rfl) Tryz.underlying76 w4.heap.size [] (by rfl) HMa4.out El.tP (by rfl) (by rfl) (.agg #[.int .i64 1, .func (.func 55) #[.pointer (some ⟨p, 0, none⟩)] #[]]) (by rfl) ?_; intro w5 hm9 hg9; have hC := HCa4.out.put HMa4.out hg9 HFR4.out HBa4.out; have pa5 := mcell hC.pm 0 rfl; have ta5 := mcell hC.t3 0 rfl; have tb5 := mcell hC.t3 1 rfl; have HCa5 := Lib.hid hC; have HMa5 := Lib.hid hm9; have HFR5 := HFR4; have HBa5 := HBa4; clear hC hm9 hg9)
        | (refine wpList_ins14 (by rfl) _ _ _ 76 (by rfl) Tryz.underlying76 w4.heap.size [(El.tP, (.agg #[.int .i64 1, .func (.func 55) #[.pointer (some ⟨p, 0, none⟩)] #[]]))] (by rfl) HMa5.out El.tVerse (by rfl) (by rfl) (.agg #[.int .i64 1, .func (.func 56) #[.pointer (some ⟨p, 0, none⟩)] #[]]) (by rfl) ?_; intro w6 hm9 hg9; have hC := HCa5.out.put HMa5.out hg9 HFR5.out HBa5.out; have pa6 := mcell hC.pm 0 rfl; have ta6 := mcell hC.t3 0 rfl; have tb6 := mcell hC.t3 1 rfl; have HCa6 := Lib.hid hC; have HMa6 := Lib.hid hm9; have HFR6 := HFR5; have HBa6 := HBa5; clear hC hm9 hg9)
        | (refine wpList_ins14 (by rfl) _ _ _ 76 (by rfl) Tryz.underlying76 w4.heap.size [(El.tP, (.agg #[.int .i64 1, .func (.func 55) #[.pointer (some ⟨p, 0, none⟩)] #[]])), (El.tVerse, (.agg #[.int .i64 1, .func (.func 56) #[.pointer (some ⟨p, 0, none⟩)] #[]]))] (by rfl) HMa6.out El.tSet (by rfl) (by rfl) (.agg #[.int .i64 1, .func (.func 57) #[.pointer (some ⟨p, 0, none⟩)] #[]]) (by rfl) ?_; intro w7 hm9 hg9; have hC := HCa6.out.put HMa6.out hg9 HFR6.out HBa6.out; have hCf := hC.fin hm9; have HFR7 := Lib.hid (hCf.fresh (Nat.le_refl _)); have hCa := hCf.mono (below_alloc w7 (.map #[] 0)); have pa7 := mcell hC.pm 0 rfl; have pb7 := mcell hCa.pm 0 rfl; have HCa7 := Lib.hid hCa; have HMa7 := Lib.hid (map14_new w7); have HBa7 := Lib.hid (nn_base hC); clear hCf hCa hC hm9 hg9)
        | (refine wpList_ins14 (by rfl) _ _ _ 76 (by rfl) Tryz.underlying76 w7.heap.size [] (by rfl) HMa7.out El.tL (by rfl) (by rfl) (.agg #[.int .i64 1, .func (.func 58) #[.pointer (some ⟨p, 0, none⟩)] #[]]) (by rfl) ?_; intro w8 hm9 hg9; have hC := HCa7.out.put HMa7.out hg9 HFR7.out HBa7.out; have hCf := hC.fin hm9; have HFR8 := Lib.hid (hCf.fresh (Nat.le_refl _)); have hCa := hCf.mono (below_alloc w8 (.map #[] 0)); have pa8 := mcell hC.pm 0 rfl; have pb8 := mcell hCa.pm 0 rfl; have HCa8 := Lib.hid hCa; have HMa8 := Lib.hid (map14_new w8); have HBa8 := Lib.hid (nn_base hC); clear hCf hCa hC hm9 hg9)
        | (refine wpList_ins14 (by rfl) _ _ _ 76 (by rfl) Tryz.underlying76 w8.heap.size [] (by rfl) HMa8.out El.tEd (by rfl) (by rfl) (.agg #[.int .i64 2, .func (.func 60) #[.pointer (some ⟨p, 0, none⟩)] #[]]) (by rfl) ?_; intro w9 hm9 hg9; have hC := HCa8.out.put HMa8.out hg9 HFR8.out HBa8.out; have pa9 := mcell hC.pm 0 rfl; have ta9 := mcell hC.t3 0 rfl; have tb9 := mcell hC.t3 1 rfl; have HCa9 := Lib.hid hC; have HMa9 := Lib.hid hm9; have HFR9 := HFR8; have HBa9 := HBa8; clear hC hm9 hg9)
        | (refine wpList_ins14 (by rfl) _ _ _ 76 (by rfl) Tryz.underlying76 w8.heap.size [(El.tEd, (.agg #[.int .i64 2, .func (.func 60) #[.pointer (some ⟨p, 0, none⟩)] #[]]))] (by rfl) HMa9.out El.tLabel (by rfl) (by rfl) (.agg #[.int .i64 1, .func (.func 61) #[.pointer (some ⟨p, 0, none⟩)] #[]]) (by rfl) ?_; intro w10 hm9 hg9; have hC := HCa9.out.put HMa9.out hg9 HFR9.out HBa9.out; have hCf := hC.fin hm9; have HFR10 := Lib.hid (hCf.fresh (Nat.le_refl _)); have hCa := hCf.mono (below_alloc w10 (.map #[] 0)); have pa10 := mcell hC.pm 0 rfl; have pb10 := mcell hCa.pm 0 rfl; have HCa10 := Lib.hid hCa; have HMa10 := Lib.hid (map14_new w10); have HBa10 := Lib.hid (nn_base hC); clear hCf hCa hC hm9 hg9)
        | (refine wpList_ins14 (by rfl) _ _ _ 76 (by rfl) Tryz.underlying76 w10.heap.size [] (by rfl) HMa10.out El.tSig (by rfl) (by rfl) (.agg #[.int .i64 1, .func (.func 63) #[.pointer (some ⟨p, 0, none⟩)] #[]]) (by rfl) ?_; intro w11 hm9 hg9; have hC := HCa10.out.put HMa10.out hg9 HFR10.out HBa10.out; have pa11 := mcell hC.pm 0 rfl; have ta11 := mcell hC.t3 0 rfl; have tb11 := mcell hC.t3 1 rfl; have HCa11 := Lib.hid hC; have HMa11 := Lib.hid hm9; have HFR11 := HFR10; have HBa11 := HBa10; clear hC hm9 hg9)
        | (refine wpList_ins14 (by rfl) _ _ _ 76 (by rfl) Tryz.underlying76 w10.heap.size [(El.tSig, (.agg #[.int .i64 1, .func (.func 63) #[.pointer (some ⟨p, 0, none⟩)] #[]]))] (by rfl) HMa11.out El.tRef (by rfl) (by rfl) (.agg #[.int .i64 1, .func (.func 64) #[.pointer (some ⟨p, 0, none⟩)] #[]]) (by rfl) ?_; intro w12 hm9 hg9; have hC := HCa11.out.put HMa11.out hg9 HFR11.out HBa11.out; have hCf := hC.fin hm9; have pa12 := mcell hC.pm 0 rfl; have HCZ := Lib.hid hCf; clear hCf hC hm9 hg9)
        | (refine wpList_storeAll14 (by rfl) _ _ 80 (by rfl) 27 infoCx (H + 1) 0 (by rfl) #[.string ⟨#[]⟩, .nilFunc, .map none, .string ⟨#[]⟩, .nilFunc, .map none, .string ⟨#[]⟩, .nilFunc, .map none, .string ⟨#[]⟩, .nilFunc, .map none, .string ⟨#[]⟩, .nilFunc, .map none, .string ⟨#[]⟩, .nilFunc, .map none, .string ⟨#[]⟩, .nilFunc, .map none, .string ⟨#[]⟩, .nilFunc, .map none, .string ⟨#[]⟩, .nilFunc, .map none] 80 HCZ.out.r2 (.agg (cellsF wr.heap.size w3.heap.size w4.heap.size w7.heap.size w8.heap.size (H + 3) w10.heap.size (.pointer (some ⟨p, 0, none⟩))).toArray) (by rfl) (cellsF wr.heap.size w3.heap.size w4.heap.size w7.heap.size w8.heap.size (H + 3) w10.heap.size (.pointer (some ⟨p, 0, none⟩))) (by rfl) (by rfl) (Nat.le_refl 27) one27 ?_; intro WX hWX hGX; have HWX := Lib.hid hWX; have HGX := Lib.hid hGX; clear hWX hGX)
        | fail)
      have hZ := HCZ.out
      have HP := Lib.hid (ctx_post (p := p) (bs := wr.heap.size) (bd := w3.heap.size) (bc := w4.heap.size) (bt := w7.heap.size) (bx := w8.heap.size) (bn := H + 3) (bo := w10.heap.size) hZ HGX.out HH.out (hZ.done _ (List.mem_append.2 (.inl (List.mem_append.2 (.inl (List.mem_append.2 (.inl (List.mem_append.2 (.inl (List.mem_append.2 (.inl (List.mem_append.2 (.inr (List.mem_singleton.2 rfl)))))))))))))) (hZ.done _ (List.mem_append.2 (.inl (List.mem_append.2 (.inl (List.mem_append.2 (.inl (List.mem_append.2 (.inl (List.mem_append.2 (.inr (List.mem_singleton.2 rfl)))))))))))) (hZ.done _ (List.mem_append.2 (.inl (List.mem_append.2 (.inl (List.mem_append.2 (.inl (List.mem_append.2 (.inr (List.mem_singleton.2 rfl)))))))))) (hZ.done _ (List.mem_append.2 (.inl (List.mem_append.2 (.inl (List.mem_append.2 (.inr (List.mem_singleton.2 rfl)))))))) (hZ.done _ (List.mem_append.2 (.inl (List.mem_append.2 (.inr (List.mem_singleton.2 rfl)))))) (hZ.done _ (List.mem_append.2 (.inl (List.mem_append.2 (.inl (List.mem_append.2 (.inl (List.mem_append.2 (.inl (List.mem_append.2 (.inl (List.mem_append.2 (.inl (List.mem_append.2 (.inr (List.mem_singleton.2 rfl)))))))))))))))) (hZ.done _ (List.mem_append.2 (.inr (List.mem_singleton.2 rfl))))
        HBa0.out HBa3.out HBa4.out HBa7.out HBa8.out HBa10.out (by have := HH.out; omega))
      clear hZ HCZ HGX HH HBa0 HBa3 HBa4 HBa7 HBa8 HBa10
      exact ctx_ret (b := H + 1) rfl rfl HWX.out HP.out
end Go.Proofs.YtfjplhgajoehfaaGreatDoor
