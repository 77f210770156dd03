/-
  The law ItemBuilds: the items of any words, in prose and in verse, are as the document says.
-/
import Derived.Test.YtfgfplpbddapnaaLawMay9
set_option linter.unusedVariables false
set_option linter.unusedSimpArgs false
namespace Go.Proofs.Ytfgfplpbddapnaa
open Go.RowKit

/-- the first line's words, or none -/
def headW (ls : List (List (List It.Pt))) : List (List It.Pt) := ls.headD []
set_option maxHeartbeats 8000000 in
set_option maxRecDepth 100000 in
/-- the second half of the law, from the words on -/
theorem lawBuilds9 (sp : It.Gl) (x4 x5 x6 x7 : Value) (hy : Int) (v : Value) (ls : List (List (List It.Pt))) (w : World) (h : LinesAt w v ls) (hlen : (It.versI sp hy 0 ls).length ≤ 100000000) (hlen2 : (It.versI sp hy 0 [headW ls]).length ≤ 100000000) :
    Calls Try.prog 3 #[metV9 sp x4 x5 x6 x7, .int .i64 hy, v] w (Ret (.bool true) w) := by
  have HF := Lib.hid (fun w => fixed9 w)
  have HA := Lib.hid h
  have HV : Hid (∀ v w ls, LinesAt w v ls → Calls Try.prog 7 #[.agg #[.int .i64 sp.w, .int .i64 sp.st, .int .i64 sp.sk, .int .i64 sp.o, x4, x5, x6, x7], .int .i64 hy, v] w (VOut (It.versI sp hy 0 ls) w)) := Lib.hid (fun v w ls h => (verse_any sp x4 x5 x6 x7 hy v ls w h).mono fun _ _ h => h.out)
  have HRV : Hid (∀ v w ls, LinesAt w v ls → (It.versI sp hy 0 ls).length ≤ 100000000 → Calls Try.prog 8 #[.agg #[.int .i64 sp.w, .int .i64 sp.st, .int .i64 sp.sk, .int .i64 sp.o, x4, x5, x6, x7], .int .i64 hy, v] w (VOut (It.versI sp hy 0 ls) w)) := Lib.hid (fun v w ls h hl => (refVerse_any sp x4 x5 x6 x7 hy v ls w h hl).mono fun _ _ h => h.out)
  have HP : Hid (∀ v w ws, WordsAt w v ws → Calls Try.prog 9 #[.agg #[.int .i64 sp.w, .int .i64 sp.st, .int .i64 sp.sk, .int .i64 sp.o, x4, x5, x6, x7], .int .i64 hy, v] w (VOut (It.versI sp hy 0 [ws]) w)) := Lib.hid (fun v w ws h => (prose_any sp x4 x5 x6 x7 hy v ws w h).mono fun _ _ h => h.out)
  have he : ∀ (c : Int) (w : World), (binOp .eql 33 (.agg #[.int .i64 c, .int .i64 0]) (.agg #[.int .i64 c, .int .i64 0])).run Try.prog w = .ok (.bool true) w := fun c w => by rw [eqFlt]; simp
  have HLs := Lib.hid hlen
  have HLs2 := Lib.hid hlen2
  have HT1 : Hid (∀ w v u, ItsAt w v (vL (It.versI sp hy 0 ls)) → ItsAt w u (vL (It.versI sp hy 0 ls)) → Calls Try.prog 11 #[v, u] w (Ret (.bool true) w)) := Lib.hid (fun w v u h1 h2 => by
    have h := same_any v u _ _ w h1 h2
    rw [decide_eq_true rfl] at h
    exact h)
  have HT2 : Hid (∀ w v u, ItsAt w v (vL (It.versI sp hy 0 [headW ls])) → ItsAt w u (vL (It.versI sp hy 0 [headW ls])) → Calls Try.prog 11 #[v, u] w (Ret (.bool true) w)) := Lib.hid (fun w v u h1 h2 => by
    have h := same_any v u _ _ w h1 h2
    rw [decide_eq_true rfl] at h
    exact h)
  unfold VOut at HV HRV HP
  obtain ⟨B0, hB0⟩ : ∃ W, W = w.alloc (.cells #[.int .i64 sp.w, .int .i64 sp.st, .int .i64 sp.sk, .int .i64 sp.o, x4, x5, x6, x7] 28) := ⟨_, rfl⟩
  have HB0 : Hid (Below w.heap.size w B0) := Lib.hid (by rw [hB0]; exact below_alloc _ _)
  have HM0 : Hid (B0.heap[w.heap.size]? = some (.cells #[.int .i64 sp.w, .int .i64 sp.st, .int .i64 sp.sk, .int .i64 sp.o, x4, x5, x6, x7] 28 (0, 0))) := Lib.hid (by rw [hB0]; exact obj_new w _ rfl _ _)
  unfold metV9
  obtain ⟨⟨va, cp, rfl, hcap⟩, hm, _⟩ := h
  obtain ⟨n9, hn9⟩ : ∃ n, n = ls.length := ⟨_, rfl⟩
  have Hn := Lib.hid hn9
  rw [← hn9] at HA ⊢
  clear hn9 hcap hm hlen hlen2
  go_enter Try.func3, Try.ntmps3
  go_upto_region 1 with fail
  rw [← hB0]
  clear hB0
  obtain ⟨x0, x1, x2, x3, z4, z5, z6, z7⟩ := met_cells9 HM0.out
  have HC1 := Lib.hid (HV.out _ B0 ls (lines_mono _ _ _ _ HA.out HB0.out))
  go_wp2_with fail
  refine HC1.out.mono ?_
  rintro e w1 ⟨v1, rfl, hi1, hb1⟩
  have hb1' := below_step hb1 (below_alloc w1 (.cells #[.int .i64 (vC (It.versI sp hy 0 ls)), .int .i64 0] 33))
  obtain ⟨W1, hW1⟩ : ∃ W, W = w1.alloc (.cells #[.int .i64 (vC (It.versI sp hy 0 ls)), .int .i64 0] 33) := ⟨_, rfl⟩
  have HI1 := Lib.hid (SlcAt.mono hi1 (below_alloc w1 (.cells #[.int .i64 (vC (It.versI sp hy 0 ls)), .int .i64 0] 33)))
  have HG1 := Lib.hid (flt_new w1 (vC (It.versI sp hy 0 ls)) 0)
  rw [← hW1] at hb1' HI1 HG1
  have HB1 := Lib.hid (below_step HB0.out hb1')
  have HM1 := Lib.hid (obj_kept hb1' HM0.out)
  clear hb1 hb1' hi1 x0 x1 x2 x3 z4 z5 z6 z7
  obtain ⟨r1, hr1⟩ : ∃ r, r = w1.heap.size := ⟨_, rfl⟩
  rw [← hr1] at HG1
  go_upto_region 2 with fail
  rw [← hW1, ← hr1]
  clear hW1 hr1
  obtain ⟨x0, x1, x2, x3, z4, z5, z6, z7⟩ := met_cells9 HM1.out
  have HC2 := Lib.hid (HRV.out _ W1 ls (lines_mono _ _ _ _ HA.out HB1.out) HLs.out)
  go_wp2_with fail
  refine HC2.out.mono ?_
  rintro e w2 ⟨v2, rfl, hi2, hb2⟩
  have hb2' := below_step hb2 (below_alloc w2 (.cells #[.int .i64 (vC (It.versI sp hy 0 ls)), .int .i64 0] 33))
  obtain ⟨W2, hW2⟩ : ∃ W, W = w2.alloc (.cells #[.int .i64 (vC (It.versI sp hy 0 ls)), .int .i64 0] 33) := ⟨_, rfl⟩
  have HI2 := Lib.hid (SlcAt.mono hi2 (below_alloc w2 (.cells #[.int .i64 (vC (It.versI sp hy 0 ls)), .int .i64 0] 33)))
  have HG2 := Lib.hid (flt_new w2 (vC (It.versI sp hy 0 ls)) 0)
  rw [← hW2] at hb2' HI2 HG2
  have HB2 := Lib.hid (below_step HB1.out hb2')
  have HM2 := Lib.hid (obj_kept hb2' HM1.out)
  have HI1b := Lib.hid (SlcAt.mono HI1.out hb2')
  have HG1b := Lib.hid (HG1.out.mono hb2')
  clear hb2 hb2' hi2 x0 x1 x2 x3 z4 z5 z6 z7 HI1 HG1
  obtain ⟨r2, hr2⟩ : ∃ r, r = w2.heap.size := ⟨_, rfl⟩
  rw [← hr2] at HG2
  go_upto_region 3 with fail
  rw [← hW2, ← hr2]
  clear hW2 hr2
  -- the words: none, or the first line's
  have HB3 := Lib.hid (below_alloc W2 (.cells #[] 43))
  obtain ⟨W3, hW3⟩ : ∃ W, W = W2.alloc (.cells #[] 43) := ⟨_, rfl⟩
  have HWn := Lib.hid (words_new W2 _ rfl)
  rw [← hW3] at HB3 HWn
  have HMid : Hid (∃ vw, WordsAt W3 vw (headW ls) ∧ ((n9 = 0 ∧ vw = .slice (some ⟨W2.heap.size, 0, none⟩) 0 0) ∨ (0 < n9 ∧ ∃ b1 o1, va = some ⟨b1, o1, none⟩ ∧ W3.cell? ⟨b1, o1, none⟩ = some vw))) := Lib.hid (by
    cases hls : ls with
    | nil =>
      refine ⟨_, by rw [headW]; exact HWn.out, .inl ⟨by rw [Hn.out, hls]; rfl, rfl⟩⟩
    | cons ws r =>
      have hp : 0 < ls.length := by rw [hls]; simp
      obtain ⟨b1, o1, d1, e1, q1⟩ := HA.out.2.2 hp
      obtain ⟨vw, hc, hw⟩ := q1 0 ws (by rw [hls]; rfl)
      have hbb := below_step HB2.out HB3.out
      refine ⟨vw, words_mono _ _ _ _ hw hbb, .inr ⟨by rw [Hn.out]; exact hp, b1, o1, by injection e1, cell_below hbb (by simpa using hc)⟩⟩)
  have HBb := Lib.hid (below_step HB2.out HB3.out)
  have HMb := Lib.hid (obj_kept HB3.out HM2.out)
  have HI1c := Lib.hid (SlcAt.mono HI1b.out HB3.out)
  have HI2c := Lib.hid (SlcAt.mono HI2.out HB3.out)
  have HG1c := Lib.hid (HG1b.out.mono HB3.out)
  have HG2c := Lib.hid (HG2.out.mono HB3.out)
  clear HI1b HI2 HG1b HG2 HWn
  generalize vL (It.versI sp hy 0 ls) = L1 at *
  generalize vC (It.versI sp hy 0 ls) = c1 at *
  obtain ⟨vw, hvw, hcase⟩ := HMid.out
  have HVW := Lib.hid hvw
  clear HMid hvw
  rcases hcase with ⟨hn0, rfl⟩ | ⟨hn0, b1, o1, rfl, y0⟩
  · subst hn0
    go_upto_region 6 with fail
    rw [← hW3]
    clear hW3
    obtain ⟨x0, x1, x2, x3, z4, z5, z6, z7⟩ := met_cells9 HMb.out
    have HC4 := Lib.hid (HP.out _ W3 (headW ls) HVW.out)
    go_wp2_with fail
    refine HC4.out.mono ?_
    rintro e w4 ⟨v4, rfl, hi4, hb4⟩
    have hb4' := below_step hb4 (below_alloc w4 (.cells #[.int .i64 (vC (It.versI sp hy 0 [headW ls])), .int .i64 0] 33))
    obtain ⟨W4, hW4⟩ : ∃ W, W = w4.alloc (.cells #[.int .i64 (vC (It.versI sp hy 0 [headW ls])), .int .i64 0] 33) := ⟨_, rfl⟩
    have HI4 := Lib.hid (SlcAt.mono hi4 (below_alloc w4 (.cells #[.int .i64 (vC (It.versI sp hy 0 [headW ls])), .int .i64 0] 33)))
    have HG4 := Lib.hid (flt_new w4 (vC (It.versI sp hy 0 [headW ls])) 0)
    rw [← hW4] at hb4' HI4 HG4
    have HB4 := Lib.hid (below_step HBb.out hb4')
    have HM4 := Lib.hid (obj_kept hb4' HMb.out)
    have HVW4 := Lib.hid (words_mono _ _ _ _ HVW.out hb4')
    have HI1d := Lib.hid (SlcAt.mono HI1c.out hb4')
    have HI2d := Lib.hid (SlcAt.mono HI2c.out hb4')
    have HG1d := Lib.hid (HG1c.out.mono hb4')
    have HG2d := Lib.hid (HG2c.out.mono hb4')
    clear hb4 hb4' hi4 x0 x1 x2 x3 z4 z5 z6 z7 HI1c HI2c HG1c HG2c HVW
    obtain ⟨r4, hr4⟩ : ∃ r, r = w4.heap.size := ⟨_, rfl⟩
    rw [← hr4] at HG4
    go_upto_region 7 with fail
    rw [← hW4, ← hr4]
    clear hW4 hr4
    obtain ⟨x0, x1, x2, x3, z4, z5, z6, z7⟩ := met_cells9 HM4.out
    have HC5 := Lib.hid (HRV.out _ _ [headW ls] (words_one W4 _ rfl _ _ HVW4.out) HLs2.out)
    go_wp2_with fail
    refine HC5.out.mono ?_
    rintro e w5 ⟨v5, rfl, hi5, hb5⟩
    have hb5a := below_step (below_alloc W4 (.cells #[.slice (some ⟨W2.heap.size, 0, none⟩) 0 0] 36)) hb5
    have hb5' := below_step hb5a (below_alloc w5 (.cells #[.int .i64 (vC (It.versI sp hy 0 [headW ls])), .int .i64 0] 33))
    obtain ⟨W5, hW5⟩ : ∃ W, W = w5.alloc (.cells #[.int .i64 (vC (It.versI sp hy 0 [headW ls])), .int .i64 0] 33) := ⟨_, rfl⟩
    have HI5 := Lib.hid (SlcAt.mono hi5 (below_alloc w5 (.cells #[.int .i64 (vC (It.versI sp hy 0 [headW ls])), .int .i64 0] 33)))
    have HG5 := Lib.hid (flt_new w5 (vC (It.versI sp hy 0 [headW ls])) 0)
    rw [← hW5] at hb5' HI5 HG5
    have HB5 := Lib.hid (below_step HB4.out hb5')
    have HI1e := Lib.hid (SlcAt.mono HI1d.out hb5')
    have HI2e := Lib.hid (SlcAt.mono HI2d.out hb5')
    have HI4e := Lib.hid (SlcAt.mono HI4.out hb5')
    have HG1e := Lib.hid (HG1d.out.mono hb5')
    have HG2e := Lib.hid (HG2d.out.mono hb5')
    have HG4e := Lib.hid (HG4.out.mono hb5')
    clear hb5 hb5a hb5' hi5 x0 x1 x2 x3 z4 z5 z6 z7 HI1d HI2d HI4 HG1d HG2d HG4
    obtain ⟨r5, hr5⟩ : ∃ r, r = w5.heap.size := ⟨_, rfl⟩
    rw [← hr5] at HG5
    go_upto_region 8 with fail
    rw [← hW5, ← hr5]
    clear hW5 hr5
    generalize vL (It.versI sp hy 0 [headW ls]) = L2 at *
    generalize vC (It.versI sp hy 0 [headW ls]) = c2 at *
    have HFx := Lib.hid (HF.out W5)
    go_wp2_with fail
    refine HFx.out.mono ?_
    rintro e w6 ⟨rfl, hb6⟩
    have HB6 := Lib.hid (below_step HB5.out hb6)
    have HS1 := Lib.hid (HT1.out w6 v1 v2 (SlcAt.mono HI1e.out hb6) (SlcAt.mono HI2e.out hb6))
    have HI4f := Lib.hid (SlcAt.mono HI4e.out hb6)
    have HI5f := Lib.hid (SlcAt.mono HI5.out hb6)
    have HG1f := Lib.hid (HG1e.out.mono hb6)
    have HG2f := Lib.hid (HG2e.out.mono hb6)
    have HG4f := Lib.hid (HG4e.out.mono hb6)
    have HG5f := Lib.hid (HG5.out.mono hb6)
    clear hb6
    go_wp2_with fail
    refine HS1.out.mono ?_
    rintro e w7 ⟨rfl, hb7⟩
    have HB7 := Lib.hid (below_step HB6.out hb7)
    have HS2 := Lib.hid (HT2.out w7 v4 v5 (SlcAt.mono HI4f.out hb7) (SlcAt.mono HI5f.out hb7))
    have HG4g := Lib.hid (HG4f.out.mono hb7)
    have HG5g := Lib.hid (HG5f.out.mono hb7)
    have a0 := (HG1f.out.mono hb7).c0
    have a1 := (HG1f.out.mono hb7).c1
    have a2 := (HG2f.out.mono hb7).c0
    have a3 := (HG2f.out.mono hb7).c1
    clear hb7
    go_wp2_with fail
    refine HS2.out.mono ?_
    rintro e w8 ⟨rfl, hb8⟩
    have HB8 := Lib.hid (below_step HB7.out hb8)
    clear a0 a1 a2 a3
    have a0 := (HG4g.out.mono hb8).c0
    have a1 := (HG4g.out.mono hb8).c1
    have a2 := (HG5g.out.mono hb8).c0
    have a3 := (HG5g.out.mono hb8).c1
    clear hb8
    go_wp2
    go_ret
    exact ⟨rfl, HB8.out⟩
  · have kp : (0 : Int) < (n9 : Int) := by omega
    clear hn0
    obtain ⟨⟨pw, cw, rfl, _⟩, _, _⟩ := HVW.out
    obtain ⟨nw, hnw⟩ : ∃ n, n = (headW ls).length := ⟨_, rfl⟩
    rw [← hnw] at y0 HVW
    clear hnw
    go_upto_region 4 with fail
    rw [← hW3]
    clear hW3
    go_upto_region 6 with fail
    clear y0
    obtain ⟨x0, x1, x2, x3, z4, z5, z6, z7⟩ := met_cells9 HMb.out
    have HC4 := Lib.hid (HP.out _ W3 (headW ls) HVW.out)
    go_wp2_with fail
    refine HC4.out.mono ?_
    rintro e w4 ⟨v4, rfl, hi4, hb4⟩
    have hb4' := below_step hb4 (below_alloc w4 (.cells #[.int .i64 (vC (It.versI sp hy 0 [headW ls])), .int .i64 0] 33))
    obtain ⟨W4, hW4⟩ : ∃ W, W = w4.alloc (.cells #[.int .i64 (vC (It.versI sp hy 0 [headW ls])), .int .i64 0] 33) := ⟨_, rfl⟩
    have HI4 := Lib.hid (SlcAt.mono hi4 (below_alloc w4 (.cells #[.int .i64 (vC (It.versI sp hy 0 [headW ls])), .int .i64 0] 33)))
    have HG4 := Lib.hid (flt_new w4 (vC (It.versI sp hy 0 [headW ls])) 0)
    rw [← hW4] at hb4' HI4 HG4
    have HB4 := Lib.hid (below_step HBb.out hb4')
    have HM4 := Lib.hid (obj_kept hb4' HMb.out)
    have HVW4 := Lib.hid (words_mono _ _ _ _ HVW.out hb4')
    have HI1d := Lib.hid (SlcAt.mono HI1c.out hb4')
    have HI2d := Lib.hid (SlcAt.mono HI2c.out hb4')
    have HG1d := Lib.hid (HG1c.out.mono hb4')
    have HG2d := Lib.hid (HG2c.out.mono hb4')
    clear hb4 hb4' hi4 x0 x1 x2 x3 z4 z5 z6 z7 HI1c HI2c HG1c HG2c HVW
    obtain ⟨r4, hr4⟩ : ∃ r, r = w4.heap.size := ⟨_, rfl⟩
    rw [← hr4] at HG4
    go_upto_region 7 with fail
    rw [← hW4, ← hr4]
    clear hW4 hr4
    obtain ⟨x0, x1, x2, x3, z4, z5, z6, z7⟩ := met_cells9 HM4.out
    have HC5 := Lib.hid (HRV.out _ _ [headW ls] (words_one W4 _ rfl _ _ HVW4.out) HLs2.out)
    go_wp2_with fail
    refine HC5.out.mono ?_
    rintro e w5 ⟨v5, rfl, hi5, hb5⟩
    have hb5a := below_step (below_alloc W4 (.cells #[.slice pw nw cw] 36)) hb5
    have hb5' := below_step hb5a (below_alloc w5 (.cells #[.int .i64 (vC (It.versI sp hy 0 [headW ls])), .int .i64 0] 33))
    obtain ⟨W5, hW5⟩ : ∃ W, W = w5.alloc (.cells #[.int .i64 (vC (It.versI sp hy 0 [headW ls])), .int .i64 0] 33) := ⟨_, rfl⟩
    have HI5 := Lib.hid (SlcAt.mono hi5 (below_alloc w5 (.cells #[.int .i64 (vC (It.versI sp hy 0 [headW ls])), .int .i64 0] 33)))
    have HG5 := Lib.hid (flt_new w5 (vC (It.versI sp hy 0 [headW ls])) 0)
    rw [← hW5] at hb5' HI5 HG5
    have HB5 := Lib.hid (below_step HB4.out hb5')
    have HI1e := Lib.hid (SlcAt.mono HI1d.out hb5')
    have HI2e := Lib.hid (SlcAt.mono HI2d.out hb5')
    have HI4e := Lib.hid (SlcAt.mono HI4.out hb5')
    have HG1e := Lib.hid (HG1d.out.mono hb5')
    have HG2e := Lib.hid (HG2d.out.mono hb5')
    have HG4e := Lib.hid (HG4.out.mono hb5')
    clear hb5 hb5a hb5' hi5 x0 x1 x2 x3 z4 z5 z6 z7 HI1d HI2d HI4 HG1d HG2d HG4
    obtain ⟨r5, hr5⟩ : ∃ r, r = w5.heap.size := ⟨_, rfl⟩
    rw [← hr5] at HG5
    go_upto_region 8 with fail
    rw [← hW5, ← hr5]
    clear hW5 hr5
    generalize vL (It.versI sp hy 0 [headW ls]) = L2 at *
    generalize vC (It.versI sp hy 0 [headW ls]) = c2 at *
    have HFx := Lib.hid (HF.out W5)
    go_wp2_with fail
    refine HFx.out.mono ?_
    rintro e w6 ⟨rfl, hb6⟩
    have HB6 := Lib.hid (below_step HB5.out hb6)
    have HS1 := Lib.hid (HT1.out w6 v1 v2 (SlcAt.mono HI1e.out hb6) (SlcAt.mono HI2e.out hb6))
    have HI4f := Lib.hid (SlcAt.mono HI4e.out hb6)
    have HI5f := Lib.hid (SlcAt.mono HI5.out hb6)
    have HG1f := Lib.hid (HG1e.out.mono hb6)
    have HG2f := Lib.hid (HG2e.out.mono hb6)
    have HG4f := Lib.hid (HG4e.out.mono hb6)
    have HG5f := Lib.hid (HG5.out.mono hb6)
    clear hb6
    go_wp2_with fail
    refine HS1.out.mono ?_
    rintro e w7 ⟨rfl, hb7⟩
    have HB7 := Lib.hid (below_step HB6.out hb7)
    have HS2 := Lib.hid (HT2.out w7 v4 v5 (SlcAt.mono HI4f.out hb7) (SlcAt.mono HI5f.out hb7))
    have HG4g := Lib.hid (HG4f.out.mono hb7)
    have HG5g := Lib.hid (HG5f.out.mono hb7)
    have a0 := (HG1f.out.mono hb7).c0
    have a1 := (HG1f.out.mono hb7).c1
    have a2 := (HG2f.out.mono hb7).c0
    have a3 := (HG2f.out.mono hb7).c1
    clear hb7
    go_wp2_with fail
    refine HS2.out.mono ?_
    rintro e w8 ⟨rfl, hb8⟩
    have HB8 := Lib.hid (below_step HB7.out hb8)
    clear a0 a1 a2 a3
    have a0 := (HG4g.out.mono hb8).c0
    have a1 := (HG4g.out.mono hb8).c1
    have a2 := (HG5g.out.mono hb8).c0
    have a3 := (HG5g.out.mono hb8).c1
    clear hb8
    go_wp2
    go_ret
    exact ⟨rfl, HB8.out⟩
end Go.Proofs.Ytfgfplpbddapnaa
