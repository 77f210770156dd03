/-
  The law ItemBoxes: the boxes of verse are all parts of all words, each once, in order.
-/
import Derived.Test.YtfgfplpbddapnaaFlat9
set_option linter.unusedVariables false
set_option linter.unusedSimpArgs false
namespace Go.Proofs.Ytfgfplpbddapnaa
open Go.RowKit

set_option maxHeartbeats 8000000 in
set_option maxRecDepth 100000 in
/-- where the items are too many -/
theorem lawBoxes9_no (sp : It.Gl) (x4 x5 x6 x7 : Value) (hy : Int) (v : Value) (ls : List (List (List It.Pt))) (w : World) (h : LinesAt w v ls) (hmay : It.may (It.versI sp hy 0 ls) = false) :
    Calls Try.prog 5 #[metV9 sp x4 x5 x6 x7, .int .i64 hy, v] w (Ret (.bool true) w) := by
  have HF := Lib.hid (fun w => fixed9 w)
  have HA := Lib.hid h
  have HV : Hid (∀ v w, LinesAt w v ls → Calls Try.prog 7 #[.agg #[.int .i64 sp.w, .int .i64 sp.st, .int .i64 sp.sk, .int .i64 sp.o, x4, x5, x6, x7], .int .i64 hy, v] w (fun e w' => ∃ a cap, e = .returned (.tuple #[.slice a 0 cap, .agg #[.int .i64 90, .int .i64 0]]) ∧ Below w.heap.size w w')) := Lib.hid (fun v w h => (verse_any sp x4 x5 x6 x7 hy v ls w h).mono fun _ _ h => by
    obtain ⟨v1, he, h1, h2⟩ := h.out
    unfold vL vC at *
    rw [hmay] at h1 he
    obtain ⟨a, cap, rfl⟩ := SlcAt.zero h1 rfl
    exact ⟨a, cap, he, h2⟩)
  have he : ∀ (w : World), (binOp .eql 33 (.agg #[.int .i64 90, .int .i64 0]) (.agg #[.int .i64 90, .int .i64 0])).run Try.prog w = .ok (.bool true) w := fun w => by rw [eqFlt]; simp
  obtain ⟨B0, hB0⟩ : ∃ W, W = w.alloc (.cells #[.int .i64 sp.w, .int .i64 sp.st, .int .i64 sp.sk, .int .i64 sp.o, x4, x5, x6, x7] 28) := ⟨_, rfl⟩
  have HB0 : Hid (Below w.heap.size w B0) := Lib.hid (by rw [hB0]; exact below_alloc _ _)
  have HM0 : Hid (B0.heap[w.heap.size]? = some (.cells #[.int .i64 sp.w, .int .i64 sp.st, .int .i64 sp.sk, .int .i64 sp.o, x4, x5, x6, x7] 28 (0, 0))) := Lib.hid (by rw [hB0]; exact obj_new w _ rfl _ _)
  unfold metV9
  obtain ⟨⟨va, cp, rfl, hcap⟩, hm, _⟩ := h
  obtain ⟨n9, hn9⟩ : ∃ n, n = ls.length := ⟨_, rfl⟩
  have Hn := Lib.hid hn9
  rw [← hn9] at HA ⊢
  clear hn9 hcap hm hmay
  go_enter Try.func5, Try.ntmps5
  go_upto_region 1 with fail
  rw [← hB0]
  clear hB0
  obtain ⟨x0, x1, x2, x3, z4, z5, z6, z7⟩ := met_cells9 HM0.out
  have HC1 := Lib.hid (HV.out _ B0 (lines_mono _ _ _ _ HA.out HB0.out))
  go_wp2_with fail
  refine HC1.out.mono ?_
  rintro e w1 ⟨a1, cap1, rfl, hb1⟩
  have hb1' := below_step hb1 (below_alloc w1 (.cells #[.int .i64 90, .int .i64 0] 33))
  obtain ⟨W1, hW1⟩ : ∃ W, W = w1.alloc (.cells #[.int .i64 90, .int .i64 0] 33) := ⟨_, rfl⟩
  have HG1 := Lib.hid (flt_new w1 90 0)
  rw [← hW1] at hb1' HG1
  have HB1 := Lib.hid (below_step HB0.out hb1')
  clear hb1 hb1' x0 x1 x2 x3 z4 z5 z6 z7
  obtain ⟨r1, hr1⟩ : ∃ r, r = w1.heap.size := ⟨_, rfl⟩
  rw [← hr1] at HG1
  go_upto_region 2 with fail
  rw [← hW1, ← hr1]
  clear hW1 hr1
  have HFx := Lib.hid (HF.out W1)
  go_wp2_with fail
  refine HFx.out.mono ?_
  rintro e w2 ⟨rfl, hb2⟩
  have HB2 := Lib.hid (below_step HB1.out hb2)
  have HG2 := Lib.hid (HG1.out.mono hb2)
  have a0 := HG2.out.c0
  have a1 := HG2.out.c1
  have HFy := Lib.hid (HF.out w2)
  clear hb2
  go_wp2_with fail
  refine HFy.out.mono ?_
  rintro e w3 ⟨rfl, hb3⟩
  have HB3 := Lib.hid (below_step HB2.out hb3)
  clear a0 a1
  have a0 := (HG2.out.mono hb3).c0
  have a1 := (HG2.out.mono hb3).c1
  clear hb3
  go_wp2
  go_ret
  exact ⟨rfl, HB3.out⟩

set_option maxHeartbeats 16000000 in
set_option maxRecDepth 100000 in
/-- where they are not -/
theorem lawBoxes9_yes (sp : It.Gl) (x4 x5 x6 x7 : Value) (hy : Int) (v : Value) (ls : List (List (List It.Pt))) (w : World) (h : LinesAt w v ls) (hmay : It.may (It.versI sp hy 0 ls) = true) :
    Calls Try.prog 5 #[metV9 sp x4 x5 x6 x7, .int .i64 hy, v] w (Ret (.bool true) w) := by
  have HF := Lib.hid (fun w => fixed9 w)
  have HA := Lib.hid h
  obtain ⟨tgt, htg⟩ : ∃ t, t = It.versI sp hy 0 ls := ⟨_, rfl⟩
  obtain ⟨bx, hbx⟩ : ∃ t, t = It.boxes tgt := ⟨_, rfl⟩
  have HV : Hid (∀ v w, LinesAt w v ls → Calls Try.prog 7 #[.agg #[.int .i64 sp.w, .int .i64 sp.st, .int .i64 sp.sk, .int .i64 sp.o, x4, x5, x6, x7], .int .i64 hy, v] w (fun e w' => ∃ a cap, e = .returned (.tuple #[.slice a tgt.length cap, .agg #[.int .i64 0, .int .i64 0]]) ∧ ItsAt w' (.slice a tgt.length cap) tgt ∧ Below w.heap.size w w')) := Lib.hid (fun v w h => (verse_any sp x4 x5 x6 x7 hy v ls w h).mono fun _ _ h => by
    obtain ⟨v1, he, h1, h2⟩ := h.out
    unfold vL vC at *
    rw [hmay, if_pos rfl, ← htg] at h1
    rw [hmay, if_pos rfl] at he
    obtain ⟨⟨a, cap, rfl, _⟩, _, _⟩ := id h1
    exact ⟨a, cap, he, h1, h2⟩)
  have hlen : tgt.length ≤ 2000 := by rw [htg]; exact (It.may_yes hmay).1
  have HLT := Lib.hid hlen
  have HLB : Hid (bx.length ≤ 2000) := Lib.hid (by
    have : bx.length ≤ tgt.length := by rw [hbx]; exact List.length_filter_le _ _
    omega)
  have HX : Hid (∀ v w, ItsAt w v tgt → Calls Try.prog 14 #[v] w (fun e w' => ∃ a cap, e = .returned (.slice a bx.length cap) ∧ ItsAt w' (.slice a bx.length cap) bx ∧ Below w.heap.size w w')) := Lib.hid (fun v w h => (itemBoxes_any v tgt w h (by omega)).mono fun _ _ ⟨u, he, h1, h2⟩ => by
    have h3 := h1.at itC_len
    rw [← hbx] at h3
    obtain ⟨⟨a, cap, rfl, _⟩, _, _⟩ := id h3
    exact ⟨a, cap, he, h3, h2⟩)
  have HY : Hid (∀ v w, ItsAt w v tgt → Calls Try.prog 12 #[v] w (Ret (.bool true) w)) := Lib.hid (fun v w h => by
    have h2 := itemMay_any v tgt w h
    rw [htg, hmay] at h2
    exact h2)
  have HI0 : Hid (bx.drop 0 = It.boxes (It.versI sp hy 0 (ls.drop 0))) := Lib.hid (by rw [hbx, htg]; rfl)
  have HC0 : Hid (0 ≤ bx.length ∧ (0 : Int) ≤ 0 ∧ (0 : Int) + (It.cnt (ls.drop 0) : Int) ≤ 5000) := Lib.hid (by
    have h1 := It.cnt_le sp hy ls 0
    rw [← htg] at h1
    rw [List.drop_zero]
    omega)
  have HFr : Hid (It.frc tgt = ls.length) := Lib.hid (by rw [htg]; exact It.frc_vers sp hy ls 0)
  obtain ⟨B0, hB0⟩ : ∃ W, W = w.alloc (.cells #[.int .i64 sp.w, .int .i64 sp.st, .int .i64 sp.sk, .int .i64 sp.o, x4, x5, x6, x7] 28) := ⟨_, rfl⟩
  have HB0 : Hid (Below w.heap.size w B0) := Lib.hid (by rw [hB0]; exact below_alloc _ _)
  have HM0 : Hid (B0.heap[w.heap.size]? = some (.cells #[.int .i64 sp.w, .int .i64 sp.st, .int .i64 sp.sk, .int .i64 sp.o, x4, x5, x6, x7] 28 (0, 0))) := Lib.hid (by rw [hB0]; exact obj_new w _ rfl _ _)
  unfold metV9
  obtain ⟨⟨va, cp, rfl, hcap⟩, hm, _⟩ := h
  have hza : ls.length ≤ 9223372036854775807 := by unfold maxLen at hm; omega
  obtain ⟨n9, hn9⟩ : ∃ n, n = ls.length := ⟨_, rfl⟩
  have Hn := Lib.hid hn9
  obtain ⟨nt, hnt⟩ : ∃ n, n = tgt.length := ⟨_, rfl⟩
  have Hnt := Lib.hid hnt
  obtain ⟨nb, hnb⟩ : ∃ n, n = bx.length := ⟨_, rfl⟩
  have Hnb := Lib.hid hnb
  have hlb := HLB.out
  rw [← hn9] at HA hza HFr ⊢
  rw [← hnt] at HV hlen HLT
  rw [← hnb] at HX hlb HC0
  clear hn9 hcap hm hmay htg hbx hnt hnb
  go_enter Try.func5, Try.ntmps5
  go_upto_region 1 with fail
  rw [← hB0]
  clear hB0
  obtain ⟨x0, x1, x2, x3, z4, z5, z6, z7⟩ := met_cells9 HM0.out
  have HC1 := Lib.hid (HV.out _ B0 (lines_mono _ _ _ _ HA.out HB0.out))
  go_wp2_with fail
  refine HC1.out.mono ?_
  rintro e w1 ⟨a1, cap1, rfl, hi1, hb1⟩
  have hb1' := below_step hb1 (below_alloc w1 (.cells #[.int .i64 0, .int .i64 0] 33))
  obtain ⟨W1, hW1⟩ : ∃ W, W = w1.alloc (.cells #[.int .i64 0, .int .i64 0] 33) := ⟨_, rfl⟩
  have HI1 := Lib.hid (SlcAt.mono hi1 (below_alloc w1 (.cells #[.int .i64 0, .int .i64 0] 33)))
  have HG1 := Lib.hid (flt_new w1 0 0)
  rw [← hW1] at hb1' HG1 HI1
  have HB1 := Lib.hid (below_step HB0.out hb1')
  clear hb1 hb1' hi1 x0 x1 x2 x3 z4 z5 z6 z7
  obtain ⟨r1, hr1⟩ : ∃ r, r = w1.heap.size := ⟨_, rfl⟩
  rw [← hr1] at HG1
  go_upto_region 2 with fail
  rw [← hW1, ← hr1]
  clear hW1 hr1
  have HFx := Lib.hid (HF.out W1)
  go_wp2_with fail
  refine HFx.out.mono ?_
  rintro e w2 ⟨rfl, hb2⟩
  have HB2 := Lib.hid (below_step HB1.out hb2)
  have HI2 := Lib.hid (SlcAt.mono HI1.out hb2)
  have a0 := (HG1.out.mono hb2).c0
  have a1' := (HG1.out.mono hb2).c1
  have HC2 := Lib.hid (HX.out _ w2 HI2.out)
  clear hb2
  go_wp2_with fail
  refine HC2.out.mono ?_
  rintro e W4 ⟨a2, cap2, rfl, hi4, hb4⟩
  have HB4 := Lib.hid (below_step HB2.out hb4)
  have HT4 := Lib.hid (SlcAt.mono HI2.out hb4)
  have HX4 := Lib.hid hi4
  clear hb4 hi4 a0 a1'
  go_wp2_with fail
  go_loopw [10, 11, 13] (fun av mv iv wr => ∃ (a i : Nat) (m : Int), i ≤ n9 ∧ av = .int .i64 a ∧ mv = .int .i64 m ∧ iv = .int .i64 i ∧ Hid (Below W4.heap.size W4 wr) ∧ Hid (bx.drop a = It.boxes (It.versI sp hy m (ls.drop i))) ∧ Hid (a ≤ nb ∧ 0 ≤ m ∧ m + (It.cnt (ls.drop i) : Int) ≤ 5000)) (fun _ _ iv _ => n9 - (intOf iv).toNat)
  case atStart => exact ⟨0, 0, 0, Nat.zero_le _, rfl, rfl, rfl, Lib.hid (Below.refl _ _), HI0, HC0⟩
  case round =>
    obtain ⟨a, i, m, hi, rfl, rfl, rfl, HB, HD, HM⟩ := hrel
    clear HI0 HC0
    by_cases hlt : i < n9
    · obtain ⟨b1, o1, d1, e1, q1⟩ := HA.out.2.2 (by rw [← Hn.out]; omega)
      obtain ⟨rfl, rfl⟩ : va = some ⟨b1, o1, none⟩ ∧ cp = d1 := by injection e1 with p1 p2 p3; exact ⟨p1, p3⟩
      obtain ⟨ws, hx⟩ : ∃ x, ls[i]? = some x := ⟨_, List.getElem?_eq_getElem (by rw [← Hn.out]; exact hlt)⟩
      obtain ⟨vl, hvl, hwt⟩ := q1 i ws hx
      have HWt := Lib.hid (words_mono _ _ _ _ hwt HB4.out)
      have hvl4 := cell_below HB4.out hvl
      obtain ⟨⟨pa, ca, rfl, hcap⟩, hmw, _⟩ := hwt
      have hzw : ws.length ≤ 9223372036854775807 := by unfold maxLen at hmw; omega
      have i0 : (0 : Int) ≤ (i : Int) := by omega
      have il : (i : Int) < (n9 : Int) := by omega
      obtain ⟨rest, hrest⟩ : ∃ r, r = It.boxes (It.versI sp hy (m + ws.length) (ls.drop (i + 1))) := ⟨_, rfl⟩
      have HR := Lib.hid hrest
      obtain ⟨m0, hm0⟩ : ∃ q, q = m := ⟨_, rfl⟩
      have HM00 := Lib.hid hm0
      have HI2x : Hid (bx.drop a = It.boxes (It.wordsI sp hy m 0 (ws.drop 0)) ++ rest) := Lib.hid (by rw [hrest, HD.out, It.boxes_vers_at hx])
      obtain ⟨nr, hnr⟩ : ∃ r, r = It.cnt (ls.drop (i + 1)) := ⟨_, rfl⟩
      have HNR := Lib.hid hnr
      obtain ⟨nw, hnw⟩ : ∃ n, n = ws.length := ⟨_, rfl⟩
      have Hnw := Lib.hid hnw
      have HM2 : Hid (a ≤ nb ∧ m = m0 + ((0 : Nat) : Int) ∧ 0 ≤ m0 ∧ m0 + nw + nr ≤ 5000) := Lib.hid (by
        have h1 := HM.out
        rw [It.cnt_at hx, ← hnr, ← hnw] at h1
        omega)
      rw [← hnw] at hvl4 hzw HWt
      have HVL := Lib.hid hvl4
      have HIl := Lib.hid (show i + 1 ≤ n9 from hlt)
      clear q1 e1 hx hvl hvl4 hcap hmw hrest hnw hm0 hnr HD HM
      go_wp2_with fail
      go_loopw [10, 11, 14] (fun av mv kv wr => ∃ (a k : Nat) (m : Int), k ≤ nw ∧ av = .int .i64 a ∧ mv = .int .i64 m ∧ kv = .int .i64 k ∧ Hid (Below W4.heap.size W4 wr) ∧ Hid (bx.drop a = It.boxes (It.wordsI sp hy m k (ws.drop k)) ++ rest) ∧ Hid (a ≤ nb ∧ m = m0 + (k : Int) ∧ 0 ≤ m0 ∧ m0 + nw + nr ≤ 5000)) (fun _ _ kv _ => nw - (intOf kv).toNat)
      case atStart => exact ⟨a, 0, m, Nat.zero_le _, rfl, rfl, rfl, HB, HI2x, HM2⟩
      case round =>
        clear HI2x HM2 HB
        obtain ⟨a, k, m, hk, rfl, rfl, rfl, HB, HD, HM⟩ := hrel
        have y0 : wr.cell? ⟨b1, o1 + i, none⟩ = some (.slice pa nw ca) := cell_below HB.out HVL.out
        by_cases hltk : k < nw
        · obtain ⟨b2, o2, d2, e2, q2⟩ := HWt.out.2.2 (by rw [← Hnw.out]; omega)
          obtain ⟨rfl, rfl⟩ : pa = some ⟨b2, o2, none⟩ ∧ ca = d2 := by injection e2 with p1 p2 p3; exact ⟨p1, p3⟩
          obtain ⟨pl, hx⟩ : ∃ x, ws[k]? = some x := ⟨_, List.getElem?_eq_getElem (by rw [← Hnw.out]; exact hltk)⟩
          obtain ⟨vq, hvq, hpq⟩ := q2 k pl hx
          have HPQ := Lib.hid hpq
          obtain ⟨⟨qa, qc, rfl, hcap⟩, hmq, _⟩ := hpq
          have hzq : pl.length ≤ 9223372036854775807 := by unfold maxLen at hmq; omega
          have k0 : (0 : Int) ≤ (k : Int) := by omega
          have kl : (k : Int) < (nw : Int) := by omega
          obtain ⟨rest2, hrest2⟩ : ∃ r, r = It.boxes (It.wordsI sp hy (m + 1) (k + 1) (ws.drop (k + 1))) ++ rest := ⟨_, rfl⟩
          have HR2 := Lib.hid hrest2
          have HI3x : Hid (bx.drop a = It.boxes (It.wordI hy m 0 (pl.drop 0)) ++ rest2) := Lib.hid (by rw [hrest2, HD.out, It.boxes_words_at hx, List.append_assoc])
          obtain ⟨nq, hnq⟩ : ∃ n, n = pl.length := ⟨_, rfl⟩
          have Hnq := Lib.hid hnq
          have HA3 : Hid (a ≤ nb) := Lib.hid HM.out.1
          have HM3 : Hid (m = m0 + (k : Int) ∧ 0 ≤ m0 ∧ m0 + nw + nr ≤ 5000) := Lib.hid HM.out.2
          have hmlo : 0 ≤ m := by have := HM3.out; omega
          have hmhi : m ≤ 5000 := by have := HM3.out; omega
          have HWm : IntKind.i64.wrap (m + 1) = m + 1 := wr64 (by omega) (by omega)
          rw [← hnq] at hvq hzq HPQ
          have HVQ := Lib.hid hvq
          have HKl := Lib.hid (show k + 1 ≤ nw from hltk)
          clear q2 e2 hx hvq hcap hmq hrest2 hnq HD HM
          go_wp2_with fail
          clear y0
          go_loopw [10, 15] (fun av pv wr => ∃ (a p : Nat), p ≤ nq ∧ av = .int .i64 a ∧ pv = .int .i64 p ∧ Hid (Below W4.heap.size W4 wr) ∧ Hid (bx.drop a = It.boxes (It.wordI hy m p (pl.drop p)) ++ rest2) ∧ Hid (a ≤ nb)) (fun _ pv _ => nq - (intOf pv).toNat)
          case atStart => exact ⟨a, 0, Nat.zero_le _, rfl, rfl, HB, HI3x, HA3⟩
          case round =>
            clear HI3x HA3 HB
            obtain ⟨a, p, hp, rfl, rfl, HB, HD, HAl⟩ := hrel
            have y0 : wr.cell? ⟨b1, o1 + i, none⟩ = some (.slice (some ⟨b2, o2, none⟩) nw ca) := cell_below HB.out HVL.out
            have y1 : wr.cell? ⟨b2, o2 + k, none⟩ = some (.slice qa nq qc) := cell_below HB.out HVQ.out
            by_cases hltp : p < nq
            · obtain ⟨b3, o3, d3, e3, q3⟩ := HPQ.out.2.2 (by rw [← Hnq.out]; omega)
              obtain ⟨rfl, rfl⟩ : qa = some ⟨b3, o3, none⟩ ∧ qc = d3 := by injection e3 with p1 p2 p3; exact ⟨p1, p3⟩
              obtain ⟨pt, hx⟩ : ∃ x, pl[p]? = some x := ⟨_, List.getElem?_eq_getElem (by rw [← Hnq.out]; exact hltp)⟩
              obtain ⟨y2, y3, y4, y5⟩ := pt_cells ((q3 p pt hx).mono HB.out)
              have hdc := HD.out
              rw [It.boxes_word_at hx, List.cons_append] at hdc
              obtain ⟨hba, hal, hda⟩ := It.drop_cons hdc
              have HDn := Lib.hid hda
              rw [← Hnb.out] at hal
              obtain ⟨b4, o4, d4, e4, q4⟩ := HX4.out.2.2 (by rw [← Hnb.out]; omega)
              obtain ⟨rfl, rfl⟩ : a2 = some ⟨b4, o4, none⟩ ∧ cap2 = d4 := by injection e4 with p1 p2 p3; exact ⟨p1, p3⟩
              obtain ⟨u0, u1, u2, u3, u4, u5, u6, u7, u8⟩ := it_cells ((q4 a _ hba).mono HB.out)
              simp only [It.box] at u0 u1 u2 u3 u4 u5 u6 u7 u8
              have p0 : (0 : Int) ≤ (p : Int) := by omega
              have pl' : (p : Int) < (nq : Int) := by omega
              have a0 : (0 : Int) ≤ (a : Int) := by omega
              have al : (a : Int) < (nb : Int) := by omega
              clear q3 e3 hx hdc hba hda q4 e4
              go_wp2_with fail
              go_quiet (fail)
              go_wp2
              go_roundw
              case rel => exact ⟨a + 1, p + 1, by omega, by go_num, by go_num, Lib.hid (HB.out.trans ((below_drew _ _).mono HB.out.size)), HDn, Lib.hid (by omega)⟩
              case measure => simp [intOf]; omega
            · have HN : Hid (bx.drop a = It.boxes (It.wordsI sp hy (m + 1) (k + 1) (ws.drop (k + 1))) ++ rest) := Lib.hid (by
                have h := HD.out
                rw [It.drop_end (show pl.length ≤ p by rw [← Hnq.out]; omega), HR2.out] at h
                exact h)
              have HMn : Hid (a ≤ nb ∧ m + 1 = m0 + ((k + 1 : Nat) : Int) ∧ 0 ≤ m0 ∧ m0 + nw + nr ≤ 5000) := Lib.hid (by have := HAl.out; have := HM3.out; omega)
              clear HD HAl
              go_wp2
              go_roundw
              case rel => exact ⟨a, k + 1, m + 1, HKl.out, by go_num, by go_num, by go_num, HB, HN, HMn⟩
              case measure => have := HKl.out; simp [intOf]; omega
        · have HN : Hid (bx.drop a = It.boxes (It.versI sp hy m (ls.drop (i + 1)))) := Lib.hid (by
            have h := HD.out
            rw [It.drop_end (show ws.length ≤ k by rw [← Hnw.out]; omega), HR.out] at h
            have e : m0 + (ws.length : Int) = m := by have := HM.out; rw [← Hnw.out]; omega
            rw [← HM00.out, e] at h
            exact h)
          have HMn : Hid (a ≤ nb ∧ 0 ≤ m ∧ m + (It.cnt (ls.drop (i + 1)) : Int) ≤ 5000) := Lib.hid (by have := HM.out; rw [← HNR.out]; omega)
          clear HD HM
          go_wp2
          go_roundw
          case rel => exact ⟨a, i + 1, m, HIl.out, by go_num, by go_num, by go_num, HB, HN, HMn⟩
          case measure => have := HIl.out; simp [intOf]; omega
    · have HE : Hid (a = nb) := Lib.hid (by
        have h := HD.out
        rw [It.drop_end (show ls.length ≤ i by rw [← Hn.out]; omega)] at h
        have h2 : (bx.drop a).length = 0 := by rw [h]; rfl
        rw [List.length_drop, ← Hnb.out] at h2
        have := HM.out.1
        omega)
      have HTr := Lib.hid (SlcAt.mono HT4.out HB.out)
      have HBr := Lib.hid (below_step HB4.out HB.out)
      have hae := HE.out
      subst hae
      clear HE HD HM
      go_wp2_with fail
      go_loopw [12, 16] (fun fv jv wr' => ∃ (j : Nat), j ≤ nt ∧ fv = .int .i64 (It.frc (tgt.take j)) ∧ jv = .int .i64 j ∧ Hid (Below wr.heap.size wr wr')) (fun _ jv _ => nt - (intOf jv).toNat)
      case atStart => exact ⟨0, Nat.zero_le _, rfl, rfl, Lib.hid (Below.refl _ _)⟩
      case round =>
        obtain ⟨j, hj, rfl, rfl, HBj⟩ := hrel
        have HIj := Lib.hid (SlcAt.mono HTr.out HBj.out)
        have hfr := It.frc_len tgt j
        by_cases hltj : j < nt
        · obtain ⟨b1, o1, d1, e1, q1⟩ := HIj.out.2.2 (by rw [← Hnt.out]; omega)
          obtain ⟨rfl, rfl⟩ : a1 = some ⟨b1, o1, none⟩ ∧ cap1 = d1 := by injection e1 with p1 p2 p3; exact ⟨p1, p3⟩
          obtain ⟨x, hx⟩ : ∃ x, tgt[j]? = some x := ⟨_, List.getElem?_eq_getElem (by rw [← Hnt.out]; exact hltj)⟩
          obtain ⟨u0, u1, u2, u3, u4, u5, u6, u7, u8⟩ := it_cells (q1 j x hx)
          have j0 : (0 : Int) ≤ (j : Int) := by omega
          have jl : (j : Int) < (nt : Int) := by omega
          have HXx := Lib.hid hx
          obtain ⟨f, hf⟩ : ∃ f, f = It.frc (tgt.take j) := ⟨_, rfl⟩
          have HFj := Lib.hid hf
          rw [← hf] at hfr ⊢
          have hfl : f ≤ 2000 := by omega
          clear q1 e1 hx hf
          by_cases hk2 : x.k = 2
          · by_cases hp2 : x.p = -10000
            · have HN : Hid (It.frc (tgt.take (j + 1)) = f + 1) := Lib.hid (by rw [HFj.out]; exact It.frc_yes HXx.out (by unfold It.must; rw [hk2, hp2]; rfl))
              rw [hk2] at u0
              rw [hp2] at u5
              clear hk2 hp2
              go_wp2
              go_roundw
              case rel => exact ⟨j + 1, by omega, by rw [HN.out]; go_num, by go_num, HBj⟩
              case measure => simp [intOf]; omega
            · have HN : Hid (It.frc (tgt.take (j + 1)) = f) := Lib.hid (by rw [HFj.out]; exact It.frc_no HXx.out (by unfold It.must; rw [decide_eq_false hp2, Bool.and_false]))
              rw [hk2] at u0
              have kp : (x.p == (-10000 : Int)) = false := beq_eq_false_iff_ne.2 hp2
              clear hk2 hp2
              go_wp2
              go_roundw
              case rel => exact ⟨j + 1, by omega, by rw [HN.out], by go_num, HBj⟩
              case measure => simp [intOf]; omega
          · have HN : Hid (It.frc (tgt.take (j + 1)) = f) := Lib.hid (by rw [HFj.out]; exact It.frc_no HXx.out (by unfold It.must; rw [decide_eq_false hk2, Bool.false_and]))
            have kp : (x.k == (2 : Int)) = false := beq_eq_false_iff_ne.2 hk2
            clear hk2
            go_wp2
            go_roundw
            case rel => exact ⟨j + 1, by omega, by rw [HN.out], by go_num, HBj⟩
            case measure => simp [intOf]; omega
        · have HFe : It.frc (tgt.take j) = n9 := by
            rw [List.take_of_length_le (by rw [← Hnt.out]; omega)]
            exact HFr.out
          rw [HFe]
          have HYj := Lib.hid (HY.out _ _ HIj.out)
          have HBz := Lib.hid (below_step HBr.out HBj.out)
          clear hfr HFe
          go_wp2_with fail
          refine HYj.out.mono ?_
          rintro e w9 ⟨rfl, hb9⟩
          go_wp2
          go_ret
          exact ⟨rfl, below_step HBz.out hb9⟩
theorem lawBoxes9 (sp : It.Gl) (x4 x5 x6 x7 : Value) (hy : Int) (v : Value) (ls : List (List (List It.Pt))) (w : World) (h : LinesAt w v ls) :
    Calls Try.prog 5 #[metV9 sp x4 x5 x6 x7, .int .i64 hy, v] w (Ret (.bool true) w) := by
  cases hmay : It.may (It.versI sp hy 0 ls) with
  | false => exact lawBoxes9_no sp x4 x5 x6 x7 hy v ls w h hmay
  | true => exact lawBoxes9_yes sp x4 x5 x6 x7 hy v ls w h hmay
end Go.Proofs.Ytfgfplpbddapnaa
