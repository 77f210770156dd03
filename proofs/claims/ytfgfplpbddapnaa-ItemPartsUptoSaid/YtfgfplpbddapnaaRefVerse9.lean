/-
  The reference's Verse.
-/
import Derived.Test.YtfgfplpbddapnaaRefWord9
set_option linter.unusedVariables false
set_option linter.unusedSimpArgs false
namespace Go.Proofs.Ytfgfplpbddapnaa
open Go.RowKit

theorem words_at9 {sp : It.Gl} {hy m : Int} {ws : List (List It.Pt)} {i : Nat} {pl : List It.Pt} {b r t : List It.Itm} (hx : ws[i]? = some pl) (h : b ++ (It.wordsI sp hy m i (ws.drop i) ++ r) = t) : b ++ ((if 0 < i then [It.spc sp] else []) ++ (It.wordI hy m 0 pl ++ (It.wordsI sp hy (m + 1) (i + 1) (ws.drop (i + 1)) ++ r))) = t := by
  rw [It.words_at hx] at h
  simpa only [List.append_assoc] using h

set_option maxHeartbeats 16000000 in
set_option maxRecDepth 100000 in
theorem refVerse_any (sp : It.Gl) (x4 x5 x6 x7 : Value) (hy : Int) (v : Value) (ls : List (List (List It.Pt))) (w : World) (h : LinesAt w v ls) (hlen : (It.versI sp hy 0 ls).length ≤ 100000000) : Calls Try.prog 8 #[metV9 sp x4 x5 x6 x7, .int .i64 hy, v] w (VersePost sp hy ls w) := by
  have HA := Lib.hid h
  obtain ⟨⟨va, cp, rfl, hcap⟩, hm, _⟩ := h
  have hza : ls.length ≤ 9223372036854775807 := by unfold maxLen at hm; omega
  obtain ⟨tgt, htg⟩ : ∃ t, t = It.versI sp hy 0 ls := ⟨_, rfl⟩
  have HT : Hid ([] ++ It.versI sp hy 0 (ls.drop 0) = tgt) := Lib.hid htg.symm
  unfold VersePost metV9
  rw [← htg] at hlen ⊢
  have HL := Lib.hid hlen
  obtain ⟨n9, hn9⟩ : ∃ n, n = ls.length := ⟨_, rfl⟩
  have Hn := Lib.hid hn9
  rw [← hn9] at hza ⊢
  obtain ⟨W2, hW2⟩ : ∃ W, W = (w.alloc (.cells #[.int .i64 sp.w, .int .i64 sp.st, .int .i64 sp.sk, .int .i64 sp.o, x4, x5, x6, x7] 28)).alloc (.cells #[.int .i64 0, .int .i64 0] 33) := ⟨_, rfl⟩
  obtain ⟨BS, hBS⟩ : ∃ BS, BS = w.heap.size + 1 + 1 := ⟨_, rfl⟩
  have HBS := Lib.hid hBS
  have hs2 : W2.heap.size = BS := by rw [hW2, hBS, World.size_alloc, World.size_alloc]
  have HBASE : Hid (BS ≤ W2.heap.size) := Lib.hid (Nat.le_of_eq hs2.symm)
  have b1 := below_alloc w (.cells #[.int .i64 sp.w, .int .i64 sp.st, .int .i64 sp.sk, .int .i64 sp.o, x4, x5, x6, x7] 28)
  have b2 := below_alloc (w.alloc (.cells #[.int .i64 sp.w, .int .i64 sp.st, .int .i64 sp.sk, .int .i64 sp.o, x4, x5, x6, x7] 28)) (.cells #[.int .i64 0, .int .i64 0] 33)
  have HB3 : Hid (Below w.heap.size w W2) := Lib.hid (by rw [hW2]; exact below_step b1 b2)
  have HF0 : Hid (W2.heap[w.heap.size + 1]? = some (.cells #[.int .i64 0, .int .i64 0] 33 (0, 0))) := Lib.hid (by rw [hW2]; exact obj_new _ _ (World.size_alloc _ _) _ _)
  have HM0 : Hid (W2.heap[w.heap.size]? = some (.cells #[.int .i64 sp.w, .int .i64 sp.st, .int .i64 sp.sk, .int .i64 sp.o, x4, x5, x6, x7] 28 (0, 0))) := Lib.hid (by rw [hW2]; exact obj_kept b2 (obj_new _ _ rfl _ _))
  have HS0 : Hid (w.heap.size ≤ BS) := Lib.hid (by omega)
  have HO0 : Hid (OwnX BS (.slice (some ⟨BS, 0, none⟩) 0 0) [] (W2.alloc (.cells #[] 45))) := Lib.hid (by have h := own_empty 45 itC 9 W2; rw [hs2] at h; exact h)
  have HB0 : Hid (Below BS W2 (W2.alloc (.cells #[] 45))) := Lib.hid ((below_alloc _ _).mono (Nat.le_of_eq hs2.symm))
  clear hn9 hm hcap htg b1 b2 hlen
  go_enter Try.func8, Try.ntmps8
  go_wp2_with fail
  rw [← hW2, show w.heap.size + 1 + 1 = BS from hBS.symm]
  clear hW2 hBS hs2
  go_loopw [8, 9, 10] (fun ov nv kv wr => ∃ (k : Nat) (b : List It.Itm) (m : Int), k ≤ n9 ∧ kv = .int .i64 k ∧ nv = .int .i64 m ∧ Hid (OwnX BS ov b wr) ∧ Hid (Below BS W2 wr) ∧ Hid (b ++ It.versI sp hy m (ls.drop k) = tgt) ∧ Hid (0 ≤ m ∧ m ≤ (b.length : Int))) (fun _ _ kv _ => n9 - (intOf kv).toNat)
  case atStart => exact ⟨0, [], 0, Nat.zero_le _, rfl, rfl, HO0, HB0, HT, Lib.hid ⟨by omega, by simp⟩⟩
  case round =>
    obtain ⟨k, b, m, hk, rfl, rfl, HO, HB, HI, HMb⟩ := hrel
    clear HO0 HB0 HT
    by_cases hlt : k < n9
    · obtain ⟨b1, o1, d1, e1, r1⟩ := HA.out.2.2 (by rw [← Hn.out]; omega)
      obtain ⟨rfl, rfl⟩ : va = some ⟨b1, o1, none⟩ ∧ cp = d1 := by injection e1 with a1 a2 a3; exact ⟨a1, a3⟩
      obtain ⟨ws, hx⟩ : ∃ x, ls[k]? = some x := ⟨_, List.getElem?_eq_getElem (by rw [← Hn.out]; exact hlt)⟩
      obtain ⟨vl, hvl, hwt⟩ := r1 k ws hx
      have HWt := Lib.hid hwt
      obtain ⟨⟨pa, ca, rfl, hcap⟩, hmw, _⟩ := hwt
      have hzw : ws.length ≤ 9223372036854775807 := by unfold maxLen at hmw; omega
      have k0 : (0 : Int) ≤ (k : Int) := by omega
      have kl : (k : Int) < (n9 : Int) := by omega
      obtain ⟨m0, hm0⟩ : ∃ q, q = m := ⟨_, rfl⟩
      have HM00 := Lib.hid hm0
      obtain ⟨rest, hrest⟩ : ∃ r, r = It.endI ++ It.versI sp hy (m0 + ws.length) (ls.drop (k + 1)) := ⟨_, rfl⟩
      have HR := Lib.hid hrest
      have HI2 : Hid (b ++ (It.wordsI sp hy m 0 (ws.drop 0) ++ rest) = tgt) := Lib.hid (by rw [hrest, hm0]; have h := HI.out; rw [It.vers_at hx] at h; exact h)
      obtain ⟨nw, hnw⟩ : ∃ n, n = ws.length := ⟨_, rfl⟩
      have Hnw := Lib.hid hnw
      rw [← hnw] at hvl hzw HWt
      have HVL := Lib.hid hvl
      have HKl := Lib.hid (show k + 1 ≤ n9 from hlt)
      clear r1 e1 hx hvl hcap hmw hrest hnw hm0 HI
      go_wp2_with fail
      go_loopw [8, 9, 11] (fun ov2 nv2 iv wr2 => ∃ (i : Nat) (b : List It.Itm) (m : Int), i ≤ nw ∧ iv = .int .i64 i ∧ nv2 = .int .i64 m ∧ Hid (OwnX BS ov2 b wr2) ∧ Hid (Below BS W2 wr2) ∧ Hid (b ++ (It.wordsI sp hy m i (ws.drop i) ++ rest) = tgt) ∧ Hid (m = m0 + i ∧ 0 ≤ m ∧ m ≤ (b.length : Int) + 1 ∧ (i = 0 → m ≤ (b.length : Int)))) (fun _ _ iv _ => nw - (intOf iv).toNat)
      case atStart => exact ⟨0, b, m, Nat.zero_le _, rfl, rfl, HO, HB, HI2, Lib.hid ⟨by have := HM00.out; omega, HMb.out.1, by have := HMb.out.2; omega, fun _ => HMb.out.2⟩⟩
      case round =>
        clear HI2 HMb HM00 HO HB
        obtain ⟨i, b, m, hi, rfl, rfl, HO, HB, HI, HMb⟩ := hrel
        have HBl : Hid (b.length ≤ 100000000) := Lib.hid (by have h := congrArg List.length HI.out; rw [List.length_append] at h; have := HL.out; omega)
        have HWm : Hid (IntKind.i64.wrap (m + 1) = m + 1) := Lib.hid (by have h1 := HMb.out.2.1; have h2 := HMb.out.2.2.1; have := HBl.out; exact wr64 (by omega) (by omega))
        by_cases hlti : i < nw
        · obtain ⟨b2, o2, d2, e2, r2⟩ := HWt.out.2.2 (by rw [← Hnw.out]; omega)
          obtain ⟨rfl, rfl⟩ : pa = some ⟨b2, o2, none⟩ ∧ ca = d2 := by injection e2 with a1 a2 a3; exact ⟨a1, by rw [← Hnw.out] at *; exact a3⟩
          obtain ⟨pl, hx⟩ : ∃ x, ws[i]? = some x := ⟨_, List.getElem?_eq_getElem (by rw [← Hnw.out]; exact hlti)⟩
          obtain ⟨vq, hvq, hpq⟩ := r2 i pl hx
          have HVQ := Lib.hid hvq
          have HPQ := Lib.hid hpq
          have HW9 := Lib.hid (words_at9 hx HI.out)
          have HPL0 : Hid ((It.wordI hy m 0 pl).length ≤ 100000000) := Lib.hid (by have h := congrArg List.length HW9.out; simp only [List.length_append] at h; have := HL.out; omega)
          have HPL : Hid (pl.length ≤ 100000000) := Lib.hid (by have := (It.wordI_len hy m pl 0).1; have := HPL0.out; omega)
          have i0 : (0 : Int) ≤ (i : Int) := by omega
          have il : (i : Int) < (nw : Int) := by omega
          have HIl := Lib.hid (show i + 1 ≤ nw from hlti)
          have y0 : wr.cell? ⟨b1, o1 + k, none⟩ = some (.slice (some ⟨b2, o2, none⟩) nw ca) := cell_below (HB3.out.trans (HB.out.mono HS0.out)) HVL.out
          clear r2 e2 hx hvq hpq
          by_cases hi0 : i = 0
          · subst hi0
            have HN : Hid ((b ++ It.wordI hy m 0 pl) ++ (It.wordsI sp hy (m + 1) (0 + 1) (ws.drop (0 + 1)) ++ rest) = tgt) := Lib.hid (by have h := HW9.out; simpa using h)
            have HMn : Hid (m + 1 = m0 + ((0 + 1 : Nat) : Int) ∧ 0 ≤ m + 1 ∧ m + 1 ≤ ((b ++ It.wordI hy m 0 pl).length : Int) + 1 ∧ (0 + 1 = 0 → m + 1 ≤ ((b ++ It.wordI hy m 0 pl).length : Int))) := Lib.hid (by
              have h1 := HMb.out
              have h2 := h1.2.2.2 rfl
              simp only [List.length_append]
              refine ⟨by omega, by omega, by omega, fun h => by omega⟩)
            clear HW9 HI HMb
            have y2 : wr.cell? ⟨b1, o1 + k, none⟩ = some (.slice (some ⟨b2, o2, none⟩) nw ca) := cell_below (HB3.out.trans (HB.out.mono HS0.out)) HVL.out
            have y3 : wr.cell? ⟨b2, o2, none⟩ = some vq := cell_below (HB3.out.trans (HB.out.mono HS0.out)) (by simpa using HVQ.out)
            have HCW := Lib.hid (refWord_any hy m vq pl wr (SlcAt.mono HPQ.out (HB3.out.trans (HB.out.mono HS0.out))) HPL.out)
            go_wp2_with fail
            refine HCW.out.mono ?_
            rintro e w6 ⟨u6, rfl, ho6, hb6⟩
            have HO6 := Lib.hid (OwnR.mono HO.out hb6)
            have HB6 := Lib.hid (HB.out.trans (hb6.mono (Nat.le_trans HBASE.out HB.out.size)))
            have HS6 := Lib.hid (ho6.at itC_len)
            clear ho6 hb6 y2 y3
            have hwm := HWm.out
            have hzxc := HB6.out.size
            have HLxc : Hid ((b).length + (It.wordI hy m 0 pl).length ≤ 300000000) := Lib.hid (by have := HBl.out; have := HPL0.out; (try simp); omega)
            go_wp2_with (at_builtin; refine wpList_append_slc Try.underlying30 infoIt rfl (by decide) itC_len itC_cell rfl _ _ rfl BS _ u6 (b) (It.wordI hy m 0 pl) rfl HO6.out rfl HS6.out (by have := HLxc.out; omega) (by have := HLxc.out; unfold maxLen; omega) (Nat.le_trans HBASE.out hzxc) ?_; intro vc wc hc hgc; have HOcn := Lib.hid hc; have HBcn := Lib.hid (below_app (HB6.out) hgc HO6.out (Nat.le_trans HBASE.out hzxc)); clear hc hgc)
            go_roundw
            case rel => exact ⟨0 + 1, _, m + 1, HIl.out, by go_num, by go_num, HOcn, HBcn, HN, HMn⟩
            case measure => have := HIl.out; simp [intOf]; omega
          · have ip : (0 : Int) < (i : Int) := by omega
            have HN : Hid (((b ++ [It.spc sp]) ++ It.wordI hy m 0 pl) ++ (It.wordsI sp hy (m + 1) (i + 1) (ws.drop (i + 1)) ++ rest) = tgt) := Lib.hid (by have h := HW9.out; rw [if_pos (by omega)] at h; simpa using h)
            have HMn : Hid (m + 1 = m0 + ((i + 1 : Nat) : Int) ∧ 0 ≤ m + 1 ∧ m + 1 ≤ (((b ++ [It.spc sp]) ++ It.wordI hy m 0 pl).length : Int) + 1 ∧ (i + 1 = 0 → m + 1 ≤ (((b ++ [It.spc sp]) ++ It.wordI hy m 0 pl).length : Int))) := Lib.hid (by
              have h1 := HMb.out
              simp only [List.length_append, List.length_cons, List.length_nil]
              refine ⟨by omega, by omega, by omega, fun h => by omega⟩)
            have hM := (HB.out.block _ (by rw [HBS.out]; omega)).trans HM0.out
            have x0 := Lib.cell_of_heap hM 0
            have x1 := Lib.cell_of_heap hM 1
            have x2 := Lib.cell_of_heap hM 2
            have x3 := Lib.cell_of_heap hM 3
            clear HW9 HI HMb hi0 hM
            go_upto_region 10 with fail
            clear y0
            have HOxa := Lib.hid (HO.out.mono (below_alloc wr (.cells #[.int .i64 1, .int .i64 sp.w, .int .i64 sp.st, .int .i64 sp.sk, .int .i64 sp.o, .int .i64 0, .bool false, .int .i64 0, .int .i64 0] 45)))
            have HSxa := Lib.hid (slc_new itC_len wr wr.heap.size rfl [It.spc sp] 45 (by simp) #[.int .i64 1, .int .i64 sp.w, .int .i64 sp.st, .int .i64 sp.sk, .int .i64 sp.o, .int .i64 0, .bool false, .int .i64 0, .int .i64 0] rfl)
            have HBxa := Lib.hid (below_grow HB.out (.cells #[.int .i64 1, .int .i64 sp.w, .int .i64 sp.st, .int .i64 sp.sk, .int .i64 sp.o, .int .i64 0, .bool false, .int .i64 0, .int .i64 0] 45) (Nat.le_trans HBASE.out HB.out.size))
            have hzxa := HBxa.out.size
            have HLxa : Hid ((b).length ≤ 200000000) := Lib.hid (by have := HBl.out; omega)
            go_upto_region 11 with (at_builtin; refine wpList_append_slc Try.underlying30 infoIt rfl (by decide) itC_len itC_cell rfl _ _ rfl BS _ _ (b) [It.spc sp] rfl HOxa.out rfl HSxa.out (by have := HLxa.out; simp at this ⊢; omega) (by have := HLxa.out; unfold maxLen; simp at this ⊢; omega) (Nat.le_trans HBASE.out hzxa) ?_; intro va wa ha hga; have HOan := Lib.hid ha; have HBan := Lib.hid (below_app (HBxa.out) hga HOxa.out (Nat.le_trans HBASE.out hzxa)); clear ha hga)
            clear x0 x1 x2 x3
            have y2 : wa.cell? ⟨b1, o1 + k, none⟩ = some (.slice (some ⟨b2, o2, none⟩) nw ca) := cell_below (HB3.out.trans (HBan.out.mono HS0.out)) HVL.out
            have y3 : wa.cell? ⟨b2, o2 + i, none⟩ = some vq := cell_below (HB3.out.trans (HBan.out.mono HS0.out)) HVQ.out
            have HCW := Lib.hid (refWord_any hy m vq pl wa (SlcAt.mono HPQ.out (HB3.out.trans (HBan.out.mono HS0.out))) HPL.out)
            go_wp2_with fail
            refine HCW.out.mono ?_
            rintro e w6 ⟨u6, rfl, ho6, hb6⟩
            have HO6 := Lib.hid (OwnR.mono HOan.out hb6)
            have HB6 := Lib.hid (HBan.out.trans (hb6.mono (Nat.le_trans HBASE.out HBan.out.size)))
            have HS6 := Lib.hid (ho6.at itC_len)
            clear ho6 hb6 y2 y3
            have hwm := HWm.out
            have hzxc := HB6.out.size
            have HLxc : Hid ((b ++ [It.spc sp]).length + (It.wordI hy m 0 pl).length ≤ 300000000) := Lib.hid (by have := HBl.out; have := HPL0.out; (try simp); omega)
            go_wp2_with (at_builtin; refine wpList_append_slc Try.underlying30 infoIt rfl (by decide) itC_len itC_cell rfl _ _ rfl BS _ u6 (b ++ [It.spc sp]) (It.wordI hy m 0 pl) rfl HO6.out rfl HS6.out (by have := HLxc.out; omega) (by have := HLxc.out; unfold maxLen; omega) (Nat.le_trans HBASE.out hzxc) ?_; intro vc wc hc hgc; have HOcn := Lib.hid hc; have HBcn := Lib.hid (below_app (HB6.out) hgc HO6.out (Nat.le_trans HBASE.out hzxc)); clear hc hgc)
            go_roundw
            case rel => exact ⟨i + 1, _, m + 1, HIl.out, by go_num, by go_num, HOcn, HBcn, HN, HMn⟩
            case measure => have := HIl.out; simp [intOf]; omega
        · have HE : Hid (b ++ (It.endI ++ It.versI sp hy m (ls.drop (k + 1))) = tgt) := Lib.hid (by
            have h := HI.out
            rw [It.drop_end (show ws.length ≤ i by rw [← Hnw.out]; omega), HR.out] at h
            have e : m0 + (ws.length : Int) = m := by have := HMb.out.1; rw [← Hnw.out]; omega
            rw [e] at h
            exact h)
          have HMn : Hid (0 ≤ m ∧ m ≤ ((b ++ It.endI).length : Int)) := Lib.hid (by
            have h1 := HMb.out
            simp only [List.length_append, It.endI, List.length_cons, List.length_nil]
            omega)
          have HEn := Lib.hid (end_any wr)
          have y0 : wr.cell? ⟨b1, o1 + k, none⟩ = some (.slice pa nw ca) := cell_below (HB3.out.trans (HB.out.mono HS0.out)) HVL.out
          clear HI HMb
          go_wp2_with fail
          refine HEn.out.mono ?_
          rintro e w6 ⟨u6, rfl, ho6, hb6⟩
          have HO6 := Lib.hid (OwnR.mono HO.out hb6)
          have HB6 := Lib.hid (HB.out.trans (hb6.mono (Nat.le_trans HBASE.out HB.out.size)))
          have HS6 := Lib.hid ho6
          clear ho6 hb6 y0
          have hzxe := HB6.out.size
          have HLxe : Hid ((b).length + (It.endI).length ≤ 300000000) := Lib.hid (by have := HBl.out; simp [It.endI]; omega)
          go_wp2_with (at_builtin; refine wpList_append_slc Try.underlying30 infoIt rfl (by decide) itC_len itC_cell rfl _ _ rfl BS _ u6 (b) (It.endI) rfl HO6.out rfl HS6.out (by have := HLxe.out; omega) (by have := HLxe.out; unfold maxLen; omega) (Nat.le_trans HBASE.out hzxe) ?_; intro ve we he hge; have HOen := Lib.hid he; have HBen := Lib.hid (below_app (HB6.out) hge HO6.out (Nat.le_trans HBASE.out hzxe)); clear he hge)
          go_roundw
          case rel => exact ⟨k + 1, _, m, HKl.out, by go_num, rfl, HOen, HBen, Lib.hid (by rw [List.append_assoc]; exact HE.out), HMn⟩
          case measure => have := HKl.out; simp [intOf]; omega
    · have HE : Hid (b = tgt) := Lib.hid (by
        have h := HI.out
        rw [It.drop_end (by rw [← Hn.out]; omega)] at h
        simpa [It.versI] using h)
      have HM := Lib.hid (refItMay_any _ b wr (HO.out.at itC_len))
      have hF := (HB.out.block _ (by rw [HBS.out]; omega)).trans HF0.out
      have HF := Lib.hid hF
      have HBt := Lib.hid (HB3.out.trans (HB.out.mono (by rw [HBS.out]; omega)))
      obtain ⟨⟨pt, ct, rfl, _⟩, _, _⟩ := HO.out.at itC_len
      clear hF
      cases hq : It.may b with
      | false =>
        rw [hq] at HM
        have HQ := Lib.hid hq
        clear hq
        go_wp2_with fail
        refine HM.out.mono ?_
        rintro e w5 ⟨rfl, hb5⟩
        have HF5 := Lib.hid (obj_kept hb5 HF.out)
        have HB5 := Lib.hid (below_step HBt.out hb5)
        have HO5 := Lib.hid (HO.out.mono hb5)
        clear hb5
        have d0 := Lib.cell_of_heap HF5.out 0
        have d1 := Lib.cell_of_heap HF5.out 1
        have g0 := Lib.frozen_of_heap HF5.out 0
        have g1 := Lib.frozen_of_heap HF5.out 1
        go_wp2
        have HFx := Lib.hid (heap_setCell_same _ _ 1 _ _ (.int .i64 0) (heap_setCell_same _ _ 0 _ _ (.int .i64 90) HF5.out))
        have HBx := Lib.hid ((HB5.out.setCell (p := ⟨w.heap.size + 1, 0, none⟩) (Nat.le_succ _) (.int .i64 90)).setCell (p := ⟨w.heap.size + 1, 1, none⟩) (Nat.le_succ _) (.int .i64 0))
        have HOx : Hid (OwnX w.heap.size (.slice pt b.length ct) b ((w5.setCell ⟨w.heap.size + 1, 0, none⟩ (.int .i64 90)).setCell ⟨w.heap.size + 1, 1, none⟩ (.int .i64 0))) := Lib.hid (by
          refine own_base ((HO5.out.set9 ?_).set9 ?_) ?_
          · rw [HBS.out]; omega
          · rw [HBS.out]; omega
          · rw [HBS.out]; omega)
        obtain ⟨WX, hWX⟩ : ∃ W, W = (w5.setCell ⟨w.heap.size + 1, 0, none⟩ (.int .i64 90)).setCell ⟨w.heap.size + 1, 1, none⟩ (.int .i64 0) := ⟨_, rfl⟩
        rw [← hWX] at HFx HBx HOx ⊢
        clear hWX d0 d1 g0 g1
        have s0 := Lib.cell_of_heap HFx.out 0
        have s1 := Lib.cell_of_heap HFx.out 1
        exact bodyPost_ret (v := .tuple #[.slice none 0 0, .agg #[.int .i64 90, .int .i64 0]]) (by simp [results, Try.results8, go_sem, s0, s1]) rfl ⟨.inr ⟨by rw [← HE.out]; exact HQ.out, rfl⟩, HBx.out⟩
      | true =>
        rw [hq] at HM
        have HQ := Lib.hid hq
        clear hq
        go_wp2_with fail
        refine HM.out.mono ?_
        rintro e w5 ⟨rfl, hb5⟩
        have HF5 := Lib.hid (obj_kept hb5 HF.out)
        have HB5 := Lib.hid (below_step HBt.out hb5)
        have HO5 := Lib.hid (HO.out.mono hb5)
        clear hb5
        have d0 := Lib.cell_of_heap HF5.out 0
        have d1 := Lib.cell_of_heap HF5.out 1
        have g0 := Lib.frozen_of_heap HF5.out 0
        have g1 := Lib.frozen_of_heap HF5.out 1
        go_wp2
        have HFx := Lib.hid (heap_setCell_same _ _ 1 _ _ (.int .i64 0) (heap_setCell_same _ _ 0 _ _ (.int .i64 0) HF5.out))
        have HBx := Lib.hid ((HB5.out.setCell (p := ⟨w.heap.size + 1, 0, none⟩) (Nat.le_succ _) (.int .i64 0)).setCell (p := ⟨w.heap.size + 1, 1, none⟩) (Nat.le_succ _) (.int .i64 0))
        have HOx : Hid (OwnX w.heap.size (.slice pt b.length ct) b ((w5.setCell ⟨w.heap.size + 1, 0, none⟩ (.int .i64 0)).setCell ⟨w.heap.size + 1, 1, none⟩ (.int .i64 0))) := Lib.hid (by
          refine own_base ((HO5.out.set9 ?_).set9 ?_) ?_
          · rw [HBS.out]; omega
          · rw [HBS.out]; omega
          · rw [HBS.out]; omega)
        obtain ⟨WX, hWX⟩ : ∃ W, W = (w5.setCell ⟨w.heap.size + 1, 0, none⟩ (.int .i64 0)).setCell ⟨w.heap.size + 1, 1, none⟩ (.int .i64 0) := ⟨_, rfl⟩
        rw [← hWX] at HFx HBx HOx ⊢
        clear hWX d0 d1 g0 g1
        have s0 := Lib.cell_of_heap HFx.out 0
        have s1 := Lib.cell_of_heap HFx.out 1
        exact bodyPost_ret (v := .tuple #[.slice pt b.length ct, .agg #[.int .i64 0, .int .i64 0]]) (by simp [results, Try.results8, go_sem, s0, s1]) rfl ⟨.inl ⟨by rw [← HE.out]; exact HQ.out, _, rfl, by rw [← HE.out]; exact HOx.out⟩, HBx.out⟩

end Go.Proofs.Ytfgfplpbddapnaa
