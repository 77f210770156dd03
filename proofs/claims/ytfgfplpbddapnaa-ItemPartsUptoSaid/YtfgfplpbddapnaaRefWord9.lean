/-
  The reference's word, End and Verse.
-/
import Derived.Test.YtfgfplpbddapnaaVerse9
set_option linter.unusedVariables false
set_option linter.unusedSimpArgs false
namespace Go.Proofs.Ytfgfplpbddapnaa
open Go.RowKit

set_option maxHeartbeats 4000000 in
set_option maxRecDepth 100000 in
theorem end_any (w : World) : Calls Try.prog 20 #[] w fun e w' => ∃ u, e = .returned u ∧ ItsAt w' u It.endI ∧ Below w.heap.size w w' := by
  have HS := Lib.hid (slc_new itC_len w w.heap.size rfl It.endI 45 (by decide) endC rfl)
  have HB := Lib.hid (below_alloc w (.cells endC 45))
  unfold endC at *
  go_enter Try.func20, Try.ntmps20
  go_wp2
  go_ret
  exact ⟨_, rfl, HS.out, HB.out⟩

set_option maxHeartbeats 8000000 in
set_option maxRecDepth 100000 in
theorem refWord_any (hy n : Int) (v : Value) (l : List It.Pt) (w : World) (h : PtsAt w v l) (hlen : l.length ≤ 100000000) : Calls Try.prog 19 #[.int .i64 hy, v, .int .i64 n] w fun e w' => ∃ u, e = .returned u ∧ OwnX w.heap.size u (It.wordI hy n 0 l) w' ∧ Below w.heap.size w w' := by
  have HA := Lib.hid h
  obtain ⟨⟨a, cp, rfl, hcap⟩, hm, _⟩ := h
  obtain ⟨n9, hn⟩ : ∃ n, n = l.length := ⟨_, rfl⟩
  have Hn := Lib.hid hn
  rw [← hn] at hlen ⊢
  have HLn := Lib.hid hlen
  obtain ⟨tgt, htg⟩ : ∃ t, t = It.wordI hy n 0 l := ⟨_, rfl⟩
  have HT : Hid ([] ++ It.wordI hy n 0 (l.drop 0) = tgt) := Lib.hid htg.symm
  rw [← htg]
  clear hn hm hcap htg
  have HO0 : Hid (OwnX w.heap.size (.slice (some ⟨w.heap.size, 0, none⟩) 0 0) [] (w.alloc (.cells #[] 45))) := Lib.hid (own_empty _ _ _ w)
  have HB0 := Lib.hid (below_alloc w (.cells #[] 45))
  have HBASE : Hid (w.heap.size ≤ w.heap.size) := Lib.hid (Nat.le_refl _)
  go_enter Try.func19, Try.ntmps19
  go_wp2_with fail
  go_loopw [7, 8] (fun ov iv wr => ∃ (k : Nat) (b : List It.Itm), k ≤ n9 ∧ iv = .int .i64 k ∧ b.length ≤ 2 * k ∧ Hid (OwnX w.heap.size ov b wr) ∧ Hid (Below w.heap.size w wr) ∧ Hid (b ++ It.wordI hy n k (l.drop k) = tgt)) (fun _ iv _ => n9 - (intOf iv).toNat)
  case atStart => exact ⟨0, [], Nat.zero_le _, rfl, by simp, HO0, HB0, HT⟩
  case round =>
    obtain ⟨k, b, hk, rfl, hbk, HO, HB, HK⟩ := hrel
    clear HO0 HB0 HT
    by_cases hlt : k < n9
    · obtain ⟨b1, o1, d1, e1, r1⟩ := HA.out.2.2 (by rw [← Hn.out]; omega)
      obtain ⟨rfl, rfl⟩ : a = some ⟨b1, o1, none⟩ ∧ cp = d1 := by injection e1 with a1 a2 a3; exact ⟨a1, a3⟩
      obtain ⟨p, hx⟩ : ∃ x, l[k]? = some x := ⟨_, List.getElem?_eq_getElem (by rw [← Hn.out]; exact hlt)⟩
      obtain ⟨y0, y1, y2, y3⟩ := pt_cells ((r1 k p hx).mono HB.out)
      have k0 : (0 : Int) ≤ (k : Int) := by omega
      have kl : (k : Int) < (n9 : Int) := by omega
      have HW := Lib.hid (It.word_at (hy := hy) (n := n) hx)
      have HLb : Hid (b.length ≤ 2 * k ∧ k < n9) := Lib.hid ⟨hbk, hlt⟩
      have HPT := Lib.hid (r1 k p hx)
      clear r1 e1 hx hbk
      by_cases hk0 : k = 0
      · subst hk0
        have HN : Hid ((b ++ [It.box p.w n 0]) ++ It.wordI hy n (0 + 1) (l.drop (0 + 1)) = tgt) := Lib.hid (by rw [← HK.out, HW.out]; simp)
        clear HK HW
        have HOxa := Lib.hid (HO.out.mono (below_alloc wr (.cells #[.int .i64 0, .int .i64 p.w, .int .i64 0, .int .i64 0, .int .i64 0, .int .i64 0, .bool false, .int .i64 n, .int .i64 0] 45)))
        have HSxa := Lib.hid (slc_new itC_len wr wr.heap.size rfl [It.box p.w n 0] 45 (by simp) #[.int .i64 0, .int .i64 p.w, .int .i64 0, .int .i64 0, .int .i64 0, .int .i64 0, .bool false, .int .i64 n, .int .i64 0] rfl)
        have HBxa := Lib.hid (below_grow HB.out (.cells #[.int .i64 0, .int .i64 p.w, .int .i64 0, .int .i64 0, .int .i64 0, .int .i64 0, .bool false, .int .i64 n, .int .i64 0] 45) (Nat.le_trans HBASE.out HB.out.size))
        have hzxa := HBxa.out.size
        have HLxa : Hid ((b).length ≤ 200000000) := Lib.hid (by have := HLb.out; have := HLn.out; omega)
        go_wp2_with (at_builtin; refine wpList_append_slc Try.underlying30 infoIt rfl (by decide) itC_len itC_cell rfl _ _ rfl w.heap.size _ _ (b) [It.box p.w n 0] rfl HOxa.out rfl HSxa.out (by have := HLxa.out; simp at this ⊢; omega) (by have := HLxa.out; unfold maxLen; simp at this ⊢; omega) (Nat.le_trans HBASE.out hzxa) ?_; intro va wa ha hga; have HOan := Lib.hid ha; have HBan := Lib.hid (below_app (HBxa.out) hga HOxa.out (Nat.le_trans HBASE.out hzxa)); clear ha hga)
        go_roundw
        case rel => exact ⟨0 + 1, _, by omega, by go_num, by have := HLb.out; simp; omega, HOan, HBan, HN⟩
        case measure => simp [intOf]; omega
      · have kp : (0 : Int) < (k : Int) := by omega
        have HN : Hid (((b ++ [It.pen hy]) ++ [It.box p.w n (k : Int)]) ++ It.wordI hy n (k + 1) (l.drop (k + 1)) = tgt) := Lib.hid (by rw [← HK.out, HW.out, if_pos (by omega)]; simp)
        clear HK HW hk0
        go_upto_region 6 with fail
        have HOxa := Lib.hid (HO.out.mono (below_alloc wr (.cells #[.int .i64 2, .int .i64 hy, .int .i64 0, .int .i64 0, .int .i64 0, .int .i64 50, .bool true, .int .i64 0, .int .i64 0] 45)))
        have HSxa := Lib.hid (slc_new itC_len wr wr.heap.size rfl [It.pen hy] 45 (by simp) #[.int .i64 2, .int .i64 hy, .int .i64 0, .int .i64 0, .int .i64 0, .int .i64 50, .bool true, .int .i64 0, .int .i64 0] rfl)
        have HBxa := Lib.hid (below_grow HB.out (.cells #[.int .i64 2, .int .i64 hy, .int .i64 0, .int .i64 0, .int .i64 0, .int .i64 50, .bool true, .int .i64 0, .int .i64 0] 45) (Nat.le_trans HBASE.out HB.out.size))
        have hzxa := HBxa.out.size
        have HLxa : Hid ((b).length ≤ 200000000) := Lib.hid (by have := HLb.out; have := HLn.out; omega)
        go_upto_region 7 with (at_builtin; refine wpList_append_slc Try.underlying30 infoIt rfl (by decide) itC_len itC_cell rfl _ _ rfl w.heap.size _ _ (b) [It.pen hy] rfl HOxa.out rfl HSxa.out (by have := HLxa.out; simp at this ⊢; omega) (by have := HLxa.out; unfold maxLen; simp at this ⊢; omega) (Nat.le_trans HBASE.out hzxa) ?_; intro va wa ha hga; have HOan := Lib.hid ha; have HBan := Lib.hid (below_app (HBxa.out) hga HOxa.out (Nat.le_trans HBASE.out hzxa)); clear ha hga)
        obtain ⟨z0, z1, z2, z3⟩ := pt_cells (HPT.out.mono HBan.out)
        clear y0 y1 y2 y3
        have HOxb := Lib.hid (HOan.out.mono (below_alloc wa (.cells #[.int .i64 0, .int .i64 p.w, .int .i64 0, .int .i64 0, .int .i64 0, .int .i64 0, .bool false, .int .i64 n, .int .i64 (k : Int)] 45)))
        have HSxb := Lib.hid (slc_new itC_len wa wa.heap.size rfl [It.box p.w n (k : Int)] 45 (by simp) #[.int .i64 0, .int .i64 p.w, .int .i64 0, .int .i64 0, .int .i64 0, .int .i64 0, .bool false, .int .i64 n, .int .i64 (k : Int)] rfl)
        have HBxb := Lib.hid (below_grow HBan.out (.cells #[.int .i64 0, .int .i64 p.w, .int .i64 0, .int .i64 0, .int .i64 0, .int .i64 0, .bool false, .int .i64 n, .int .i64 (k : Int)] 45) (Nat.le_trans HBASE.out HBan.out.size))
        have hzxb := HBxb.out.size
        have HLxb : Hid ((b ++ [It.pen hy]).length ≤ 200000000) := Lib.hid (by have := HLb.out; have := HLn.out; simp; omega)
        go_wp2_with (at_builtin; refine wpList_append_slc Try.underlying30 infoIt rfl (by decide) itC_len itC_cell rfl _ _ rfl w.heap.size _ _ (b ++ [It.pen hy]) [It.box p.w n (k : Int)] rfl HOxb.out rfl HSxb.out (by have := HLxb.out; simp at this ⊢; omega) (by have := HLxb.out; unfold maxLen; simp at this ⊢; omega) (Nat.le_trans HBASE.out hzxb) ?_; intro vb wb hb hgb; have HObn := Lib.hid hb; have HBbn := Lib.hid (below_app (HBxb.out) hgb HOxb.out (Nat.le_trans HBASE.out hzxb)); clear hb hgb)
        go_roundw
        case rel => exact ⟨k + 1, _, by omega, by go_num, by have := HLb.out; simp; omega, HObn, HBbn, HN⟩
        case measure => simp [intOf]; omega
    · have HE : Hid (b = tgt) := Lib.hid (by
        have h := HK.out
        rw [It.drop_end (by rw [← Hn.out]; omega)] at h
        simpa [It.wordI] using h)
      go_wp2
      go_ret
      exact ⟨_, rfl, by rw [← HE.out]; exact HO.out, HB.out⟩
end Go.Proofs.Ytfgfplpbddapnaa
