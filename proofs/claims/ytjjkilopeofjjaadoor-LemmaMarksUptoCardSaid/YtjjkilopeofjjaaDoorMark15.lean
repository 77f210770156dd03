/-
  Mark: the landed one and the reference's.
-/
import Derived.Test.YtjjkilopeofjjaaDoorRefCnt15
set_option linter.unusedVariables false
set_option linter.unusedSimpArgs false
namespace Go.Proofs.YtjjkilopeofjjaaDoor
open Go.RowKit

theorem nth_pos {L : List (List UInt8)} {j : Nat} (h : j < L.length) : 1 ≤ Lm.nth L j := by rw [Lm.nth_ahead h]; omega
theorem nth_len (L : List (List UInt8)) (j : Nat) : Lm.nth L j ≤ L.length := by
  have := Lm.eqs_le (Lm.plain (Lm.at_ L j)) (L.take (j + 1))
  rw [List.length_take] at this
  unfold Lm.nth; omega
theorem alls_pos {L : List (List UInt8)} {j : Nat} (h : j < L.length) : 1 ≤ Lm.alls L j := Nat.le_trans (nth_pos h) (Lm.nth_le L j)
theorem alls_len (L : List (List UInt8)) (j : Nat) : Lm.alls L j ≤ L.length := Lm.eqs_le _ _
theorem cnt_at {L : List (List UInt8)} {j : Nat} (h : j < L.length) : Lm.cnt L (j : Int) = ((Lm.nth L j : Int), (Lm.alls L j : Int)) := by
  unfold Lm.cnt; rw [if_pos ⟨by omega, by omega⟩]; rfl
theorem markI_at {L : List (List UInt8)} {j : Nat} (h : j < L.length) : Lm.markI L (j : Int) = Lm.mark L j := by
  unfold Lm.markI; rw [if_pos ⟨by omega, by omega⟩]; rfl
theorem markI_out {L : List (List UInt8)} {a : Int} (h : ¬ (0 ≤ a ∧ a < L.length)) : Lm.markI L a = [] := by unfold Lm.markI; rw [if_neg h]
theorem itoa_len15 (n : Nat) (h : n ≤ 9223372036854775807) : (Lib.itoa (n : Int)).length ≤ 20 := by
  have := dec_len n (by omega)
  unfold Lib.itoa
  rw [if_neg (by omega)]
  exact this
theorem mark_len {L : List (List UInt8)} (hs : TxSm L) (hn : L.length ≤ 9223372036854775807) (j : Nat) : (Lm.mark L j).length ≤ 1048600 := by
  have hp : (Lm.plain (Lm.at_ L j)).length ≤ 1048576 := by
    refine Nat.le_trans (Lm.plain_length _) ?_
    by_cases h : j < L.length
    · exact sm_get hs (Lm.get_of h)
    · have : Lm.at_ L j = [] := by unfold Lm.at_; rw [List.getD_eq_getElem?_getD, List.getElem?_eq_none (by omega)]; rfl
      rw [this]; simp
  have := itoa_len15 (Lm.nth L j) (Nat.le_trans (nth_len L j) hn)
  unfold Lm.mark Lm.hatOf
  split
  · omega
  · rw [List.length_append, List.length_cons]; omega
theorem hat_sum (p c : List UInt8) (n : Nat) (hp : p.length ≤ 1048576) (hn : n ≤ 9223372036854775807) (hc : c = p ++ [94]) (wx : World) : (Op.stringOp .add (str c) (str (Lib.itoa (n : Int)))).run Tryd.prog wx = .ok (.string (str (Lm.hatOf p n))) wx :=
  sum_str15 c (Lib.itoa n) _ (by have := itoa_len15 n hn; rw [hc]; simp; omega) (by rw [hc]; unfold Lm.hatOf; simp) wx
set_option maxHeartbeats 4000000 in
set_option maxRecDepth 100000 in
theorem mark_any (m : Int) (v : Value) (L : List (List UInt8)) (a : Int) (w : World) (hE : Env15 m w) (h : TxsAt w v L) (hs : TxSm L) : Calls Tryd.prog 13 #[v, .int .i64 a] w (Ret (.string (str (Lm.markI L a))) w) := by
  have HA := Lib.hid h
  have HE := Lib.hid hE
  have HCt := Lib.hid (count_any m v L a w hE h hs)
  obtain ⟨⟨pa, cp, rfl, hcap⟩, hm, _⟩ := h
  have hza : L.length ≤ 9223372036854775807 := by unfold maxLen at hm; omega
  obtain ⟨n, hn⟩ : ∃ n, n = L.length := ⟨_, rfl⟩
  have Hn := Lib.hid hn
  rw [← hn] at HA hza HCt ⊢
  clear hm hcap hE
  by_cases hin : 0 ≤ a ∧ a < n
  · obtain ⟨j, rfl⟩ : ∃ j : Nat, a = j := ⟨a.toNat, by omega⟩
    have hj : j < n := by omega
    have ha0 : (0 : Int) ≤ (j : Int) := by omega
    have haj : (j : Int) < (n : Int) := by omega
    have hjl : j < L.length := by rw [← hn]; exact hj
    rw [cnt_at hjl] at HCt
    rw [markI_at hjl]
    obtain ⟨b1, o1, d1, e1, r1⟩ := HA.out.2.2 (by rw [← Hn.out]; omega)
    rw [← Hn.out] at e1
    obtain ⟨rfl, rfl⟩ : pa = some ⟨b1, o1, none⟩ ∧ cp = d1 := by injection e1 with a1 a2 a3; exact ⟨a1, a3⟩
    have gj := Lm.get_of (l := L) (k := j) hjl
    have HY := Lib.hid (fun wr (hb : Below w.heap.size w wr) => by have := tx_cells ((r1 j _ gj).mono hb); rw [Nat.mul_one] at this; exact this)
    have hsj := sm_get hs gj
    have HC := Lib.hid (fun wx hx => bare_any m _ hsj wx hx)
    have HP := Lib.hid (fun wx hx => plainL_any m _ hsj wx hx)
    have hpl : (Lm.plain (Lm.at_ L j)).length ≤ 1048576 := Nat.le_trans (Lm.plain_length _) hsj
    have hal := alls_pos hjl
    have hnl : Lm.nth L j ≤ 9223372036854775807 := Nat.le_trans (nth_len L j) (by rw [← hn]; exact hza)
    have HI := Lib.hid (fun wx hx => itoa15 m (Lm.nth L j : Int) (by omega) (by omega) wx hx)
    by_cases h1 : Lm.alls L j = 1
    · have HV : Hid (Lm.mark L j = Lm.plain (Lm.at_ L j)) := Lib.hid (by unfold Lm.mark; rw [if_pos h1])
      rw [HV.out]
      rw [h1] at HCt
      generalize Lm.at_ L j = sj at *
      generalize Lm.plain sj = pj at *
      generalize Lm.nth L j = nj at *
      clear e1 r1 gj hn hin hjl hs h1 hal hpl hnl HC HI hsj
      go_enter Tryd.func13, Tryd.ntmps13
      go_wp2_with fail
      refine HCt.out.mono ?_
      rintro e w1 ⟨rfl, hb⟩
      have HB := Lib.hid hb
      have y0 := HY.out _ hb
      unfold cntV
      clear hb HCt
      go_wp2_with fail
      refine (HP.out _ (HE.out.mono HB.out)).mono ?_
      rintro e w2 ⟨rfl, hb⟩
      have HB2 := Lib.hid (below_step HB.out hb)
      clear hb HB y0
      go_wp2
      go_ret
      exact ⟨rfl, HB2.out⟩
    · have HV : Hid (Lm.mark L j = Lm.hatOf (Lm.plain (Lm.at_ L j)) (Lm.nth L j)) := Lib.hid (by unfold Lm.mark; rw [if_neg h1])
      rw [HV.out]
      have a0 : ((Lm.alls L j : Int) == 0) = false := by rw [beq_eq_false_iff_ne]; omega
      have a1 : ((Lm.alls L j : Int) == 1) = false := by rw [beq_eq_false_iff_ne]; omega
      obtain ⟨c, hc⟩ : ∃ c, c = Lm.plain (Lm.at_ L j) ++ [94] := ⟨_, rfl⟩
      have s1 := fun wx => sum_str15 (Lm.plain (Lm.at_ L j)) [94] c (by simp; omega) hc wx
      have s2 := fun wx => hat_sum (Lm.plain (Lm.at_ L j)) c (Lm.nth L j) hpl hnl hc wx
      have e94 : str [94] = ⟨#[94]⟩ := rfl
      rw [e94] at s1
      generalize Lm.hatOf (Lm.plain (Lm.at_ L j)) (Lm.nth L j) = mk at *
      generalize Lm.at_ L j = sj at *
      generalize Lm.plain sj = pj at *
      generalize Lm.nth L j = nj at *
      generalize Lm.alls L j = aj at *
      generalize Lib.itoa (nj : Int) = ij at *
      clear e1 r1 gj hn hin hjl hs h1 hal hpl hnl HP hsj hc e94
      go_enter Tryd.func13, Tryd.ntmps13
      go_wp2_with fail
      refine HCt.out.mono ?_
      rintro e w1 ⟨rfl, hb⟩
      have HB := Lib.hid hb
      have y0 := HY.out _ hb
      unfold cntV
      clear hb HCt
      go_wp2_with fail
      refine (HC.out _ (HE.out.mono HB.out)).mono ?_
      rintro e w2 ⟨rfl, hb⟩
      have HB2 := Lib.hid (below_step HB.out hb)
      clear hb HB y0
      go_wp2_with fail
      refine (HI.out _ (HE.out.mono HB2.out)).mono ?_
      rintro e w3 ⟨rfl, hb⟩
      have HB3 := Lib.hid (below_step HB2.out hb)
      clear hb HB2
      go_wp2
      go_ret
      exact ⟨rfl, HB3.out⟩
  · have hol : ¬ (0 ≤ a ∧ a < L.length) := by rw [← hn]; exact hin
    rw [cnt_out hol] at HCt
    rw [markI_out hol]
    clear hin hol hn
    go_enter Tryd.func13, Tryd.ntmps13
    go_wp2_with fail
    refine HCt.out.mono ?_
    rintro e w1 ⟨rfl, hb⟩
    have HB := Lib.hid hb
    unfold cntV
    clear hb HCt
    go_wp2
    go_ret
    exact ⟨rfl, HB.out⟩
set_option maxHeartbeats 4000000 in
set_option maxRecDepth 100000 in
theorem refMark_any (v : Value) (L : List (List UInt8)) (a : Int) (w : World) (h : TxsAt w v L) (hs : TxSm L) : Calls Tryd.prog 14 #[v, .int .i64 a] w (Qt (.string (str (Lm.markI L a))) w) := by
  have HA := Lib.hid h
  have HCt := Lib.hid (refCount_any v L a w h hs)
  obtain ⟨⟨pa, cp, rfl, hcap⟩, hm, _⟩ := h
  have hza : L.length ≤ 9223372036854775807 := by unfold maxLen at hm; omega
  obtain ⟨n, hn⟩ : ∃ n, n = L.length := ⟨_, rfl⟩
  have Hn := Lib.hid hn
  rw [← hn] at HA hza HCt ⊢
  clear hm hcap
  by_cases hin : 0 ≤ a ∧ a < n
  · obtain ⟨j, rfl⟩ : ∃ j : Nat, a = j := ⟨a.toNat, by omega⟩
    have hj : j < n := by omega
    have ha0 : (0 : Int) ≤ (j : Int) := by omega
    have haj : (j : Int) < (n : Int) := by omega
    have hjl : j < L.length := by rw [← hn]; exact hj
    rw [cnt_at hjl] at HCt
    rw [markI_at hjl]
    obtain ⟨b1, o1, d1, e1, r1⟩ := HA.out.2.2 (by rw [← Hn.out]; omega)
    rw [← Hn.out] at e1
    obtain ⟨rfl, rfl⟩ : pa = some ⟨b1, o1, none⟩ ∧ cp = d1 := by injection e1 with a1 a2 a3; exact ⟨a1, a3⟩
    have gj := Lm.get_of (l := L) (k := j) hjl
    have HY := Lib.hid (fun wr (hb : Below w.heap.size w wr) => by have := tx_cells ((r1 j _ gj).mono hb); rw [Nat.mul_one] at this; exact this)
    have hsj := sm_get hs gj
    have HP := Lib.hid (fun wx => refPlain_any _ hsj wx)
    have hpl : (Lm.plain (Lm.at_ L j)).length ≤ 1048576 := Nat.le_trans (Lm.plain_length _) hsj
    have hal := alls_pos hjl
    have hnl : Lm.nth L j ≤ 9223372036854775807 := Nat.le_trans (nth_len L j) (by rw [← hn]; exact hza)
    have HI := Lib.hid (fun wx => signed_any (Lm.nth L j : Int) (by omega) (by omega) wx)
    by_cases h1 : Lm.alls L j = 1
    · have HV : Hid (Lm.mark L j = Lm.plain (Lm.at_ L j)) := Lib.hid (by unfold Lm.mark; rw [if_pos h1])
      rw [HV.out]
      rw [h1] at HCt
      generalize Lm.at_ L j = sj at *
      generalize Lm.plain sj = pj at *
      generalize Lm.nth L j = nj at *
      clear e1 r1 gj hn hin hjl hs h1 hal hpl hnl HI hsj
      go_enter Tryd.func14, Tryd.ntmps14
      go_wp2_with fail
      refine HCt.out.mono ?_
      rintro e w1 ⟨rfl, d, rfl⟩
      have y0 := HY.out _ (below_drew w d)
      unfold cntV
      clear HCt
      go_wp2_with fail
      refine (HP.out _).mono ?_
      rintro e w2 ⟨rfl, rfl⟩
      go_wp2
      go_ret
      exact ⟨rfl, d, rfl⟩
    · have HV : Hid (Lm.mark L j = Lm.hatOf (Lm.plain (Lm.at_ L j)) (Lm.nth L j)) := Lib.hid (by unfold Lm.mark; rw [if_neg h1])
      rw [HV.out]
      have a0 : ((Lm.alls L j : Int) == 0) = false := by rw [beq_eq_false_iff_ne]; omega
      have a1 : (1 : Int) < (Lm.alls L j : Int) := by omega
      obtain ⟨c, hc⟩ : ∃ c, c = [94] ++ Lib.itoa (Lm.nth L j : Int) := ⟨_, rfl⟩
      have hil := itoa_len15 (Lm.nth L j) hnl
      have s1 := fun wx => sum_str15 [94] (Lib.itoa (Lm.nth L j : Int)) c (by simp; omega) hc wx
      have s2 := fun wx => sum_str15 (Lm.plain (Lm.at_ L j)) c (Lm.hatOf (Lm.plain (Lm.at_ L j)) (Lm.nth L j)) (by rw [hc]; simp; omega) (by rw [hc]; rfl) wx
      have e94 : str [94] = ⟨#[94]⟩ := rfl
      have eI : (⟨(Lib.itoa (Lm.nth L j : Int)).toArray⟩ : ByteArray) = str (Lib.itoa (Lm.nth L j : Int)) := rfl
      rw [e94] at s1
      rw [eI] at HI
      generalize Lm.hatOf (Lm.plain (Lm.at_ L j)) (Lm.nth L j) = mk at *
      generalize Lm.at_ L j = sj at *
      generalize Lm.plain sj = pj at *
      generalize Lm.nth L j = nj at *
      generalize Lm.alls L j = aj at *
      generalize Lib.itoa (nj : Int) = ij at *
      clear e1 r1 gj hn hin hjl hs h1 hal hpl hnl hsj hc e94 eI hil
      go_enter Tryd.func14, Tryd.ntmps14
      go_wp2_with fail
      refine HCt.out.mono ?_
      rintro e w1 ⟨rfl, d, rfl⟩
      have y0 := HY.out _ (below_drew w d)
      unfold cntV
      clear HCt
      go_wp2_with fail
      refine (HP.out _).mono ?_
      rintro e w2 ⟨rfl, rfl⟩
      go_wp2_with fail
      refine (HI.out _).mono ?_
      rintro e w3 ⟨rfl, rfl⟩
      go_wp2
      go_ret
      exact ⟨rfl, d, rfl⟩
  · have hol : ¬ (0 ≤ a ∧ a < L.length) := by rw [← hn]; exact hin
    rw [cnt_out hol] at HCt
    rw [markI_out hol]
    clear hin hol hn
    go_enter Tryd.func14, Tryd.ntmps14
    go_wp2_with fail
    refine HCt.out.mono ?_
    rintro e w1 ⟨rfl, d, rfl⟩
    unfold cntV
    clear HCt
    go_wp2
    go_ret
    exact ⟨rfl, d, rfl⟩
end Go.Proofs.YtjjkilopeofjjaaDoor
