/-
  The law DemeritApart: what a line costs hangs on its own items, and on those at its ends, alone.
-/
import Derived.Test.YtlgaddkpfkjfmaaFixed10
set_option linter.unusedVariables false
set_option linter.unusedSimpArgs false
namespace Go.Proofs.Ytlgaddkpfkjfmaa
open Go.RowKit

set_option maxHeartbeats 16000000 in
set_option maxRecDepth 100000 in
theorem lawApart10 (v u : Value) (l more : List It.Itm) (xa xb xw xt : Int) (w : World) (h : ItsAt w v l) (hj : ItsAt w u more) :
    Calls Try.prog 4 #[v, u, .agg #[.int .i64 xa, .int .i64 xb, .int .i64 xw, .int .i64 xt]] w (Ret (.bool true) w) := by
  have HF := Lib.hid (fun w => fixed10 w)
  obtain ⟨W1, hW1⟩ : ∃ W1, W1 = w.alloc (.cells #[.int .i64 xa, .int .i64 xb, .int .i64 xw, .int .i64 xt] 25) := ⟨_, rfl⟩
  have HB1 := Lib.hid (below_alloc w (.cells #[.int .i64 xa, .int .i64 xb, .int .i64 xw, .int .i64 xt] 25))
  have HG1 := Lib.hid (obj_new w _ rfl #[.int .i64 xa, .int .i64 xb, .int .i64 xw, .int .i64 xt] 25)
  rw [← hW1] at HB1 HG1
  have HI1 := Lib.hid (SlcAt.mono h HB1.out)
  have HJ1 := Lib.hid (SlcAt.mono hj HB1.out)
  obtain ⟨⟨p, cp, rfl, hcap⟩, hm, _⟩ := h
  obtain ⟨⟨pj, cj, rfl, hcj⟩, hmj, _⟩ := hj
  have hza : l.length ≤ 9223372036854775807 := by unfold maxLen at hm; omega
  have hzb : more.length ≤ 9223372036854775807 := by unfold maxLen at hmj; omega
  have HC := Lib.hid (fun w h hlen tol => cost_any (.slice p l.length cp) l xa xb xw tol w h hlen)
  have Hcap := Lib.hid hcap
  obtain ⟨n, hn⟩ : ∃ n, n = l.length := ⟨_, rfl⟩
  obtain ⟨m, hm'⟩ : ∃ m, m = more.length := ⟨_, rfl⟩
  have Hn := Lib.hid hn
  have Hm := Lib.hid hm'
  rw [← hn] at HI1 hza HC Hcap ⊢
  rw [← hm'] at HJ1 hzb ⊢
  clear hn hm' hm hmj hcj hcap
  by_cases h1 : 1000 < n
  · have g1 : (1000 : Int) < (n : Int) := by omega
    go_enter Try.func4, Try.ntmps4
    go_wp2_with fail
    rw [← hW1]
    clear hW1
    refine (HF.out _).mono ?_
    rintro e w2 ⟨rfl, hb2⟩
    have HB2 := Lib.hid (below_step HB1.out hb2)
    have HG2 := Lib.hid (obj_kept hb2 HG1.out)
    have HI2 := Lib.hid (SlcAt.mono HI1.out hb2)
    have HJ2 := Lib.hid (SlcAt.mono HJ1.out hb2)
    clear hb2
    have q0 := Lib.cell_of_heap HG2.out 0
    have q1 := Lib.cell_of_heap HG2.out 1
    have q2 := Lib.cell_of_heap HG2.out 2
    have q3 := Lib.cell_of_heap HG2.out 3
    go_wp2_with fail
    refine (HF.out _).mono ?_
    rintro e w3 ⟨rfl, hb3⟩
    have HB3 := Lib.hid (below_step HB2.out hb3)
    clear hb3
    go_wp2
    go_ret
    exact ⟨rfl, HB3.out⟩
  · have g1 : ¬ ((1000 : Int) < (n : Int)) := by omega
    by_cases h2 : 1000 < m
    · have g2 : (1000 : Int) < (m : Int) := by omega
      go_enter Try.func4, Try.ntmps4
      go_wp2_with fail
      rw [← hW1]
      clear hW1
      refine (HF.out _).mono ?_
      rintro e w2 ⟨rfl, hb2⟩
      have HB2 := Lib.hid (below_step HB1.out hb2)
      have HG2 := Lib.hid (obj_kept hb2 HG1.out)
      have HI2 := Lib.hid (SlcAt.mono HI1.out hb2)
      have HJ2 := Lib.hid (SlcAt.mono HJ1.out hb2)
      clear hb2
      have q0 := Lib.cell_of_heap HG2.out 0
      have q1 := Lib.cell_of_heap HG2.out 1
      have q2 := Lib.cell_of_heap HG2.out 2
      have q3 := Lib.cell_of_heap HG2.out 3
      go_wp2_with fail
      refine (HF.out _).mono ?_
      rintro e w3 ⟨rfl, hb3⟩
      have HB3 := Lib.hid (below_step HB2.out hb3)
      clear hb3
      go_wp2
      go_ret
      exact ⟨rfl, HB3.out⟩
    · have g2 : ¬ ((1000 : Int) < (m : Int)) := by omega
      by_cases h3 : xb < 0
      ·
        go_enter Try.func4, Try.ntmps4
        go_wp2_with fail
        rw [← hW1]
        clear hW1
        refine (HF.out _).mono ?_
        rintro e w2 ⟨rfl, hb2⟩
        have HB2 := Lib.hid (below_step HB1.out hb2)
        have HG2 := Lib.hid (obj_kept hb2 HG1.out)
        have HI2 := Lib.hid (SlcAt.mono HI1.out hb2)
        have HJ2 := Lib.hid (SlcAt.mono HJ1.out hb2)
        clear hb2
        have q0 := Lib.cell_of_heap HG2.out 0
        have q1 := Lib.cell_of_heap HG2.out 1
        have q2 := Lib.cell_of_heap HG2.out 2
        have q3 := Lib.cell_of_heap HG2.out 3
        go_wp2_with fail
        refine (HF.out _).mono ?_
        rintro e w3 ⟨rfl, hb3⟩
        have HB3 := Lib.hid (below_step HB2.out hb3)
        clear hb3
        go_wp2
        go_ret
        exact ⟨rfl, HB3.out⟩
      · by_cases h4 : (n : Int) ≤ xb
        ·
          go_enter Try.func4, Try.ntmps4
          go_wp2_with fail
          rw [← hW1]
          clear hW1
          refine (HF.out _).mono ?_
          rintro e w2 ⟨rfl, hb2⟩
          have HB2 := Lib.hid (below_step HB1.out hb2)
          have HG2 := Lib.hid (obj_kept hb2 HG1.out)
          have HI2 := Lib.hid (SlcAt.mono HI1.out hb2)
          have HJ2 := Lib.hid (SlcAt.mono HJ1.out hb2)
          clear hb2
          have q0 := Lib.cell_of_heap HG2.out 0
          have q1 := Lib.cell_of_heap HG2.out 1
          have q2 := Lib.cell_of_heap HG2.out 2
          have q3 := Lib.cell_of_heap HG2.out 3
          go_wp2_with fail
          refine (HF.out _).mono ?_
          rintro e w3 ⟨rfl, hb3⟩
          have HB3 := Lib.hid (below_step HB2.out hb3)
          clear hb3
          go_wp2
          go_ret
          exact ⟨rfl, HB3.out⟩
        · obtain ⟨k, hk⟩ : ∃ k : Nat, xb = (k : Int) := ⟨xb.toNat, by omega⟩
          subst hk
          have hkn : k < n := by omega
          have hlen : n ≤ 2000 := by omega
          have HCl := Lib.hid (fun w (h : ItsAt w (.slice p n cp) l) tol => HC.out w h hlen tol)
          have HOth : Hid (It.costOf (l.take (k + 1) ++ more) xa (k : Int) xw xt = It.costOf l xa (k : Int) xw xt) := Lib.hid (by
            have := It.costOf_other l more xa xw xt (b := (k : Int)) (by omega) (by rw [← Hn.out]; omega)
            rw [Int.toNat_natCast] at this
            exact this)
          have htl : (l.take (k + 1)).length = k + 1 := by rw [List.length_take, ← Hn.out]; omega
          have Htl := Lib.hid htl
          have hol : (l.take (k + 1) ++ more).length ≤ 2000 := by rw [List.length_append, htl, ← Hm.out]; omega
          have HCo := Lib.hid (fun v w h => cost_any v (l.take (k + 1) ++ more) xa (k : Int) xw xt w h hol)
          rw [HOth.out] at HCo
          have HC1 := Lib.hid (fun w h => HCl.out w h xt)
          have HC3 := Lib.hid (fun w h => HCl.out w h 10000)
          have hs1 : ∀ wx, (Instr.slice 22 (.slice p n cp) none (some (.int .i64 ((k : Int) + 1))) none).run Try.prog wx = .ok (.slice p (k + 1) cp) wx := fun wx => run_head9 p n (k + 1) cp (by have := Hcap.out; omega) wx
          have hs2 : ∀ wx, (Instr.sliceAt 22 (.slice p n cp) none (some (.int .i64 ((k : Int) + 1))) none).run Try.prog wx = .ok (.slice p (k + 1) cp) wx := fun wx => by rw [run_sliceAt_slice (h := by rw [elemIt]; exact Try.underlying22)]; exact hs1 wx
          have k0 : (0 : Int) ≤ (k : Int) := by omega
          have kl : (k : Int) < (n : Int) := by omega
          have hkw : wrap64 ((k : Int) + 1) = (k : Int) + 1 := w64 (by omega) (by omega)
          have hkcp : k + 1 ≤ cp := by have := Hcap.out; omega
          have hmm : m ≤ 1000 := by omega
          have hk1 : k + 1 ≤ 1000 := by omega
          have Hnum := Lib.hid (⟨hmm, hk1⟩ : m ≤ 1000 ∧ k + 1 ≤ 1000)
          clear HC hol htl
          cases hr : It.costOf l xa (k : Int) xw xt with
          | none =>
            rw [hr] at HC1 HCo
            unfold costV at HC1 HCo
            clear hr HOth HCl
            generalize It.costOf l xa (k : Int) xw 10000 = r3 at HC3
            cases r3 with
            | none =>
              unfold costV at HC3
              go_enter Try.func4, Try.ntmps4
              go_wp2_with fail
              rw [← hW1]
              clear hW1
              refine (HF.out _).mono ?_
              rintro e w2 ⟨rfl, hb2⟩
              have HB2 := Lib.hid (below_step HB1.out hb2)
              have HG2 := Lib.hid (obj_kept hb2 HG1.out)
              have HI2 := Lib.hid (SlcAt.mono HI1.out hb2)
              have HJ2 := Lib.hid (SlcAt.mono HJ1.out hb2)
              clear hb2
              have q0 := Lib.cell_of_heap HG2.out 0
              have q1 := Lib.cell_of_heap HG2.out 1
              have q2 := Lib.cell_of_heap HG2.out 2
              have q3 := Lib.cell_of_heap HG2.out 3
              go_wp2_with fail
              refine (HC1.out _ HI2.out).mono ?_
              rintro e w3 ⟨rfl, hb3⟩
              have HB3 := Lib.hid (below_step HB2.out hb3)
              have HG3 := Lib.hid (obj_kept hb3 HG2.out)
              have HI3 := Lib.hid (SlcAt.mono HI2.out hb3)
              have HJ3 := Lib.hid (SlcAt.mono HJ2.out hb3)
              clear hb3 q0 q1 q2 q3
              have hb4 := below_alloc w3 (.cells #[] 49)
              have HO4 := Lib.hid (own_empty 49 itC 9 w3)
              have HHd : Hid (ItsAt (w3.alloc (.cells #[] 49)) (.slice p (k + 1) cp) (l.take (k + 1))) := Lib.hid (by
                have h := SlcAt.mono HI3.out hb4
                rw [Hn.out] at h
                exact slc_head h (k + 1) (by rw [← Hn.out]; omega))
              have q1 : (w3.alloc (.cells #[] 49)).cell? ⟨w.heap.size, 1, none⟩ = some (.int .i64 (k : Int)) := Lib.cell_of_heap (obj_kept hb4 HG3.out) 1
              have Hb4 := Lib.hid hb4
              clear hk1 hmm hb4
              go_upto_region 5 with (at_builtin; first
                | (have hmark := HO5; refine wpList_append_slc Try.underlying22 infoIt rfl (by decide) itC_len itC_cell rfl _ _ rfl w3.heap.size _ _ (l.take (k + 1)) more rfl HO5.out rfl HJ5.out (by rw [Htl.out, ← Hm.out]; have := Hnum.out; omega) (by rw [Htl.out, ← Hm.out]; have := Hnum.out; unfold maxLen; omega) Hb5.out.size ?_; intro v6 w6 h6 hg6; have HO6 := Lib.hid h6; have Hb6 := Lib.hid (below_app Hb5.out hg6 HO5.out Hb5.out.size); clear h6 hg6)
                | (refine wpList_append_slc Try.underlying22 infoIt rfl (by decide) itC_len itC_cell rfl _ _ rfl w3.heap.size _ _ [] (l.take (k + 1)) rfl HO4.out rfl HHd.out (by rw [Htl.out]; have := Hnum.out; simp; omega) (by rw [Htl.out]; have := Hnum.out; unfold maxLen; simp; omega) Hb4.out.size ?_; intro v5 w5 h5 hg5; have HO5 := Lib.hid h5; have Hb5 := Lib.hid (below_app Hb4.out hg5 HO4.out Hb4.out.size); have HJ5 := Lib.hid (SlcAt.mono HJ3.out Hb5.out); clear h5 hg5))
              have HG6 := Lib.hid (obj_kept Hb6.out HG3.out)
              have HI6 := Lib.hid (SlcAt.mono HI3.out Hb6.out)
              have HB6 := Lib.hid (below_step HB3.out Hb6.out)
              clear q1
              have q0 := Lib.cell_of_heap HG6.out 0
              have q1 := Lib.cell_of_heap HG6.out 1
              have q2 := Lib.cell_of_heap HG6.out 2
              have q3 := Lib.cell_of_heap HG6.out 3
              go_wp2_with fail
              refine (HCo.out _ _ (OwnR.at HO6.out itC_len)).mono ?_
              rintro e w7 ⟨rfl, hb7⟩
              have HB7 := Lib.hid (below_step HB6.out hb7)
              have HG7 := Lib.hid (obj_kept hb7 HG6.out)
              have HI7 := Lib.hid (SlcAt.mono HI6.out hb7)
              clear hb7 q0 q1 q2 q3
              have q0 := Lib.cell_of_heap HG7.out 0
              have q1 := Lib.cell_of_heap HG7.out 1
              have q2 := Lib.cell_of_heap HG7.out 2
              have q3 := Lib.cell_of_heap HG7.out 3
              go_wp2_with fail
              refine (HC3.out _ HI7.out).mono ?_
              rintro e w8 ⟨rfl, hb8⟩
              have HB8 := Lib.hid (below_step HB7.out hb8)
              clear hb8
              go_wp2
              go_ret
              exact ⟨rfl, HB8.out⟩
            | some dc =>
              obtain ⟨d, c⟩ := dc
              unfold costV at HC3
              simp only [] at HC3
              go_enter Try.func4, Try.ntmps4
              go_wp2_with fail
              rw [← hW1]
              clear hW1
              refine (HF.out _).mono ?_
              rintro e w2 ⟨rfl, hb2⟩
              have HB2 := Lib.hid (below_step HB1.out hb2)
              have HG2 := Lib.hid (obj_kept hb2 HG1.out)
              have HI2 := Lib.hid (SlcAt.mono HI1.out hb2)
              have HJ2 := Lib.hid (SlcAt.mono HJ1.out hb2)
              clear hb2
              have q0 := Lib.cell_of_heap HG2.out 0
              have q1 := Lib.cell_of_heap HG2.out 1
              have q2 := Lib.cell_of_heap HG2.out 2
              have q3 := Lib.cell_of_heap HG2.out 3
              go_wp2_with fail
              refine (HC1.out _ HI2.out).mono ?_
              rintro e w3 ⟨rfl, hb3⟩
              have HB3 := Lib.hid (below_step HB2.out hb3)
              have HG3 := Lib.hid (obj_kept hb3 HG2.out)
              have HI3 := Lib.hid (SlcAt.mono HI2.out hb3)
              have HJ3 := Lib.hid (SlcAt.mono HJ2.out hb3)
              clear hb3 q0 q1 q2 q3
              have hb4 := below_alloc w3 (.cells #[] 49)
              have HO4 := Lib.hid (own_empty 49 itC 9 w3)
              have HHd : Hid (ItsAt (w3.alloc (.cells #[] 49)) (.slice p (k + 1) cp) (l.take (k + 1))) := Lib.hid (by
                have h := SlcAt.mono HI3.out hb4
                rw [Hn.out] at h
                exact slc_head h (k + 1) (by rw [← Hn.out]; omega))
              have q1 : (w3.alloc (.cells #[] 49)).cell? ⟨w.heap.size, 1, none⟩ = some (.int .i64 (k : Int)) := Lib.cell_of_heap (obj_kept hb4 HG3.out) 1
              have Hb4 := Lib.hid hb4
              clear hk1 hmm hb4
              go_upto_region 5 with (at_builtin; first
                | (have hmark := HO5; refine wpList_append_slc Try.underlying22 infoIt rfl (by decide) itC_len itC_cell rfl _ _ rfl w3.heap.size _ _ (l.take (k + 1)) more rfl HO5.out rfl HJ5.out (by rw [Htl.out, ← Hm.out]; have := Hnum.out; omega) (by rw [Htl.out, ← Hm.out]; have := Hnum.out; unfold maxLen; omega) Hb5.out.size ?_; intro v6 w6 h6 hg6; have HO6 := Lib.hid h6; have Hb6 := Lib.hid (below_app Hb5.out hg6 HO5.out Hb5.out.size); clear h6 hg6)
                | (refine wpList_append_slc Try.underlying22 infoIt rfl (by decide) itC_len itC_cell rfl _ _ rfl w3.heap.size _ _ [] (l.take (k + 1)) rfl HO4.out rfl HHd.out (by rw [Htl.out]; have := Hnum.out; simp; omega) (by rw [Htl.out]; have := Hnum.out; unfold maxLen; simp; omega) Hb4.out.size ?_; intro v5 w5 h5 hg5; have HO5 := Lib.hid h5; have Hb5 := Lib.hid (below_app Hb4.out hg5 HO4.out Hb4.out.size); have HJ5 := Lib.hid (SlcAt.mono HJ3.out Hb5.out); clear h5 hg5))
              have HG6 := Lib.hid (obj_kept Hb6.out HG3.out)
              have HI6 := Lib.hid (SlcAt.mono HI3.out Hb6.out)
              have HB6 := Lib.hid (below_step HB3.out Hb6.out)
              clear q1
              have q0 := Lib.cell_of_heap HG6.out 0
              have q1 := Lib.cell_of_heap HG6.out 1
              have q2 := Lib.cell_of_heap HG6.out 2
              have q3 := Lib.cell_of_heap HG6.out 3
              go_wp2_with fail
              refine (HCo.out _ _ (OwnR.at HO6.out itC_len)).mono ?_
              rintro e w7 ⟨rfl, hb7⟩
              have HB7 := Lib.hid (below_step HB6.out hb7)
              have HG7 := Lib.hid (obj_kept hb7 HG6.out)
              have HI7 := Lib.hid (SlcAt.mono HI6.out hb7)
              clear hb7 q0 q1 q2 q3
              have q0 := Lib.cell_of_heap HG7.out 0
              have q1 := Lib.cell_of_heap HG7.out 1
              have q2 := Lib.cell_of_heap HG7.out 2
              have q3 := Lib.cell_of_heap HG7.out 3
              go_wp2_with fail
              refine (HC3.out _ HI7.out).mono ?_
              rintro e w8 ⟨rfl, hb8⟩
              have HB8 := Lib.hid (below_step HB7.out hb8)
              clear hb8
              go_wp2
              go_ret
              exact ⟨rfl, HB8.out⟩
          | some dc =>
            obtain ⟨d, c⟩ := dc
            obtain ⟨hm1, hc0, hc3⟩ := It.costOf_more hr
            rw [hr] at HC1 HCo
            rw [hm1] at HC3
            unfold costV at HC1 HCo HC3
            simp only [] at HC1 HCo HC3
            clear hr hm1 HOth HCl
            go_enter Try.func4, Try.ntmps4
            go_wp2_with fail
            rw [← hW1]
            clear hW1
            refine (HF.out _).mono ?_
            rintro e w2 ⟨rfl, hb2⟩
            have HB2 := Lib.hid (below_step HB1.out hb2)
            have HG2 := Lib.hid (obj_kept hb2 HG1.out)
            have HI2 := Lib.hid (SlcAt.mono HI1.out hb2)
            have HJ2 := Lib.hid (SlcAt.mono HJ1.out hb2)
            clear hb2
            have q0 := Lib.cell_of_heap HG2.out 0
            have q1 := Lib.cell_of_heap HG2.out 1
            have q2 := Lib.cell_of_heap HG2.out 2
            have q3 := Lib.cell_of_heap HG2.out 3
            go_wp2_with fail
            refine (HC1.out _ HI2.out).mono ?_
            rintro e w3 ⟨rfl, hb3⟩
            have HB3 := Lib.hid (below_step HB2.out hb3)
            have HG3 := Lib.hid (obj_kept hb3 HG2.out)
            have HI3 := Lib.hid (SlcAt.mono HI2.out hb3)
            have HJ3 := Lib.hid (SlcAt.mono HJ2.out hb3)
            clear hb3 q0 q1 q2 q3
            have hb4 := below_alloc w3 (.cells #[] 49)
            have HO4 := Lib.hid (own_empty 49 itC 9 w3)
            have HHd : Hid (ItsAt (w3.alloc (.cells #[] 49)) (.slice p (k + 1) cp) (l.take (k + 1))) := Lib.hid (by
              have h := SlcAt.mono HI3.out hb4
              rw [Hn.out] at h
              exact slc_head h (k + 1) (by rw [← Hn.out]; omega))
            have q1 : (w3.alloc (.cells #[] 49)).cell? ⟨w.heap.size, 1, none⟩ = some (.int .i64 (k : Int)) := Lib.cell_of_heap (obj_kept hb4 HG3.out) 1
            have Hb4 := Lib.hid hb4
            clear hk1 hmm hb4
            go_upto_region 5 with (at_builtin; first
              | (have hmark := HO5; refine wpList_append_slc Try.underlying22 infoIt rfl (by decide) itC_len itC_cell rfl _ _ rfl w3.heap.size _ _ (l.take (k + 1)) more rfl HO5.out rfl HJ5.out (by rw [Htl.out, ← Hm.out]; have := Hnum.out; omega) (by rw [Htl.out, ← Hm.out]; have := Hnum.out; unfold maxLen; omega) Hb5.out.size ?_; intro v6 w6 h6 hg6; have HO6 := Lib.hid h6; have Hb6 := Lib.hid (below_app Hb5.out hg6 HO5.out Hb5.out.size); clear h6 hg6)
              | (refine wpList_append_slc Try.underlying22 infoIt rfl (by decide) itC_len itC_cell rfl _ _ rfl w3.heap.size _ _ [] (l.take (k + 1)) rfl HO4.out rfl HHd.out (by rw [Htl.out]; have := Hnum.out; simp; omega) (by rw [Htl.out]; have := Hnum.out; unfold maxLen; simp; omega) Hb4.out.size ?_; intro v5 w5 h5 hg5; have HO5 := Lib.hid h5; have Hb5 := Lib.hid (below_app Hb4.out hg5 HO4.out Hb4.out.size); have HJ5 := Lib.hid (SlcAt.mono HJ3.out Hb5.out); clear h5 hg5))
            have HG6 := Lib.hid (obj_kept Hb6.out HG3.out)
            have HI6 := Lib.hid (SlcAt.mono HI3.out Hb6.out)
            have HB6 := Lib.hid (below_step HB3.out Hb6.out)
            clear q1
            have q0 := Lib.cell_of_heap HG6.out 0
            have q1 := Lib.cell_of_heap HG6.out 1
            have q2 := Lib.cell_of_heap HG6.out 2
            have q3 := Lib.cell_of_heap HG6.out 3
            go_wp2_with fail
            refine (HCo.out _ _ (OwnR.at HO6.out itC_len)).mono ?_
            rintro e w7 ⟨rfl, hb7⟩
            have HB7 := Lib.hid (below_step HB6.out hb7)
            have HG7 := Lib.hid (obj_kept hb7 HG6.out)
            have HI7 := Lib.hid (SlcAt.mono HI6.out hb7)
            clear hb7 q0 q1 q2 q3
            have q0 := Lib.cell_of_heap HG7.out 0
            have q1 := Lib.cell_of_heap HG7.out 1
            have q2 := Lib.cell_of_heap HG7.out 2
            have q3 := Lib.cell_of_heap HG7.out 3
            go_wp2_with fail
            refine (HC3.out _ HI7.out).mono ?_
            rintro e w8 ⟨rfl, hb8⟩
            have HB8 := Lib.hid (below_step HB7.out hb8)
            clear hb8
            go_wp2
            go_ret
            exact ⟨rfl, HB8.out⟩
end Go.Proofs.Ytlgaddkpfkjfmaa
