/-
  The law DemeritTotals: what any breaks cost together is as the document says.
-/
import Derived.Test.YtlgaddkpfkjfmaaFixed10
import Derived.Test.YtlgaddkpfkjfmaaRefTotal10
set_option linter.unusedVariables false
set_option linter.unusedSimpArgs false
namespace Go.Proofs.Ytlgaddkpfkjfmaa
open Go.RowKit

set_option maxHeartbeats 8000000 in
set_option maxRecDepth 100000 in
theorem lawTotals10 (v vb : Value) (l : List It.Itm) (bs : List Int) (xa xb xw xt : Int) (w : World) (h : ItsAt w v l) (hbs : IntsAt .i64 w vb bs) :
    Calls Try.prog 3 #[v, vb, .agg #[.int .i64 xa, .int .i64 xb, .int .i64 xw, .int .i64 xt]] w (Ret (.bool true) w) := by
  have HF := Lib.hid (fun w => fixed10 w)
  obtain ⟨W1, hW1⟩ : ∃ W1, W1 = w.alloc (.cells #[.int .i64 xa, .int .i64 xb, .int .i64 xw, .int .i64 xt] 25) := ⟨_, rfl⟩
  have HB1 := Lib.hid (below_alloc w (.cells #[.int .i64 xa, .int .i64 xb, .int .i64 xw, .int .i64 xt] 25))
  have HG1 := Lib.hid (obj_new w _ rfl #[.int .i64 xa, .int .i64 xb, .int .i64 xw, .int .i64 xt] 25)
  rw [← hW1] at HB1 HG1
  have HI1 := Lib.hid (SlcAt.mono h HB1.out)
  have HS1 := Lib.hid (IntsAt.mono HB1.out hbs)
  obtain ⟨⟨p, cp, rfl, hcap⟩, hm, _⟩ := h
  obtain ⟨⟨pb, cb, rfl, hcb⟩, hmb, _⟩ := hbs
  have hza : l.length ≤ 9223372036854775807 := by unfold maxLen at hm; omega
  have hzb : bs.length ≤ 9223372036854775807 := by unfold maxLen at hmb; omega
  by_cases hlen : l.length ≤ 2000
  · have HT := Lib.hid (fun w h hb => demTotal_any (.slice p l.length cp) (.slice pb bs.length cb) l bs xw xt w h hlen hb)
    have HR := Lib.hid (fun w h hb => refDemTotal_any (.slice p l.length cp) (.slice pb bs.length cb) l bs xw xt w h hlen hb)
    generalize It.total l bs xw xt = r at HT HR
    obtain ⟨n, hn⟩ : ∃ n, n = l.length := ⟨_, rfl⟩
    obtain ⟨m, hm'⟩ : ∃ m, m = bs.length := ⟨_, rfl⟩
    rw [← hn, ← hm'] at HT HR ⊢
    rw [← hn] at HI1 hza hlen
    rw [← hm'] at HS1 hzb
    clear hn hm' hcap hm hcb hmb
    have g1 : ¬ ((2000 : Int) < (n : Int)) := by omega
    have q2 := Lib.cell_of_heap HG1.out 2
    have q3 := Lib.cell_of_heap HG1.out 3
    by_cases hbl : m ≤ 200
    · have g2 : ¬ ((200 : Int) < (m : Int)) := by omega
      cases r with
      | none =>
        unfold tolV at HT HR
        go_enter Try.func3, Try.ntmps3
        go_upto_region 3 with fail
        rw [← hW1]
        clear hW1
        go_wp2_with fail
        refine (HT.out _ HI1.out HS1.out).mono ?_
        rintro e w2 ⟨rfl, hb2⟩
        have HB2 := Lib.hid (below_step HB1.out hb2)
        have HI2 := Lib.hid (SlcAt.mono HI1.out hb2)
        have HS2 := Lib.hid (IntsAt.mono hb2 HS1.out)
        have HG2 := Lib.hid (obj_kept hb2 HG1.out)
        clear hb2 q2 q3
        have q2 := Lib.cell_of_heap HG2.out 2
        have q3 := Lib.cell_of_heap HG2.out 3
        go_wp2_with fail
        refine (HR.out _ HI2.out HS2.out).mono ?_
        rintro e w3 ⟨rfl, hb3⟩
        have HB3 := Lib.hid (below_step HB2.out hb3)
        clear hb3 q2 q3
        go_wp2_with fail
        refine (HF.out _).mono ?_
        rintro e w4 ⟨rfl, hb4⟩
        have HB4 := Lib.hid (below_step HB3.out hb4)
        clear hb4
        go_wp2
        go_ret
        exact ⟨rfl, HB4.out⟩
      | some t =>
        unfold tolV at HT HR
        simp only [] at HT HR
        go_enter Try.func3, Try.ntmps3
        go_upto_region 3 with fail
        rw [← hW1]
        clear hW1
        go_wp2_with fail
        refine (HT.out _ HI1.out HS1.out).mono ?_
        rintro e w2 ⟨rfl, hb2⟩
        have HB2 := Lib.hid (below_step HB1.out hb2)
        have HI2 := Lib.hid (SlcAt.mono HI1.out hb2)
        have HS2 := Lib.hid (IntsAt.mono hb2 HS1.out)
        have HG2 := Lib.hid (obj_kept hb2 HG1.out)
        clear hb2 q2 q3
        have q2 := Lib.cell_of_heap HG2.out 2
        have q3 := Lib.cell_of_heap HG2.out 3
        go_wp2_with fail
        refine (HR.out _ HI2.out HS2.out).mono ?_
        rintro e w3 ⟨rfl, hb3⟩
        have HB3 := Lib.hid (below_step HB2.out hb3)
        clear hb3 q2 q3
        go_wp2_with fail
        refine (HF.out _).mono ?_
        rintro e w4 ⟨rfl, hb4⟩
        have HB4 := Lib.hid (below_step HB3.out hb4)
        clear hb4
        go_wp2
        go_ret
        exact ⟨rfl, HB4.out⟩
    · have g2 : (200 : Int) < (m : Int) := by omega
      go_enter Try.func3, Try.ntmps3
      go_wp2_with fail
      rw [← hW1]
      refine (HF.out _).mono ?_
      rintro e w4 ⟨rfl, hb4⟩
      have HB4 := Lib.hid (below_step HB1.out hb4)
      clear hb4
      go_wp2
      go_ret
      exact ⟨rfl, HB4.out⟩
  · obtain ⟨n, hn⟩ : ∃ n, n = l.length := ⟨_, rfl⟩
    rw [← hn] at hza hlen ⊢
    have g1 : (2000 : Int) < (n : Int) := by omega
    clear hn
    go_enter Try.func3, Try.ntmps3
    go_wp2_with fail
    rw [← hW1]
    refine (HF.out _).mono ?_
    rintro e w4 ⟨rfl, hb4⟩
    have HB4 := Lib.hid (below_step HB1.out hb4)
    clear hb4
    go_wp2
    go_ret
    exact ⟨rfl, HB4.out⟩
end Go.Proofs.Ytlgaddkpfkjfmaa
