/-
  The law DemeritParts: breaks that may be cost what their beginning costs, and their last line.
-/
import Derived.Test.YtlgaddkpfkjfmaaFixed10
set_option linter.unusedVariables false
set_option linter.unusedSimpArgs false
namespace Go.Proofs.Ytlgaddkpfkjfmaa
open Go.RowKit

theorem elemI10 : Try.prog.elem 23 = 3 := by kernel_rfl
theorem sizeI10 (wx : World) : (sizeOf 3).run Try.prog wx = .ok 1 wx := by kernel_rfl
theorem run_headI10 (a : Option Addr) (n k cap : Nat) (h : k ≤ cap) (wx : World) : (Instr.slice 23 (.slice a n cap) none (some (.int .i64 (k : Int))) none).run Try.prog wx = .ok (.slice a k cap) wx := by
  rw [run_slice_h (ht := by rw [elemI10]; exact Try.underlying23) (h0 := by omega) (h2 := by omega), elemI10, sizeI10]
  cases a <;> simp [Result.andThen, sliced, Addr.add]
theorem ints_head {k : IntKind} {w : World} {a : Option Addr} {cap : Nat} {l : List Int} {n : Nat} (hn : n = l.length) (h : IntsAt k w (.slice a n cap) l) (j : Nat) (hj : j ≤ n) : IntsAt k w (.slice a j cap) (l.take j) := by
  subst hn
  obtain ⟨⟨a', c', e, hc⟩, hm, hx⟩ := h
  injection e with e1 e2 e3
  subst e1 e3
  have hl : (l.take j).length = j := by rw [List.length_take]; omega
  refine ⟨⟨a, cap, by rw [hl], by rw [hl]; omega⟩, by rw [hl]; omega, fun hp => ?_⟩
  rw [hl] at hp
  obtain ⟨b, o, c', e, hq⟩ := hx (by omega)
  injection e with e1 e2 e3
  subst e1 e3
  refine ⟨b, o, cap, by rw [hl], fun i x hi => hq i x ?_⟩
  rw [List.getElem?_take] at hi
  split at hi
  · exact hi
  · cases hi
theorem two_last {bs : List Int} {N : Nat} {m b : Int} (hn : bs.length = N + 2) (hm : bs[N]? = some m) (hb : bs[N + 1]? = some b) : bs = bs.take N ++ [m, b] ∧ bs.take (N + 1) = bs.take N ++ [m] := by
  have e1 := It.take_snoc hm
  have e2 := It.take_snoc hb
  rw [List.take_of_length_le (by omega), e1, List.append_assoc] at e2
  exact ⟨e2, e1⟩

set_option maxHeartbeats 16000000 in
set_option maxRecDepth 100000 in
theorem lawParts10 (v vb : Value) (l : List It.Itm) (bs : List Int) (xa xb xw xt : Int) (w : World) (h : ItsAt w v l) (hbs : IntsAt .i64 w vb bs) :
    Calls Try.prog 5 #[v, vb, .agg #[.int .i64 xa, .int .i64 xb, .int .i64 xw, .int .i64 xt]] w (Ret (.bool true) w) := by
  have HF := Lib.hid (fun w => fixed10 w)
  obtain ⟨W1, hW1⟩ : ∃ W1, W1 = w.alloc (.cells #[.int .i64 xa, .int .i64 xb, .int .i64 xw, .int .i64 xt] 25) := ⟨_, rfl⟩
  have HB1 := Lib.hid (below_alloc w (.cells #[.int .i64 xa, .int .i64 xb, .int .i64 xw, .int .i64 xt] 25))
  have HG1 := Lib.hid (obj_new w _ rfl #[.int .i64 xa, .int .i64 xb, .int .i64 xw, .int .i64 xt] 25)
  rw [← hW1] at HB1 HG1
  have HI1 := Lib.hid (SlcAt.mono h HB1.out)
  have HS1 := Lib.hid (IntsAt.mono HB1.out hbs)
  obtain ⟨⟨p, cp, rfl, hcap⟩, hm, _⟩ := h
  obtain ⟨⟨pb, cb, rfl, hcb⟩, hmb, _⟩ := hbs
  have hza : l.length ≤ 9223372036854775807 := by unfold maxLen at hm; omega
  have hzb : bs.length ≤ 9223372036854775807 := by unfold maxLen at hmb; omega
  have Hcap := Lib.hid hcap
  have Hcb := Lib.hid hcb
  obtain ⟨n, hn⟩ : ∃ n, n = l.length := ⟨_, rfl⟩
  obtain ⟨m, hm'⟩ : ∃ m, m = bs.length := ⟨_, rfl⟩
  have Hn := Lib.hid hn
  have Hm := Lib.hid hm'
  rw [← hn] at HI1 hza Hcap ⊢
  rw [← hm'] at HS1 hzb Hcb ⊢
  clear hn hm' hm hmb hcb hcap
  by_cases h1 : 500 < n
  · have g1 : (500 : Int) < (n : Int) := by omega
    go_enter Try.func5, Try.ntmps5
    go_wp2_with fail
    rw [← hW1]
    clear hW1
    refine (HF.out _).mono ?_
    rintro e w2 ⟨rfl, hb2⟩
    have HB2 := Lib.hid (below_step HB1.out hb2)
    have HG2 := Lib.hid (obj_kept hb2 HG1.out)
    have HI2 := Lib.hid (SlcAt.mono HI1.out hb2)
    have HS2 := Lib.hid (IntsAt.mono hb2 HS1.out)
    clear hb2
    have q2 := Lib.cell_of_heap HG2.out 2
    have q3 := Lib.cell_of_heap HG2.out 3
    go_wp2_with fail
    refine (HF.out _).mono ?_
    rintro e w3 ⟨rfl, hb3⟩
    have HB3 := Lib.hid (below_step HB2.out hb3)
    clear hb3
    go_wp2
    go_ret
    exact ⟨rfl, HB3.out⟩
  · have g1 : ¬ ((500 : Int) < (n : Int)) := by omega
    by_cases h2 : 50 < m
    · have g2 : (50 : Int) < (m : Int) := by omega
      go_enter Try.func5, Try.ntmps5
      go_wp2_with fail
      rw [← hW1]
      clear hW1
      refine (HF.out _).mono ?_
      rintro e w2 ⟨rfl, hb2⟩
      have HB2 := Lib.hid (below_step HB1.out hb2)
      have HG2 := Lib.hid (obj_kept hb2 HG1.out)
      have HI2 := Lib.hid (SlcAt.mono HI1.out hb2)
      have HS2 := Lib.hid (IntsAt.mono hb2 HS1.out)
      clear hb2
      have q2 := Lib.cell_of_heap HG2.out 2
      have q3 := Lib.cell_of_heap HG2.out 3
      go_wp2_with fail
      refine (HF.out _).mono ?_
      rintro e w3 ⟨rfl, hb3⟩
      have HB3 := Lib.hid (below_step HB2.out hb3)
      clear hb3
      go_wp2
      go_ret
      exact ⟨rfl, HB3.out⟩
    · have g2 : ¬ ((50 : Int) < (m : Int)) := by omega
      by_cases h3 : m < 2
      · have g3 : (m : Int) < 2 := by omega
        go_enter Try.func5, Try.ntmps5
        go_wp2_with fail
        rw [← hW1]
        clear hW1
        refine (HF.out _).mono ?_
        rintro e w2 ⟨rfl, hb2⟩
        have HB2 := Lib.hid (below_step HB1.out hb2)
        have HG2 := Lib.hid (obj_kept hb2 HG1.out)
        have HI2 := Lib.hid (SlcAt.mono HI1.out hb2)
        have HS2 := Lib.hid (IntsAt.mono hb2 HS1.out)
        clear hb2
        have q2 := Lib.cell_of_heap HG2.out 2
        have q3 := Lib.cell_of_heap HG2.out 3
        go_wp2_with fail
        refine (HF.out _).mono ?_
        rintro e w3 ⟨rfl, hb3⟩
        have HB3 := Lib.hid (below_step HB2.out hb3)
        clear hb3
        go_wp2
        go_ret
        exact ⟨rfl, HB3.out⟩
      · have g3 : ¬ ((m : Int) < 2) := by omega
        have hlen : l.length ≤ 2000 := by rw [← Hn.out]; omega
        have HT := Lib.hid (fun w (h : ItsAt w (.slice p n cp) l) (hb : IntsAt .i64 w (.slice pb m cb) bs) => demTotal_any (.slice p n cp) (.slice pb m cb) l bs xw xt w h hlen hb)
        cases hr : It.total l bs xw xt with
        | none =>
          rw [hr] at HT
          unfold tolV at HT
          go_enter Try.func5, Try.ntmps5
          go_wp2_with fail
          rw [← hW1]
          clear hW1
          refine (HF.out _).mono ?_
          rintro e w2 ⟨rfl, hb2⟩
          have HB2 := Lib.hid (below_step HB1.out hb2)
          have HG2 := Lib.hid (obj_kept hb2 HG1.out)
          have HI2 := Lib.hid (SlcAt.mono HI1.out hb2)
          have HS2 := Lib.hid (IntsAt.mono hb2 HS1.out)
          clear hb2
          have q2 := Lib.cell_of_heap HG2.out 2
          have q3 := Lib.cell_of_heap HG2.out 3
          go_wp2_with fail
          refine (HT.out _ HI2.out HS2.out).mono ?_
          rintro e w3 ⟨rfl, hb3⟩
          have HB3 := Lib.hid (below_step HB2.out hb3)
          clear hb3
          go_wp2
          go_ret
          exact ⟨rfl, HB3.out⟩
        | some t =>
          rw [hr] at HT
          unfold tolV at HT
          simp only [] at HT
          obtain ⟨N, hN⟩ : ∃ N, m = N + 2 := ⟨m - 2, by omega⟩
          subst hN
          obtain ⟨a, ha⟩ : ∃ a, bs[N]? = some a := ⟨_, List.getElem?_eq_getElem (by rw [← Hm.out]; omega)⟩
          obtain ⟨b, hb⟩ : ∃ b, bs[N + 1]? = some b := ⟨_, List.getElem?_eq_getElem (by rw [← Hm.out]; omega)⟩
          obtain ⟨tl1, tl2⟩ := two_last Hm.out.symm ha hb
          rw [tl1] at hr
          obtain ⟨hk0, hkn, u, d, c, q, hu, hd, hst⟩ := It.total_parts hr
          rw [← tl2] at hu
          obtain ⟨k, hk⟩ : ∃ k : Nat, a = (k : Int) := ⟨a.toNat, by omega⟩
          subst hk
          rw [Int.toNat_natCast] at hu
          have htl : (l.take (k + 1)).length = k + 1 := by rw [List.length_take]; omega
          have HT2 := Lib.hid (fun w (h : ItsAt w (.slice p (k + 1) cp) (l.take (k + 1))) (hb : IntsAt .i64 w (.slice pb (N + 1) cb) (bs.take (N + 1))) => demTotal_any (.slice p (k + 1) cp) (.slice pb (N + 1) cb) (l.take (k + 1)) (bs.take (N + 1)) xw xt w h (by rw [htl]; omega) hb)
          have HCo := Lib.hid (fun w (h : ItsAt w (.slice p n cp) l) => cost_any (.slice p n cp) l (k : Int) b xw xt w h hlen)
          rw [hu] at HT2
          rw [hd] at HCo
          unfold tolV at HT2
          unfold costV at HCo
          simp only [] at HT2 HCo
          have Hst := Lib.hid hst
          have Hkn := Lib.hid (show k < l.length by omega)
          rw [← Hn.out] at hkn
          have k0 : (0 : Int) ≤ (k : Int) := by omega
          have kw : wrap64 ((k : Int) + 1) = (k : Int) + 1 := w64 (by omega) (by omega)
          have hs1 : ∀ wx, (Instr.slice 22 (.slice p n cp) none (some (.int .i64 ((k : Int) + 1))) none).run Try.prog wx = .ok (.slice p (k + 1) cp) wx := fun wx => run_head9 p n (k + 1) cp (by have := Hcap.out; omega) wx
          have hs2 : ∀ wx, (Instr.sliceAt 22 (.slice p n cp) none (some (.int .i64 ((k : Int) + 1))) none).run Try.prog wx = .ok (.slice p (k + 1) cp) wx := fun wx => by rw [run_sliceAt_slice (h := by rw [elemIt]; exact Try.underlying22)]; exact hs1 wx
          have hs3 : ∀ wx, (Instr.slice 23 (.slice pb (N + 2) cb) none (some (.int .i64 ((N : Int) + 1))) none).run Try.prog wx = .ok (.slice pb (N + 1) cb) wx := fun wx => run_headI10 pb (N + 2) (N + 1) cb (by have := Hcb.out; omega) wx
          have hs4 : ∀ wx, (Instr.sliceAt 23 (.slice pb (N + 2) cb) none (some (.int .i64 ((N : Int) + 1))) none).run Try.prog wx = .ok (.slice pb (N + 1) cb) wx := fun wx => by rw [run_sliceAt_slice (h := by rw [elemI10]; exact Try.underlying23)]; exact hs3 wx
          have N0 : (0 : Int) ≤ (N : Int) := by omega
          have N50 : (N : Int) ≤ 48 := by omega
          obtain ⟨b1, o1, d1, e1, r1⟩ := HS1.out.2.2 (by rw [← Hm.out]; omega)
          rw [← Hm.out] at e1
          obtain ⟨rfl, rfl⟩ : pb = some ⟨b1, o1, none⟩ ∧ cb = d1 := by injection e1 with a1 a2 a3; exact ⟨a1, a3⟩
          have Hr1 := Lib.hid r1
          have Ha := Lib.hid ha
          have Hb := Lib.hid hb
          clear e1 r1 ha hb tl1 tl2 hr hu hd hst htl hlen
          go_enter Try.func5, Try.ntmps5
          go_wp2_with fail
          rw [← hW1]
          clear hW1
          refine (HF.out _).mono ?_
          rintro e w2 ⟨rfl, hb2⟩
          have HB2 := Lib.hid (below_step HB1.out hb2)
          have HG2 := Lib.hid (obj_kept hb2 HG1.out)
          have HI2 := Lib.hid (SlcAt.mono HI1.out hb2)
          have HS2 := Lib.hid (IntsAt.mono hb2 HS1.out)
          clear hb2
          have q2 := Lib.cell_of_heap HG2.out 2
          have q3 := Lib.cell_of_heap HG2.out 3
          have z0 : w2.cell? ⟨b1, o1 + N, none⟩ = some (.int .i64 (k : Int)) := by
            obtain ⟨b2, o2, d2, e2, r2⟩ := HS2.out.2.2 (by rw [← Hm.out]; omega)
            rw [← Hm.out] at e2
            injection e2 with e2 e3 e4
            injection e2 with e2
            injection e2 with e2 e5
            subst e2 e5
            exact r2 N _ Ha.out
          clear z0
          go_wp2_with fail
          refine (HT.out _ HI2.out HS2.out).mono ?_
          rintro e w3 ⟨rfl, hb3⟩
          have HB3 := Lib.hid (below_step HB2.out hb3)
          have HG3 := Lib.hid (obj_kept hb3 HG2.out)
          have HI3 := Lib.hid (SlcAt.mono HI2.out hb3)
          have HS3 := Lib.hid (IntsAt.mono hb3 HS2.out)
          clear hb3 q2 q3
          have hz3 : w3.cell? ⟨b1, o1 + N, none⟩ = some (.int .i64 (k : Int)) ∧ w3.cell? ⟨b1, o1 + (N + 1), none⟩ = some (.int .i64 b) := by
            obtain ⟨b2, o2, d2, e2, r2⟩ := HS3.out.2.2 (by rw [← Hm.out]; omega)
            rw [← Hm.out] at e2
            injection e2 with e2 e3 e4
            injection e2 with e2
            injection e2 with e2 e5
            subst e2 e5
            exact ⟨r2 N _ Ha.out, r2 (N + 1) _ Hb.out⟩
          obtain ⟨z0, z1⟩ := hz3
          have q2 := Lib.cell_of_heap HG3.out 2
          have q3 := Lib.cell_of_heap HG3.out 3
          have HHd : Hid (ItsAt w3 (.slice p (k + 1) cp) (l.take (k + 1))) := Lib.hid (by
            have h := HI3.out
            rw [Hn.out] at h
            exact slc_head h (k + 1) Hkn.out)
          have HHb : Hid (IntsAt .i64 w3 (.slice (some ⟨b1, o1, none⟩) (N + 1) cb) (bs.take (N + 1))) := Lib.hid (ints_head (Hm.out) HS3.out (N + 1) (by omega))
          have kl : (k : Int) < (n : Int) := by omega
          go_upto_region 10 with fail
          have HD3 := Lib.hid (below_drew10 w3)
          have HHdD := Lib.hid (SlcAt.mono HHd.out HD3.out)
          have HHbD := Lib.hid (IntsAt.mono HD3.out HHb.out)
          have n1w : wrap64 ((N : Int) + 1) = (N : Int) + 1 := w64 (by omega) (by omega)
          have hi2 : IntKind.i64.wrap ((N : Int) + 2 - 1) = (N : Int) + 1 := by rw [show (N : Int) + 2 - 1 = (N : Int) + 1 by omega]; exact IntWalk.i64_in _ (by omega)
          have hi1 : IntKind.i64.wrap ((k : Int) + 1) = (k : Int) + 1 := IntWalk.i64_in _ (by omega)
          go_region_held3 (fun w' => w'.cell? ⟨w.heap.size, 2, none⟩ = some (.int .i64 xw) ∧ w'.cell? ⟨w.heap.size, 3, none⟩ = some (.int .i64 xt)) (first | go_keep | exact ⟨cell_below HX.out q2, cell_below HX.out q3⟩) (((with_reducible refine (HT2.out _ HHdD.out HHbD.out).mono ?_); rintro e w4 ⟨rfl, hb4⟩; have HX := Lib.hid (below_step HD3.out hb4); have HB4 := Lib.hid (below_step HB3.out HX.out); have HG4 := Lib.hid (obj_kept HX.out HG3.out); have HI4 := Lib.hid (SlcAt.mono HI3.out HX.out); have HS4 := Lib.hid (IntsAt.mono HX.out HS3.out); clear hb4))
          have HD4 := Lib.hid (below_drew10 w4)
          have HI4D := Lib.hid (SlcAt.mono HI4.out HD4.out)
          have z1' := cell_below HX.out z1
          have q2' := Lib.cell_of_heap HG4.out 2
          have q3' := Lib.cell_of_heap HG4.out 3
          clear z0 z1 q2 q3
          have N1l : (N : Int) + 1 < (N : Int) + 2 := by omega
          have N10 : (0 : Int) ≤ (N : Int) + 1 := by omega
          have N1t : ((N : Int) + 1).toNat = N + 1 := by omega
          go_upto_region 11 with fail
          go_region_held3 (fun w' => w'.cell? ⟨w.heap.size, 2, none⟩ = some (.int .i64 xw) ∧ w'.cell? ⟨w.heap.size, 3, none⟩ = some (.int .i64 xt) ∧ w'.cell? ⟨b1, o1 + (N + 1), none⟩ = some (.int .i64 b)) (first | go_keep | exact ⟨cell_below HX5.out q2', cell_below HX5.out q3', cell_below HX5.out z1'⟩) (((with_reducible refine (HCo.out _ HI4D.out).mono ?_); rintro e w5 ⟨rfl, hb5⟩; have HX5 := Lib.hid (below_step HD4.out hb5); have HB5 := Lib.hid (below_step HB4.out HX5.out); clear hb5))
          obtain ⟨D, hD⟩ : ∃ D, D = It.wr (u + d) := ⟨_, rfl⟩
          obtain ⟨E, hE⟩ : ∃ E, E = It.wr (D + 10000) := ⟨_, rfl⟩
          have hDz : IntKind.i64.wrap (u + d) = D := hD.symm
          have hEz : IntKind.i64.wrap (D + 10000) = E := hE.symm
          have hor : t = D ∨ t = E := by
            have := It.stepT_two u d q
            rw [← Hst.out, ← hD, ← hE] at this
            exact this
          clear hD hE
          by_cases htD : t = D
          · subst htD
            go_wp2
            go_ret
            exact ⟨rfl, HB5.out⟩
          · obtain rfl : t = E := by
              rcases hor with h | h
              · exact absurd h htD
              · exact h
            have htb : (t == D) = false := by simp [htD]
            go_wp2
            go_ret
            exact ⟨rfl, HB5.out⟩
end Go.Proofs.Ytlgaddkpfkjfmaa
