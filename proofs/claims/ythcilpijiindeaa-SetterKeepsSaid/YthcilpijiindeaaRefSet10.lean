/-
  The reference's Set: how a list of glue is set to a width.
-/
import Derived.Test.YthcilpijiindeaaRefTot10
set_option linter.unusedVariables false
set_option linter.unusedSimpArgs false
namespace Go.Proofs.Ythcilpijiindeaa
open Go.RowKit

set_option maxHeartbeats 8000000 in
set_option maxRecDepth 100000 in
theorem refSet_any (v : Value) (l : List It.Gl) (t : Int) (w : World) (h : GlsAt w v l) : Calls Try.prog 36 #[v, .int .i64 t] w (Ret (setV (It.setOf l t)) w) := by
  obtain ⟨r, hr⟩ : ∃ r, r = It.setOf l t := ⟨_, rfl⟩
  have HQ := Lib.hid hr
  rw [← hr]
  clear hr
  obtain ⟨W1, hW1⟩ : ∃ W1, W1 = (w.alloc (.cells #[.int .i64 0, .int .i64 0, .int .i64 0, .int .i64 0] 56)).alloc (.cells #[.int .i64 0, .int .i64 0, .int .i64 0, .int .i64 0] 56) := ⟨_, rfl⟩
  have b1 := below_alloc w (.cells #[.int .i64 0, .int .i64 0, .int .i64 0, .int .i64 0] 56)
  have b2 := below_alloc (w.alloc (.cells #[.int .i64 0, .int .i64 0, .int .i64 0, .int .i64 0] 56)) (.cells #[.int .i64 0, .int .i64 0, .int .i64 0, .int .i64 0] 56)
  have HR1 := Lib.hid (obj_kept b2 (obj_new w _ rfl #[.int .i64 0, .int .i64 0, .int .i64 0, .int .i64 0] 56))
  have HN1 := Lib.hid (obj_new (w.alloc (.cells #[.int .i64 0, .int .i64 0, .int .i64 0, .int .i64 0] 56)) (w.heap.size + 1) (World.size_alloc _ _) #[.int .i64 0, .int .i64 0, .int .i64 0, .int .i64 0] 56)
  have HB1 := Lib.hid (below_step b1 b2)
  rw [← hW1] at HR1 HN1 HB1
  have HT := Lib.hid (refTotal_any v l W1 (h.mono HB1.out))
  clear h b1 b2
  unfold totV at HT
  cases hq : It.glMay l with
  | false =>
    have HE : Hid (r = none) := Lib.hid (HQ.out.trans (set_none hq))
    rw [hq] at HT
    simp only [Bool.false_eq_true, if_false] at HT
    unfold zeroS at HT
    have HSb := Lib.hid (fun w => refSub_any t 0 w (by decide))
    generalize subV t 0 = d at HSb
    generalize subB t 0 = u at HSb
    go_enter Try.func36, Try.ntmps36
    go_wp2_with fail
    rw [← hW1]
    clear hW1
    refine HT.out.mono ?_
    rintro e w2 ⟨rfl, hb2⟩
    have HR2 := Lib.hid (obj_kept hb2 HR1.out)
    have HN2 := Lib.hid (obj_kept hb2 HN1.out)
    have HB2 := Lib.hid (below_step HB1.out hb2)
    clear hb2
    obtain ⟨W3, hW3⟩ : ∃ W, W = w2.alloc (.cells #[.int .i64 0, .int .i64 0, .int .i64 0, .int .i64 0, .int .i64 0, .int .i64 0] 87) := ⟨_, rfl⟩
    have hb3 := below_alloc w2 (.cells #[.int .i64 0, .int .i64 0, .int .i64 0, .int .i64 0, .int .i64 0, .int .i64 0] 87)
    have HS3 := Lib.hid (obj_new w2 _ rfl #[.int .i64 0, .int .i64 0, .int .i64 0, .int .i64 0, .int .i64 0, .int .i64 0] 87)
    rw [← hW3] at hb3 HS3
    have HR3 := Lib.hid (obj_kept hb3 HR2.out)
    have HN3 := Lib.hid (obj_kept hb3 HN2.out)
    have HB3 := Lib.hid (below_step HB2.out hb3)
    clear hb3
    obtain ⟨Q, hQ⟩ : ∃ Q, Q = w2.heap.size := ⟨_, rfl⟩
    rw [← hQ] at HS3
    have s0 := Lib.cell_of_heap HS3.out 0
    go_upto_region 3 with fail
    rw [← hW3, ← hQ]
    clear hW3 hQ
    go_wp2_with fail
    refine (HSb.out _).mono ?_
    rintro e w4 ⟨rfl, rfl⟩
    clear s0
    have n0 := Lib.cell_of_heap HN3.out 0
    have n1 := Lib.cell_of_heap HN3.out 1
    have n2 := Lib.cell_of_heap HN3.out 2
    have n3 := Lib.cell_of_heap HN3.out 3
    have H4 := Lib.hid (four_set HR3.out rfl (.int .i64 0) (.int .i64 0) (.int .i64 0) (.int .i64 0))
    have HBx := Lib.hid (below_four HB3.out (Nat.le_refl _) (.int .i64 0) (.int .i64 0) (.int .i64 0) (.int .i64 0))
    have cz0 := Lib.cell_of_heap HR3.out 0
    have cz1 := Lib.cell_of_heap HR3.out 1
    have cz2 := Lib.cell_of_heap HR3.out 2
    have cz3 := Lib.cell_of_heap HR3.out 3
    have fz0 := Lib.frozen_of_heap HR3.out 0
    have fz1 := Lib.frozen_of_heap HR3.out 1
    have fz2 := Lib.frozen_of_heap HR3.out 2
    have fz3 := Lib.frozen_of_heap HR3.out 3
    go_wp2
    obtain ⟨WX, hWX⟩ : ∃ WX, WX = ((((W3.setCell ⟨w.heap.size, 0, none⟩ (.int .i64 0)).setCell ⟨w.heap.size, 1, none⟩ (.int .i64 0)).setCell ⟨w.heap.size, 2, none⟩ (.int .i64 0)).setCell ⟨w.heap.size, 3, none⟩ (.int .i64 0)) := ⟨_, rfl⟩
    rw [← hWX] at H4 HBx ⊢
    clear hWX
    have q0 := Lib.cell_of_heap H4.out 0
    have q1 := Lib.cell_of_heap H4.out 1
    have q2 := Lib.cell_of_heap H4.out 2
    have q3 := Lib.cell_of_heap H4.out 3
    exact bodyPost_ret (v := .tuple #[.agg #[.int .i64 0, .int .i64 0, .int .i64 0, .int .i64 0], .bool false]) (by simp [results, Try.results36, go_sem, q0, q1, q2, q3]) rfl ⟨by rw [HE.out]; rfl, HBx.out⟩
  | true =>
    rw [hq] at HT
    simp only [if_true] at HT
    unfold sumC at HT
    have HSb := Lib.hid (fun w => refSub_any t (It.sumW l) w (It.sumW_fits hq))
    cases hs : subB t (It.sumW l) with
    | false =>
      have HE : Hid (r = none) := Lib.hid (HQ.out.trans (set_off hq hs))
      rw [hs] at HSb
      generalize subV t (It.sumW l) = d at HSb
      go_enter Try.func36, Try.ntmps36
      go_wp2_with fail
      rw [← hW1]
      clear hW1
      refine HT.out.mono ?_
      rintro e w2 ⟨rfl, hb2⟩
      have HR2 := Lib.hid (obj_kept hb2 HR1.out)
      have HN2 := Lib.hid (obj_kept hb2 HN1.out)
      have HB2 := Lib.hid (below_step HB1.out hb2)
      clear hb2
      obtain ⟨W3, hW3⟩ : ∃ W, W = w2.alloc (.cells #[.int .i64 (It.sumW l), .int .i64 (It.sumK l), .int .i64 (It.sumO 0 l), .int .i64 (It.sumO 1 l), .int .i64 (It.sumO 2 l), .int .i64 (It.sumO 3 l)] 87) := ⟨_, rfl⟩
      have hb3 := below_alloc w2 (.cells #[.int .i64 (It.sumW l), .int .i64 (It.sumK l), .int .i64 (It.sumO 0 l), .int .i64 (It.sumO 1 l), .int .i64 (It.sumO 2 l), .int .i64 (It.sumO 3 l)] 87)
      have HS3 := Lib.hid (obj_new w2 _ rfl #[.int .i64 (It.sumW l), .int .i64 (It.sumK l), .int .i64 (It.sumO 0 l), .int .i64 (It.sumO 1 l), .int .i64 (It.sumO 2 l), .int .i64 (It.sumO 3 l)] 87)
      rw [← hW3] at hb3 HS3
      have HR3 := Lib.hid (obj_kept hb3 HR2.out)
      have HN3 := Lib.hid (obj_kept hb3 HN2.out)
      have HB3 := Lib.hid (below_step HB2.out hb3)
      clear hb3
      obtain ⟨Q, hQ⟩ : ∃ Q, Q = w2.heap.size := ⟨_, rfl⟩
      rw [← hQ] at HS3
      have s0 := Lib.cell_of_heap HS3.out 0
      go_upto_region 3 with fail
      rw [← hW3, ← hQ]
      clear hW3 hQ
      go_wp2_with fail
      refine (HSb.out _).mono ?_
      rintro e w4 ⟨rfl, rfl⟩
      clear s0
      have n0 := Lib.cell_of_heap HN3.out 0
      have n1 := Lib.cell_of_heap HN3.out 1
      have n2 := Lib.cell_of_heap HN3.out 2
      have n3 := Lib.cell_of_heap HN3.out 3
      have H4 := Lib.hid (four_set HR3.out rfl (.int .i64 0) (.int .i64 0) (.int .i64 0) (.int .i64 0))
      have HBx := Lib.hid (below_four HB3.out (Nat.le_refl _) (.int .i64 0) (.int .i64 0) (.int .i64 0) (.int .i64 0))
      have cz0 := Lib.cell_of_heap HR3.out 0
      have cz1 := Lib.cell_of_heap HR3.out 1
      have cz2 := Lib.cell_of_heap HR3.out 2
      have cz3 := Lib.cell_of_heap HR3.out 3
      have fz0 := Lib.frozen_of_heap HR3.out 0
      have fz1 := Lib.frozen_of_heap HR3.out 1
      have fz2 := Lib.frozen_of_heap HR3.out 2
      have fz3 := Lib.frozen_of_heap HR3.out 3
      go_wp2
      obtain ⟨WX, hWX⟩ : ∃ WX, WX = ((((W3.setCell ⟨w.heap.size, 0, none⟩ (.int .i64 0)).setCell ⟨w.heap.size, 1, none⟩ (.int .i64 0)).setCell ⟨w.heap.size, 2, none⟩ (.int .i64 0)).setCell ⟨w.heap.size, 3, none⟩ (.int .i64 0)) := ⟨_, rfl⟩
      rw [← hWX] at H4 HBx ⊢
      clear hWX
      have q0 := Lib.cell_of_heap H4.out 0
      have q1 := Lib.cell_of_heap H4.out 1
      have q2 := Lib.cell_of_heap H4.out 2
      have q3 := Lib.cell_of_heap H4.out 3
      exact bodyPost_ret (v := .tuple #[.agg #[.int .i64 0, .int .i64 0, .int .i64 0, .int .i64 0], .bool false]) (by simp [results, Try.results36, go_sem, q0, q1, q2, q3]) rfl ⟨by rw [HE.out]; rfl, HBx.out⟩
    | true =>
      obtain ⟨hs1, hs2, hs3, hs4⟩ := set_on hq hs
      have HE0 := Lib.hid (HQ.out.trans hs1)
      have hk := It.sumK_nonneg hq
      have ho0 := It.sumO_nonneg hq 0
      have ho1 := It.sumO_nonneg hq 1
      have ho2 := It.sumO_nonneg hq 2
      have ho3 := It.sumO_nonneg hq 3
      have HEs : Hid (It.setE l (t - It.sumW l) = if 0 < t - It.sumW l then It.strE (t - It.sumW l) (It.sumO 0 l) (It.sumO 1 l) (It.sumO 2 l) (It.sumO 3 l) else if t - It.sumW l < 0 then It.shrE (t - It.sumW l) (It.sumK l) else ⟨0, 0, 0, 0⟩) := Lib.hid rfl
      rw [hs, hs2] at HSb
      obtain ⟨x, hx⟩ : ∃ x, x = t - It.sumW l := ⟨_, rfl⟩
      rw [← hx] at HSb hs3 hs4 HE0 HEs
      rw [HEs.out] at HE0
      clear HEs hs1 hs2 hx
      by_cases hz : x = 0
      · have HE : Hid (r = some ⟨0, 0, 0, 0⟩) := Lib.hid (by rw [HE0.out, if_neg (by omega), if_neg (by omega)])
        subst hz
        go_enter Try.func36, Try.ntmps36
        go_wp2_with fail
        rw [← hW1]
        clear hW1
        refine HT.out.mono ?_
        rintro e w2 ⟨rfl, hb2⟩
        have HR2 := Lib.hid (obj_kept hb2 HR1.out)
        have HN2 := Lib.hid (obj_kept hb2 HN1.out)
        have HB2 := Lib.hid (below_step HB1.out hb2)
        clear hb2
        obtain ⟨W3, hW3⟩ : ∃ W, W = w2.alloc (.cells #[.int .i64 (It.sumW l), .int .i64 (It.sumK l), .int .i64 (It.sumO 0 l), .int .i64 (It.sumO 1 l), .int .i64 (It.sumO 2 l), .int .i64 (It.sumO 3 l)] 87) := ⟨_, rfl⟩
        have hb3 := below_alloc w2 (.cells #[.int .i64 (It.sumW l), .int .i64 (It.sumK l), .int .i64 (It.sumO 0 l), .int .i64 (It.sumO 1 l), .int .i64 (It.sumO 2 l), .int .i64 (It.sumO 3 l)] 87)
        have HS3 := Lib.hid (obj_new w2 _ rfl #[.int .i64 (It.sumW l), .int .i64 (It.sumK l), .int .i64 (It.sumO 0 l), .int .i64 (It.sumO 1 l), .int .i64 (It.sumO 2 l), .int .i64 (It.sumO 3 l)] 87)
        rw [← hW3] at hb3 HS3
        have HR3 := Lib.hid (obj_kept hb3 HR2.out)
        have HN3 := Lib.hid (obj_kept hb3 HN2.out)
        have HB3 := Lib.hid (below_step HB2.out hb3)
        clear hb3
        obtain ⟨Q, hQ⟩ : ∃ Q, Q = w2.heap.size := ⟨_, rfl⟩
        rw [← hQ] at HS3
        have s0 := Lib.cell_of_heap HS3.out 0
        go_upto_region 3 with fail
        rw [← hW3, ← hQ]
        clear hW3 hQ
        go_wp2_with fail
        refine (HSb.out _).mono ?_
        rintro e w4 ⟨rfl, rfl⟩
        clear s0
        have n0 := Lib.cell_of_heap HN3.out 0
        have n1 := Lib.cell_of_heap HN3.out 1
        have n2 := Lib.cell_of_heap HN3.out 2
        have n3 := Lib.cell_of_heap HN3.out 3
        have H4 := Lib.hid (four_set HR3.out rfl (.int .i64 0) (.int .i64 0) (.int .i64 0) (.int .i64 0))
        have HBx := Lib.hid (below_four HB3.out (Nat.le_refl _) (.int .i64 0) (.int .i64 0) (.int .i64 0) (.int .i64 0))
        have cz0 := Lib.cell_of_heap HR3.out 0
        have cz1 := Lib.cell_of_heap HR3.out 1
        have cz2 := Lib.cell_of_heap HR3.out 2
        have cz3 := Lib.cell_of_heap HR3.out 3
        have fz0 := Lib.frozen_of_heap HR3.out 0
        have fz1 := Lib.frozen_of_heap HR3.out 1
        have fz2 := Lib.frozen_of_heap HR3.out 2
        have fz3 := Lib.frozen_of_heap HR3.out 3
        go_wp2
        obtain ⟨WX, hWX⟩ : ∃ WX, WX = ((((W3.setCell ⟨w.heap.size, 0, none⟩ (.int .i64 0)).setCell ⟨w.heap.size, 1, none⟩ (.int .i64 0)).setCell ⟨w.heap.size, 2, none⟩ (.int .i64 0)).setCell ⟨w.heap.size, 3, none⟩ (.int .i64 0)) := ⟨_, rfl⟩
        rw [← hWX] at H4 HBx ⊢
        clear hWX
        have q0 := Lib.cell_of_heap H4.out 0
        have q1 := Lib.cell_of_heap H4.out 1
        have q2 := Lib.cell_of_heap H4.out 2
        have q3 := Lib.cell_of_heap H4.out 3
        exact bodyPost_ret (v := .tuple #[.agg #[.int .i64 0, .int .i64 0, .int .i64 0, .int .i64 0], .bool true]) (by simp [results, Try.results36, go_sem, q0, q1, q2, q3]) rfl ⟨by rw [HE.out]; rfl, HBx.out⟩
      · by_cases h1 : x < 0
        · have HE1 : Hid (r = some (It.shrE x (It.sumK l))) := Lib.hid (by rw [HE0.out, if_neg (by omega), if_pos h1])
          have HBd := Lib.hid (fun w => refBadness_any (-x) (It.sumK l) (by omega) (by omega) hk.1 hk.2 w)
          have hneg : IntKind.i64.wrap (-x) = -x := It.wr_in (by omega) (by omega)
          by_cases hle : -x ≤ It.sumK l
          · have HE : Hid (r = some ⟨-1, 0, x, It.bdn (-x) (It.sumK l)⟩) := Lib.hid (by rw [HE1.out]; unfold It.shrE; rw [if_pos hle])
            generalize It.bdn (-x) (It.sumK l) = bd at HBd HE
            have hnl : ¬ (It.sumK l < -x) := by omega
            go_enter Try.func36, Try.ntmps36
            go_wp2_with fail
            rw [← hW1]
            clear hW1
            refine HT.out.mono ?_
            rintro e w2 ⟨rfl, hb2⟩
            have HR2 := Lib.hid (obj_kept hb2 HR1.out)
            have HN2 := Lib.hid (obj_kept hb2 HN1.out)
            have HB2 := Lib.hid (below_step HB1.out hb2)
            clear hb2
            obtain ⟨W3, hW3⟩ : ∃ W, W = w2.alloc (.cells #[.int .i64 (It.sumW l), .int .i64 (It.sumK l), .int .i64 (It.sumO 0 l), .int .i64 (It.sumO 1 l), .int .i64 (It.sumO 2 l), .int .i64 (It.sumO 3 l)] 87) := ⟨_, rfl⟩
            have hb3 := below_alloc w2 (.cells #[.int .i64 (It.sumW l), .int .i64 (It.sumK l), .int .i64 (It.sumO 0 l), .int .i64 (It.sumO 1 l), .int .i64 (It.sumO 2 l), .int .i64 (It.sumO 3 l)] 87)
            have HS3 := Lib.hid (obj_new w2 _ rfl #[.int .i64 (It.sumW l), .int .i64 (It.sumK l), .int .i64 (It.sumO 0 l), .int .i64 (It.sumO 1 l), .int .i64 (It.sumO 2 l), .int .i64 (It.sumO 3 l)] 87)
            rw [← hW3] at hb3 HS3
            have HR3 := Lib.hid (obj_kept hb3 HR2.out)
            have HN3 := Lib.hid (obj_kept hb3 HN2.out)
            have HB3 := Lib.hid (below_step HB2.out hb3)
            clear hb3
            obtain ⟨Q, hQ⟩ : ∃ Q, Q = w2.heap.size := ⟨_, rfl⟩
            rw [← hQ] at HS3
            have s0 := Lib.cell_of_heap HS3.out 0
            go_upto_region 3 with fail
            rw [← hW3, ← hQ]
            clear hW3 hQ
            go_wp2_with fail
            refine (HSb.out _).mono ?_
            rintro e w4 ⟨rfl, rfl⟩
            clear s0
            have s1 := Lib.cell_of_heap HS3.out 1
            go_wp2_with fail
            refine (HBd.out _).mono ?_
            rintro e w5 ⟨rfl, rfl⟩
            have H4 := Lib.hid (four_set HR3.out rfl (.int .i64 (-1)) (.int .i64 0) (.int .i64 x) (.int .i64 bd))
            have HBx := Lib.hid (below_four HB3.out (Nat.le_refl _) (.int .i64 (-1)) (.int .i64 0) (.int .i64 x) (.int .i64 bd))
            have cz0 := Lib.cell_of_heap HR3.out 0
            have cz1 := Lib.cell_of_heap HR3.out 1
            have cz2 := Lib.cell_of_heap HR3.out 2
            have cz3 := Lib.cell_of_heap HR3.out 3
            have fz0 := Lib.frozen_of_heap HR3.out 0
            have fz1 := Lib.frozen_of_heap HR3.out 1
            have fz2 := Lib.frozen_of_heap HR3.out 2
            have fz3 := Lib.frozen_of_heap HR3.out 3
            go_wp2
            obtain ⟨WX, hWX⟩ : ∃ WX, WX = ((((W3.setCell ⟨w.heap.size, 0, none⟩ (.int .i64 (-1))).setCell ⟨w.heap.size, 1, none⟩ (.int .i64 0)).setCell ⟨w.heap.size, 2, none⟩ (.int .i64 x)).setCell ⟨w.heap.size, 3, none⟩ (.int .i64 bd)) := ⟨_, rfl⟩
            rw [← hWX] at H4 HBx ⊢
            clear hWX
            have q0 := Lib.cell_of_heap H4.out 0
            have q1 := Lib.cell_of_heap H4.out 1
            have q2 := Lib.cell_of_heap H4.out 2
            have q3 := Lib.cell_of_heap H4.out 3
            exact bodyPost_ret (v := .tuple #[.agg #[.int .i64 (-1), .int .i64 0, .int .i64 x, .int .i64 bd], .bool true]) (by simp [results, Try.results36, go_sem, q0, q1, q2, q3]) rfl ⟨by rw [HE.out]; rfl, HBx.out⟩
          · have HE : Hid (r = some ⟨-1, 0, x, 1000000⟩) := Lib.hid (by rw [HE1.out]; unfold It.shrE; rw [if_neg hle])
            generalize It.bdn (-x) (It.sumK l) = bd at HBd
            have hnl : It.sumK l < -x := by omega
            go_enter Try.func36, Try.ntmps36
            go_wp2_with fail
            rw [← hW1]
            clear hW1
            refine HT.out.mono ?_
            rintro e w2 ⟨rfl, hb2⟩
            have HR2 := Lib.hid (obj_kept hb2 HR1.out)
            have HN2 := Lib.hid (obj_kept hb2 HN1.out)
            have HB2 := Lib.hid (below_step HB1.out hb2)
            clear hb2
            obtain ⟨W3, hW3⟩ : ∃ W, W = w2.alloc (.cells #[.int .i64 (It.sumW l), .int .i64 (It.sumK l), .int .i64 (It.sumO 0 l), .int .i64 (It.sumO 1 l), .int .i64 (It.sumO 2 l), .int .i64 (It.sumO 3 l)] 87) := ⟨_, rfl⟩
            have hb3 := below_alloc w2 (.cells #[.int .i64 (It.sumW l), .int .i64 (It.sumK l), .int .i64 (It.sumO 0 l), .int .i64 (It.sumO 1 l), .int .i64 (It.sumO 2 l), .int .i64 (It.sumO 3 l)] 87)
            have HS3 := Lib.hid (obj_new w2 _ rfl #[.int .i64 (It.sumW l), .int .i64 (It.sumK l), .int .i64 (It.sumO 0 l), .int .i64 (It.sumO 1 l), .int .i64 (It.sumO 2 l), .int .i64 (It.sumO 3 l)] 87)
            rw [← hW3] at hb3 HS3
            have HR3 := Lib.hid (obj_kept hb3 HR2.out)
            have HN3 := Lib.hid (obj_kept hb3 HN2.out)
            have HB3 := Lib.hid (below_step HB2.out hb3)
            clear hb3
            obtain ⟨Q, hQ⟩ : ∃ Q, Q = w2.heap.size := ⟨_, rfl⟩
            rw [← hQ] at HS3
            have s0 := Lib.cell_of_heap HS3.out 0
            go_upto_region 3 with fail
            rw [← hW3, ← hQ]
            clear hW3 hQ
            go_wp2_with fail
            refine (HSb.out _).mono ?_
            rintro e w4 ⟨rfl, rfl⟩
            clear s0
            have s1 := Lib.cell_of_heap HS3.out 1
            go_wp2_with fail
            refine (HBd.out _).mono ?_
            rintro e w5 ⟨rfl, rfl⟩
            have H4 := Lib.hid (four_set HR3.out rfl (.int .i64 (-1)) (.int .i64 0) (.int .i64 x) (.int .i64 1000000))
            have HBx := Lib.hid (below_four HB3.out (Nat.le_refl _) (.int .i64 (-1)) (.int .i64 0) (.int .i64 x) (.int .i64 1000000))
            have cz0 := Lib.cell_of_heap HR3.out 0
            have cz1 := Lib.cell_of_heap HR3.out 1
            have cz2 := Lib.cell_of_heap HR3.out 2
            have cz3 := Lib.cell_of_heap HR3.out 3
            have fz0 := Lib.frozen_of_heap HR3.out 0
            have fz1 := Lib.frozen_of_heap HR3.out 1
            have fz2 := Lib.frozen_of_heap HR3.out 2
            have fz3 := Lib.frozen_of_heap HR3.out 3
            go_wp2
            obtain ⟨WX, hWX⟩ : ∃ WX, WX = ((((W3.setCell ⟨w.heap.size, 0, none⟩ (.int .i64 (-1))).setCell ⟨w.heap.size, 1, none⟩ (.int .i64 0)).setCell ⟨w.heap.size, 2, none⟩ (.int .i64 x)).setCell ⟨w.heap.size, 3, none⟩ (.int .i64 1000000)) := ⟨_, rfl⟩
            rw [← hWX] at H4 HBx ⊢
            clear hWX
            have q0 := Lib.cell_of_heap H4.out 0
            have q1 := Lib.cell_of_heap H4.out 1
            have q2 := Lib.cell_of_heap H4.out 2
            have q3 := Lib.cell_of_heap H4.out 3
            exact bodyPost_ret (v := .tuple #[.agg #[.int .i64 (-1), .int .i64 0, .int .i64 x, .int .i64 1000000], .bool true]) (by simp [results, Try.results36, go_sem, q0, q1, q2, q3]) rfl ⟨by rw [HE.out]; rfl, HBx.out⟩
        · have hp : 0 < x := by omega
          have HE1 : Hid (r = some (It.strE x (It.sumO 0 l) (It.sumO 1 l) (It.sumO 2 l) (It.sumO 3 l))) := Lib.hid (by rw [HE0.out, if_pos hp])
          have HBd := Lib.hid (fun w => refBadness_any x (It.sumO 0 l) (by omega) (by omega) ho0.1 ho0.2 w)
          obtain ⟨ho0, _⟩ := ho0
          obtain ⟨ho1, _⟩ := ho1
          obtain ⟨ho2, _⟩ := ho2
          obtain ⟨ho3, _⟩ := ho3
          clear hk HE0 HQ
          go_enter Try.func36, Try.ntmps36
          go_wp2_with fail
          rw [← hW1]
          clear hW1
          refine HT.out.mono ?_
          rintro e w2 ⟨rfl, hb2⟩
          have HR2 := Lib.hid (obj_kept hb2 HR1.out)
          have HN2 := Lib.hid (obj_kept hb2 HN1.out)
          have HB2 := Lib.hid (below_step HB1.out hb2)
          clear hb2
          obtain ⟨W3, hW3⟩ : ∃ W, W = w2.alloc (.cells #[.int .i64 (It.sumW l), .int .i64 (It.sumK l), .int .i64 (It.sumO 0 l), .int .i64 (It.sumO 1 l), .int .i64 (It.sumO 2 l), .int .i64 (It.sumO 3 l)] 87) := ⟨_, rfl⟩
          have hb3 := below_alloc w2 (.cells #[.int .i64 (It.sumW l), .int .i64 (It.sumK l), .int .i64 (It.sumO 0 l), .int .i64 (It.sumO 1 l), .int .i64 (It.sumO 2 l), .int .i64 (It.sumO 3 l)] 87)
          have HS3 := Lib.hid (obj_new w2 _ rfl #[.int .i64 (It.sumW l), .int .i64 (It.sumK l), .int .i64 (It.sumO 0 l), .int .i64 (It.sumO 1 l), .int .i64 (It.sumO 2 l), .int .i64 (It.sumO 3 l)] 87)
          rw [← hW3] at hb3 HS3
          have HR3 := Lib.hid (obj_kept hb3 HR2.out)
          have HN3 := Lib.hid (obj_kept hb3 HN2.out)
          have HB3 := Lib.hid (below_step HB2.out hb3)
          clear hb3
          obtain ⟨Q, hQ⟩ : ∃ Q, Q = w2.heap.size := ⟨_, rfl⟩
          rw [← hQ] at HS3
          have s0 := Lib.cell_of_heap HS3.out 0
          go_upto_region 3 with fail
          rw [← hW3, ← hQ]
          clear hW3 hQ
          go_wp2_with fail
          refine (HSb.out _).mono ?_
          rintro e w4 ⟨rfl, rfl⟩
          clear s0
          generalize It.sumO 0 l = o0 at *
          generalize It.sumO 1 l = o1 at *
          generalize It.sumO 2 l = o2 at *
          generalize It.sumO 3 l = o3 at *
          have s2 := Lib.cell_of_heap HS3.out 2
          have s3 := Lib.cell_of_heap HS3.out 3
          have s4 := Lib.cell_of_heap HS3.out 4
          have s5 := Lib.cell_of_heap HS3.out 5
          go_wp2_with fail
          go_loopw [12] (fun iv wr => wr = W3 ∧ ((iv = .int .i64 3) ∨ (iv = .int .i64 2 ∧ o3 = 0) ∨ (iv = .int .i64 1 ∧ o3 = 0 ∧ o2 = 0) ∨ (iv = .int .i64 0 ∧ o3 = 0 ∧ o2 = 0 ∧ o1 = 0))) (fun iv _ => (intOf iv).toNat)
          case atStart => exact ⟨rfl, .inl rfl⟩
          case round =>
            obtain ⟨rfl, hrel⟩ := hrel
            rcases hrel with rfl | ⟨rfl, z3⟩ | ⟨rfl, z3, z2⟩ | ⟨rfl, z3, z2, z1⟩
            · by_cases n : o3 = 0
              · have n' : ¬ (0 < o3) := by omega
                go_wp2
                go_roundw
                case rel => exact ⟨trivial, .inr (.inl ⟨rfl, n⟩)⟩
                case measure => simp [intOf]
              · have n' : 0 < o3 := by omega
                have HE : Hid (r = some ⟨1, 3, x, 0⟩) := Lib.hid (by rw [HE1.out]; unfold It.strE; rw [if_pos n])
                have H4 := Lib.hid (four_set HR3.out rfl (.int .i64 1) (.int .i64 3) (.int .i64 x) (.int .i64 0))
                have HBx := Lib.hid (below_four HB3.out (Nat.le_refl _) (.int .i64 1) (.int .i64 3) (.int .i64 x) (.int .i64 0))
                have cz0 := Lib.cell_of_heap HR3.out 0
                have cz1 := Lib.cell_of_heap HR3.out 1
                have cz2 := Lib.cell_of_heap HR3.out 2
                have cz3 := Lib.cell_of_heap HR3.out 3
                have fz0 := Lib.frozen_of_heap HR3.out 0
                have fz1 := Lib.frozen_of_heap HR3.out 1
                have fz2 := Lib.frozen_of_heap HR3.out 2
                have fz3 := Lib.frozen_of_heap HR3.out 3
                go_wp2
                obtain ⟨WX, hWX⟩ : ∃ WX, WX = ((((wr.setCell ⟨w.heap.size, 0, none⟩ (.int .i64 1)).setCell ⟨w.heap.size, 1, none⟩ (.int .i64 3)).setCell ⟨w.heap.size, 2, none⟩ (.int .i64 x)).setCell ⟨w.heap.size, 3, none⟩ (.int .i64 0)) := ⟨_, rfl⟩
                rw [← hWX] at H4 HBx ⊢
                clear hWX
                have q0 := Lib.cell_of_heap H4.out 0
                have q1 := Lib.cell_of_heap H4.out 1
                have q2 := Lib.cell_of_heap H4.out 2
                have q3 := Lib.cell_of_heap H4.out 3
                exact bodyPost_ret (v := .tuple #[.agg #[.int .i64 1, .int .i64 3, .int .i64 x, .int .i64 0], .bool true]) (by simp [results, Try.results36, go_sem, q0, q1, q2, q3]) rfl ⟨by rw [HE.out]; rfl, HBx.out⟩
            · by_cases n : o2 = 0
              · have n' : ¬ (0 < o2) := by omega
                go_wp2
                go_roundw
                case rel => exact ⟨trivial, .inr (.inr (.inl ⟨rfl, z3, n⟩))⟩
                case measure => simp [intOf]
              · have n' : 0 < o2 := by omega
                have HE : Hid (r = some ⟨1, 2, x, 0⟩) := Lib.hid (by rw [HE1.out]; unfold It.strE; rw [if_neg (show ¬ (o3 ≠ 0) from fun h => h z3)]; rw [if_pos n])
                have H4 := Lib.hid (four_set HR3.out rfl (.int .i64 1) (.int .i64 2) (.int .i64 x) (.int .i64 0))
                have HBx := Lib.hid (below_four HB3.out (Nat.le_refl _) (.int .i64 1) (.int .i64 2) (.int .i64 x) (.int .i64 0))
                have cz0 := Lib.cell_of_heap HR3.out 0
                have cz1 := Lib.cell_of_heap HR3.out 1
                have cz2 := Lib.cell_of_heap HR3.out 2
                have cz3 := Lib.cell_of_heap HR3.out 3
                have fz0 := Lib.frozen_of_heap HR3.out 0
                have fz1 := Lib.frozen_of_heap HR3.out 1
                have fz2 := Lib.frozen_of_heap HR3.out 2
                have fz3 := Lib.frozen_of_heap HR3.out 3
                go_wp2
                obtain ⟨WX, hWX⟩ : ∃ WX, WX = ((((wr.setCell ⟨w.heap.size, 0, none⟩ (.int .i64 1)).setCell ⟨w.heap.size, 1, none⟩ (.int .i64 2)).setCell ⟨w.heap.size, 2, none⟩ (.int .i64 x)).setCell ⟨w.heap.size, 3, none⟩ (.int .i64 0)) := ⟨_, rfl⟩
                rw [← hWX] at H4 HBx ⊢
                clear hWX
                have q0 := Lib.cell_of_heap H4.out 0
                have q1 := Lib.cell_of_heap H4.out 1
                have q2 := Lib.cell_of_heap H4.out 2
                have q3 := Lib.cell_of_heap H4.out 3
                exact bodyPost_ret (v := .tuple #[.agg #[.int .i64 1, .int .i64 2, .int .i64 x, .int .i64 0], .bool true]) (by simp [results, Try.results36, go_sem, q0, q1, q2, q3]) rfl ⟨by rw [HE.out]; rfl, HBx.out⟩
            · by_cases n : o1 = 0
              · have n' : ¬ (0 < o1) := by omega
                go_wp2
                go_roundw
                case rel => exact ⟨trivial, .inr (.inr (.inr ⟨rfl, z3, z2, n⟩))⟩
                case measure => simp [intOf]
              · have n' : 0 < o1 := by omega
                have HE : Hid (r = some ⟨1, 1, x, 0⟩) := Lib.hid (by rw [HE1.out]; unfold It.strE; rw [if_neg (show ¬ (o3 ≠ 0) from fun h => h z3)]; rw [if_neg (show ¬ (o2 ≠ 0) from fun h => h z2)]; rw [if_pos n])
                have H4 := Lib.hid (four_set HR3.out rfl (.int .i64 1) (.int .i64 1) (.int .i64 x) (.int .i64 0))
                have HBx := Lib.hid (below_four HB3.out (Nat.le_refl _) (.int .i64 1) (.int .i64 1) (.int .i64 x) (.int .i64 0))
                have cz0 := Lib.cell_of_heap HR3.out 0
                have cz1 := Lib.cell_of_heap HR3.out 1
                have cz2 := Lib.cell_of_heap HR3.out 2
                have cz3 := Lib.cell_of_heap HR3.out 3
                have fz0 := Lib.frozen_of_heap HR3.out 0
                have fz1 := Lib.frozen_of_heap HR3.out 1
                have fz2 := Lib.frozen_of_heap HR3.out 2
                have fz3 := Lib.frozen_of_heap HR3.out 3
                go_wp2
                obtain ⟨WX, hWX⟩ : ∃ WX, WX = ((((wr.setCell ⟨w.heap.size, 0, none⟩ (.int .i64 1)).setCell ⟨w.heap.size, 1, none⟩ (.int .i64 1)).setCell ⟨w.heap.size, 2, none⟩ (.int .i64 x)).setCell ⟨w.heap.size, 3, none⟩ (.int .i64 0)) := ⟨_, rfl⟩
                rw [← hWX] at H4 HBx ⊢
                clear hWX
                have q0 := Lib.cell_of_heap H4.out 0
                have q1 := Lib.cell_of_heap H4.out 1
                have q2 := Lib.cell_of_heap H4.out 2
                have q3 := Lib.cell_of_heap H4.out 3
                exact bodyPost_ret (v := .tuple #[.agg #[.int .i64 1, .int .i64 1, .int .i64 x, .int .i64 0], .bool true]) (by simp [results, Try.results36, go_sem, q0, q1, q2, q3]) rfl ⟨by rw [HE.out]; rfl, HBx.out⟩
            · by_cases n : o0 = 0
              · have n' : ¬ (0 < o0) := by omega
                have HE : Hid (r = some ⟨0, 0, x, 10000⟩) := Lib.hid (by rw [HE1.out]; unfold It.strE; rw [if_neg (show ¬ (o3 ≠ 0) from fun h => h z3), if_neg (show ¬ (o2 ≠ 0) from fun h => h z2), if_neg (show ¬ (o1 ≠ 0) from fun h => h z1), if_neg (show ¬ (o0 ≠ 0) from fun h => h n)])
                have H4 := Lib.hid (four_set HR3.out rfl (.int .i64 0) (.int .i64 0) (.int .i64 x) (.int .i64 10000))
                have HBx := Lib.hid (below_four HB3.out (Nat.le_refl _) (.int .i64 0) (.int .i64 0) (.int .i64 x) (.int .i64 10000))
                have cz0 := Lib.cell_of_heap HR3.out 0
                have cz1 := Lib.cell_of_heap HR3.out 1
                have cz2 := Lib.cell_of_heap HR3.out 2
                have cz3 := Lib.cell_of_heap HR3.out 3
                have fz0 := Lib.frozen_of_heap HR3.out 0
                have fz1 := Lib.frozen_of_heap HR3.out 1
                have fz2 := Lib.frozen_of_heap HR3.out 2
                have fz3 := Lib.frozen_of_heap HR3.out 3
                go_wp2
                obtain ⟨WX, hWX⟩ : ∃ WX, WX = ((((wr.setCell ⟨w.heap.size, 0, none⟩ (.int .i64 0)).setCell ⟨w.heap.size, 1, none⟩ (.int .i64 0)).setCell ⟨w.heap.size, 2, none⟩ (.int .i64 x)).setCell ⟨w.heap.size, 3, none⟩ (.int .i64 10000)) := ⟨_, rfl⟩
                rw [← hWX] at H4 HBx ⊢
                clear hWX
                have q0 := Lib.cell_of_heap H4.out 0
                have q1 := Lib.cell_of_heap H4.out 1
                have q2 := Lib.cell_of_heap H4.out 2
                have q3 := Lib.cell_of_heap H4.out 3
                exact bodyPost_ret (v := .tuple #[.agg #[.int .i64 0, .int .i64 0, .int .i64 x, .int .i64 10000], .bool true]) (by simp [results, Try.results36, go_sem, q0, q1, q2, q3]) rfl ⟨by rw [HE.out]; rfl, HBx.out⟩
              · have n' : 0 < o0 := by omega
                have HE : Hid (r = some ⟨1, 0, x, It.bdn x o0⟩) := Lib.hid (by rw [HE1.out]; unfold It.strE; rw [if_neg (show ¬ (o3 ≠ 0) from fun h => h z3), if_neg (show ¬ (o2 ≠ 0) from fun h => h z2), if_neg (show ¬ (o1 ≠ 0) from fun h => h z1), if_pos n])
                generalize It.bdn x o0 = bd at HBd HE
                go_wp2_with fail
                refine (HBd.out _).mono ?_
                rintro e9 w9 ⟨rfl, rfl⟩
                have H4 := Lib.hid (four_set HR3.out rfl (.int .i64 1) (.int .i64 0) (.int .i64 x) (.int .i64 bd))
                have HBx := Lib.hid (below_four HB3.out (Nat.le_refl _) (.int .i64 1) (.int .i64 0) (.int .i64 x) (.int .i64 bd))
                have cz0 := Lib.cell_of_heap HR3.out 0
                have cz1 := Lib.cell_of_heap HR3.out 1
                have cz2 := Lib.cell_of_heap HR3.out 2
                have cz3 := Lib.cell_of_heap HR3.out 3
                have fz0 := Lib.frozen_of_heap HR3.out 0
                have fz1 := Lib.frozen_of_heap HR3.out 1
                have fz2 := Lib.frozen_of_heap HR3.out 2
                have fz3 := Lib.frozen_of_heap HR3.out 3
                go_wp2
                obtain ⟨WX, hWX⟩ : ∃ WX, WX = ((((wr.setCell ⟨w.heap.size, 0, none⟩ (.int .i64 1)).setCell ⟨w.heap.size, 1, none⟩ (.int .i64 0)).setCell ⟨w.heap.size, 2, none⟩ (.int .i64 x)).setCell ⟨w.heap.size, 3, none⟩ (.int .i64 bd)) := ⟨_, rfl⟩
                rw [← hWX] at H4 HBx ⊢
                clear hWX
                have q0 := Lib.cell_of_heap H4.out 0
                have q1 := Lib.cell_of_heap H4.out 1
                have q2 := Lib.cell_of_heap H4.out 2
                have q3 := Lib.cell_of_heap H4.out 3
                exact bodyPost_ret (v := .tuple #[.agg #[.int .i64 1, .int .i64 0, .int .i64 x, .int .i64 bd], .bool true]) (by simp [results, Try.results36, go_sem, q0, q1, q2, q3]) rfl ⟨by rw [HE.out]; rfl, HBx.out⟩
end Go.Proofs.Ythcilpijiindeaa
