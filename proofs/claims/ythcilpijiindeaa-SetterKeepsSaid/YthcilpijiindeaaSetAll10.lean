/-
  The landed glue.Set: how a list of glue is set to a width.
-/
import Derived.Test.YthcilpijiindeaaSet10
set_option linter.unusedVariables false
set_option linter.unusedSimpArgs false
namespace Go.Proofs.Ythcilpijiindeaa
open Go.RowKit

def setV : Option It.Stg → Value
  | none => .tuple #[.agg #[.int .i64 0, .int .i64 0, .int .i64 0, .int .i64 0], .bool false]
  | some s => .tuple #[stgV s, .bool true]
theorem set_none {l : List It.Gl} {t : Int} (h : It.glMay l = false) : It.setOf l t = none := by
  unfold It.setOf
  rw [if_neg (by rw [h]; simp)]
theorem set_fits {l : List It.Gl} {t : Int} (h : It.glMay l = true) : subB t (It.sumW l) = (Sc.fits t && Sc.fits (t - It.sumW l)) := by
  unfold subB
  rw [It.sumW_fits h, Bool.and_true]
theorem set_off {l : List It.Gl} {t : Int} (h : It.glMay l = true) (hs : subB t (It.sumW l) = false) : It.setOf l t = none := by
  rw [set_fits h] at hs
  unfold It.setOf
  rw [if_neg]
  intro hc
  rw [hc.2.1, hc.2.2] at hs
  cases hs
theorem set_on {l : List It.Gl} {t : Int} (h : It.glMay l = true) (hs : subB t (It.sumW l) = true) : It.setOf l t = some (It.setE l (t - It.sumW l)) ∧ subV t (It.sumW l) = t - It.sumW l ∧ -1073741823 ≤ t - It.sumW l ∧ t - It.sumW l ≤ 1073741823 := by
  have hs2 := hs
  rw [set_fits h, Bool.and_eq_true] at hs2
  refine ⟨?_, ?_, Sc.fits_yes hs2.2⟩
  · unfold It.setOf
    rw [if_pos ⟨h, hs2.1, hs2.2⟩]
  · unfold subV
    rw [hs]; rfl
set_option maxHeartbeats 4000000 in
set_option maxRecDepth 100000 in
theorem set_any (v : Value) (l : List It.Gl) (t : Int) (w : World) (h : GlsAt w v l) : Calls Try.prog 47 #[v, .int .i64 t] w (Ret (setV (It.setOf l t)) w) := by
  obtain ⟨r, hr⟩ : ∃ r, r = It.setOf l t := ⟨_, rfl⟩
  have HQ := Lib.hid hr
  rw [← hr]
  clear hr
  obtain ⟨W1, hW1⟩ : ∃ W1, W1 = w.alloc (.cells #[.int .i64 0, .int .i64 0, .int .i64 0, .int .i64 0] 56) := ⟨_, rfl⟩
  have HR1 := Lib.hid (obj_new w _ rfl #[.int .i64 0, .int .i64 0, .int .i64 0, .int .i64 0] 56)
  have HB1 := Lib.hid (below_alloc w (.cells #[.int .i64 0, .int .i64 0, .int .i64 0, .int .i64 0] 56))
  rw [← hW1] at HR1 HB1
  have HT := Lib.hid (total_any v l W1 (h.mono HB1.out))
  clear h
  unfold totV at HT
  cases hq : It.glMay l with
  | false =>
    have HE : Hid (r = none) := Lib.hid (HQ.out.trans (set_none hq))
    rw [hq] at HT
    simp only [Bool.false_eq_true, if_false] at HT
    unfold zeroS at HT
    go_enter Try.func47, Try.ntmps47
    go_wp2_with fail
    rw [← hW1]
    clear hW1
    refine HT.out.mono ?_
    rintro e w2 ⟨rfl, hb2⟩
    have HR2 := Lib.hid (obj_kept hb2 HR1.out)
    have HB2 := Lib.hid (below_step HB1.out hb2)
    clear hb2
    obtain ⟨W3, hW3⟩ : ∃ W, W = w2.alloc (.cells #[.int .i64 0, .int .i64 0, .int .i64 0, .int .i64 0, .int .i64 0, .int .i64 0] 87) := ⟨_, rfl⟩
    have hb3 := below_alloc w2 (.cells #[.int .i64 0, .int .i64 0, .int .i64 0, .int .i64 0, .int .i64 0, .int .i64 0] 87)
    have HS3 := Lib.hid (obj_new w2 _ rfl #[.int .i64 0, .int .i64 0, .int .i64 0, .int .i64 0, .int .i64 0, .int .i64 0] 87)
    rw [← hW3] at hb3 HS3
    have HR3 := Lib.hid (obj_kept hb3 HR2.out)
    have HB3 := Lib.hid (below_step HB2.out hb3)
    clear hb3
    go_upto_region 2 with fail
    rw [← hW3]
    clear hW3
    have H4 := Lib.hid (four_set HR3.out rfl (.int .i64 0) (.int .i64 0) (.int .i64 0) (.int .i64 0))
    have HBx := Lib.hid (below_four HB3.out (Nat.le_refl _) (.int .i64 0) (.int .i64 0) (.int .i64 0) (.int .i64 0))
    have cz0 := Lib.cell_of_heap HR3.out 0
    have cz1 := Lib.cell_of_heap HR3.out 1
    have cz2 := Lib.cell_of_heap HR3.out 2
    have cz3 := Lib.cell_of_heap HR3.out 3
    have fz0 := Lib.frozen_of_heap HR3.out 0
    have fz1 := Lib.frozen_of_heap HR3.out 1
    have fz2 := Lib.frozen_of_heap HR3.out 2
    have fz3 := Lib.frozen_of_heap HR3.out 3
    go_wp2
    obtain ⟨WX, hWX⟩ : ∃ WX, WX = ((((W3.setCell ⟨w.heap.size, 0, none⟩ (.int .i64 0)).setCell ⟨w.heap.size, 1, none⟩ (.int .i64 0)).setCell ⟨w.heap.size, 2, none⟩ (.int .i64 0)).setCell ⟨w.heap.size, 3, none⟩ (.int .i64 0)) := ⟨_, rfl⟩
    rw [← hWX] at H4 HBx ⊢
    clear hWX
    have q0 := Lib.cell_of_heap H4.out 0
    have q1 := Lib.cell_of_heap H4.out 1
    have q2 := Lib.cell_of_heap H4.out 2
    have q3 := Lib.cell_of_heap H4.out 3
    exact bodyPost_ret (v := .tuple #[.agg #[.int .i64 0, .int .i64 0, .int .i64 0, .int .i64 0], .bool false]) (by simp [results, Try.results47, go_sem, q0, q1, q2, q3]) rfl ⟨by rw [HE.out]; rfl, HBx.out⟩
  | true =>
    rw [hq] at HT
    simp only [if_true] at HT
    unfold sumC at HT
    have HSb := Lib.hid (fun w => sub_any t (It.sumW l) w)
    cases hs : subB t (It.sumW l) with
    | false =>
      have HE : Hid (r = none) := Lib.hid (HQ.out.trans (set_off hq hs))
      rw [hs] at HSb
      generalize subV t (It.sumW l) = d at HSb
      go_enter Try.func47, Try.ntmps47
      go_wp2_with fail
      rw [← hW1]
      clear hW1
      refine HT.out.mono ?_
      rintro e w2 ⟨rfl, hb2⟩
      have HR2 := Lib.hid (obj_kept hb2 HR1.out)
      have HB2 := Lib.hid (below_step HB1.out hb2)
      clear hb2
      obtain ⟨W3, hW3⟩ : ∃ W, W = w2.alloc (.cells #[.int .i64 (It.sumW l), .int .i64 (It.sumK l), .int .i64 (It.sumO 0 l), .int .i64 (It.sumO 1 l), .int .i64 (It.sumO 2 l), .int .i64 (It.sumO 3 l)] 87) := ⟨_, rfl⟩
      have hb3 := below_alloc w2 (.cells #[.int .i64 (It.sumW l), .int .i64 (It.sumK l), .int .i64 (It.sumO 0 l), .int .i64 (It.sumO 1 l), .int .i64 (It.sumO 2 l), .int .i64 (It.sumO 3 l)] 87)
      have HS3 := Lib.hid (obj_new w2 _ rfl #[.int .i64 (It.sumW l), .int .i64 (It.sumK l), .int .i64 (It.sumO 0 l), .int .i64 (It.sumO 1 l), .int .i64 (It.sumO 2 l), .int .i64 (It.sumO 3 l)] 87)
      rw [← hW3] at hb3 HS3
      have HR3 := Lib.hid (obj_kept hb3 HR2.out)
      have HB3 := Lib.hid (below_step HB2.out hb3)
      clear hb3
      have s0 := Lib.cell_of_heap HS3.out 0
      go_wp2_with fail
      rw [← hW3]
      clear hW3
      refine (HSb.out _).mono ?_
      rintro e w4 ⟨rfl, rfl⟩
      have H4 := Lib.hid (four_set HR3.out rfl (.int .i64 0) (.int .i64 0) (.int .i64 0) (.int .i64 0))
      have HBx := Lib.hid (below_four HB3.out (Nat.le_refl _) (.int .i64 0) (.int .i64 0) (.int .i64 0) (.int .i64 0))
      have cz0 := Lib.cell_of_heap HR3.out 0
      have cz1 := Lib.cell_of_heap HR3.out 1
      have cz2 := Lib.cell_of_heap HR3.out 2
      have cz3 := Lib.cell_of_heap HR3.out 3
      have fz0 := Lib.frozen_of_heap HR3.out 0
      have fz1 := Lib.frozen_of_heap HR3.out 1
      have fz2 := Lib.frozen_of_heap HR3.out 2
      have fz3 := Lib.frozen_of_heap HR3.out 3
      go_wp2
      obtain ⟨WX, hWX⟩ : ∃ WX, WX = ((((W3.setCell ⟨w.heap.size, 0, none⟩ (.int .i64 0)).setCell ⟨w.heap.size, 1, none⟩ (.int .i64 0)).setCell ⟨w.heap.size, 2, none⟩ (.int .i64 0)).setCell ⟨w.heap.size, 3, none⟩ (.int .i64 0)) := ⟨_, rfl⟩
      rw [← hWX] at H4 HBx ⊢
      clear hWX
      have q0 := Lib.cell_of_heap H4.out 0
      have q1 := Lib.cell_of_heap H4.out 1
      have q2 := Lib.cell_of_heap H4.out 2
      have q3 := Lib.cell_of_heap H4.out 3
      exact bodyPost_ret (v := .tuple #[.agg #[.int .i64 0, .int .i64 0, .int .i64 0, .int .i64 0], .bool false]) (by simp [results, Try.results47, go_sem, q0, q1, q2, q3]) rfl ⟨by rw [HE.out]; rfl, HBx.out⟩
    | true =>
      obtain ⟨hs1, hs2, hs3, hs4⟩ := set_on hq hs
      have HE0 := Lib.hid (HQ.out.trans hs1)
      have hk := It.sumK_nonneg hq
      have ho := It.sumO_nonneg hq 0
      have HEs : Hid (It.setE l (t - It.sumW l) = if 0 < t - It.sumW l then It.strE (t - It.sumW l) (It.sumO 0 l) (It.sumO 1 l) (It.sumO 2 l) (It.sumO 3 l) else if t - It.sumW l < 0 then It.shrE (t - It.sumW l) (It.sumK l) else ⟨0, 0, 0, 0⟩) := Lib.hid rfl
      rw [hs, hs2] at HSb
      obtain ⟨x, hx⟩ : ∃ x, x = t - It.sumW l := ⟨_, rfl⟩
      rw [← hx] at HSb hs3 hs4 HE0 HEs
      rw [HEs.out] at HE0
      clear HEs hs1 hs2 hx
      have HStr := Lib.hid (fun h w => stretched_any (It.sumW l) (It.sumK l) (It.sumO 0 l) (It.sumO 1 l) (It.sumO 2 l) (It.sumO 3 l) x ⟨h, hs4⟩ ho w)
      have HShr := Lib.hid (fun h w => shrunk_any (It.sumW l) (It.sumK l) (It.sumO 0 l) (It.sumO 1 l) (It.sumO 2 l) (It.sumO 3 l) x ⟨h, hs3⟩ hk w)
      clear hk ho
      by_cases h0 : 0 < x
      · have HE : Hid (r = some (It.strE x (It.sumO 0 l) (It.sumO 1 l) (It.sumO 2 l) (It.sumO 3 l))) := Lib.hid (by rw [HE0.out, if_pos h0])
        generalize It.strE x (It.sumO 0 l) (It.sumO 1 l) (It.sumO 2 l) (It.sumO 3 l) = S at HE HStr
        unfold stgV at HStr
        go_enter Try.func47, Try.ntmps47
        go_wp2_with fail
        rw [← hW1]
        clear hW1
        refine HT.out.mono ?_
        rintro e w2 ⟨rfl, hb2⟩
        have HR2 := Lib.hid (obj_kept hb2 HR1.out)
        have HB2 := Lib.hid (below_step HB1.out hb2)
        clear hb2
        obtain ⟨W3, hW3⟩ : ∃ W, W = w2.alloc (.cells #[.int .i64 (It.sumW l), .int .i64 (It.sumK l), .int .i64 (It.sumO 0 l), .int .i64 (It.sumO 1 l), .int .i64 (It.sumO 2 l), .int .i64 (It.sumO 3 l)] 87) := ⟨_, rfl⟩
        have hb3 := below_alloc w2 (.cells #[.int .i64 (It.sumW l), .int .i64 (It.sumK l), .int .i64 (It.sumO 0 l), .int .i64 (It.sumO 1 l), .int .i64 (It.sumO 2 l), .int .i64 (It.sumO 3 l)] 87)
        have HS3 := Lib.hid (obj_new w2 _ rfl #[.int .i64 (It.sumW l), .int .i64 (It.sumK l), .int .i64 (It.sumO 0 l), .int .i64 (It.sumO 1 l), .int .i64 (It.sumO 2 l), .int .i64 (It.sumO 3 l)] 87)
        rw [← hW3] at hb3 HS3
        have HR3 := Lib.hid (obj_kept hb3 HR2.out)
        have HB3 := Lib.hid (below_step HB2.out hb3)
        clear hb3
        have s0 := Lib.cell_of_heap HS3.out 0
        have s1 := Lib.cell_of_heap HS3.out 1
        have s2 := Lib.cell_of_heap HS3.out 2
        have s3 := Lib.cell_of_heap HS3.out 3
        have s4 := Lib.cell_of_heap HS3.out 4
        have s5 := Lib.cell_of_heap HS3.out 5
        go_wp2_with fail
        rw [← hW3]
        clear hW3
        refine (HSb.out _).mono ?_
        rintro e w4 ⟨rfl, rfl⟩
        go_wp2_with fail
        refine (HStr.out h0 _).mono ?_
        rintro e w5 ⟨rfl, hb5⟩
        have HR5 := Lib.hid (obj_kept hb5 HR3.out)
        have HB5 := Lib.hid (below_step HB3.out hb5)
        clear hb5 s0 s1 s2 s3 s4 s5
        have H4 := Lib.hid (four_set HR5.out rfl (.int .i64 S.sg) (.int .i64 S.o) (.int .i64 S.e) (.int .i64 S.bad))
        have HBx := Lib.hid (below_four HB5.out (Nat.le_refl _) (.int .i64 S.sg) (.int .i64 S.o) (.int .i64 S.e) (.int .i64 S.bad))
        have cz0 := Lib.cell_of_heap HR5.out 0
        have cz1 := Lib.cell_of_heap HR5.out 1
        have cz2 := Lib.cell_of_heap HR5.out 2
        have cz3 := Lib.cell_of_heap HR5.out 3
        have fz0 := Lib.frozen_of_heap HR5.out 0
        have fz1 := Lib.frozen_of_heap HR5.out 1
        have fz2 := Lib.frozen_of_heap HR5.out 2
        have fz3 := Lib.frozen_of_heap HR5.out 3
        go_wp2
        obtain ⟨WX, hWX⟩ : ∃ WX, WX = ((((w5.setCell ⟨w.heap.size, 0, none⟩ (.int .i64 S.sg)).setCell ⟨w.heap.size, 1, none⟩ (.int .i64 S.o)).setCell ⟨w.heap.size, 2, none⟩ (.int .i64 S.e)).setCell ⟨w.heap.size, 3, none⟩ (.int .i64 S.bad)) := ⟨_, rfl⟩
        rw [← hWX] at H4 HBx ⊢
        clear hWX
        have q0 := Lib.cell_of_heap H4.out 0
        have q1 := Lib.cell_of_heap H4.out 1
        have q2 := Lib.cell_of_heap H4.out 2
        have q3 := Lib.cell_of_heap H4.out 3
        exact bodyPost_ret (v := .tuple #[.agg #[.int .i64 S.sg, .int .i64 S.o, .int .i64 S.e, .int .i64 S.bad], .bool true]) (by simp [results, Try.results47, go_sem, q0, q1, q2, q3]) rfl ⟨by rw [HE.out]; rfl, HBx.out⟩
      · by_cases h1 : x < 0
        · have HE : Hid (r = some (It.shrE x (It.sumK l))) := Lib.hid (by rw [HE0.out, if_neg h0, if_pos h1])
          generalize It.shrE x (It.sumK l) = S at HE HShr
          unfold stgV at HShr
          go_enter Try.func47, Try.ntmps47
          go_wp2_with fail
          rw [← hW1]
          clear hW1
          refine HT.out.mono ?_
          rintro e w2 ⟨rfl, hb2⟩
          have HR2 := Lib.hid (obj_kept hb2 HR1.out)
          have HB2 := Lib.hid (below_step HB1.out hb2)
          clear hb2
          obtain ⟨W3, hW3⟩ : ∃ W, W = w2.alloc (.cells #[.int .i64 (It.sumW l), .int .i64 (It.sumK l), .int .i64 (It.sumO 0 l), .int .i64 (It.sumO 1 l), .int .i64 (It.sumO 2 l), .int .i64 (It.sumO 3 l)] 87) := ⟨_, rfl⟩
          have hb3 := below_alloc w2 (.cells #[.int .i64 (It.sumW l), .int .i64 (It.sumK l), .int .i64 (It.sumO 0 l), .int .i64 (It.sumO 1 l), .int .i64 (It.sumO 2 l), .int .i64 (It.sumO 3 l)] 87)
          have HS3 := Lib.hid (obj_new w2 _ rfl #[.int .i64 (It.sumW l), .int .i64 (It.sumK l), .int .i64 (It.sumO 0 l), .int .i64 (It.sumO 1 l), .int .i64 (It.sumO 2 l), .int .i64 (It.sumO 3 l)] 87)
          rw [← hW3] at hb3 HS3
          have HR3 := Lib.hid (obj_kept hb3 HR2.out)
          have HB3 := Lib.hid (below_step HB2.out hb3)
          clear hb3
          have s0 := Lib.cell_of_heap HS3.out 0
          have s1 := Lib.cell_of_heap HS3.out 1
          have s2 := Lib.cell_of_heap HS3.out 2
          have s3 := Lib.cell_of_heap HS3.out 3
          have s4 := Lib.cell_of_heap HS3.out 4
          have s5 := Lib.cell_of_heap HS3.out 5
          go_wp2_with fail
          rw [← hW3]
          clear hW3
          refine (HSb.out _).mono ?_
          rintro e w4 ⟨rfl, rfl⟩
          go_wp2_with fail
          refine (HShr.out h1 _).mono ?_
          rintro e w5 ⟨rfl, hb5⟩
          have HR5 := Lib.hid (obj_kept hb5 HR3.out)
          have HB5 := Lib.hid (below_step HB3.out hb5)
          clear hb5 s0 s1 s2 s3 s4 s5
          have H4 := Lib.hid (four_set HR5.out rfl (.int .i64 S.sg) (.int .i64 S.o) (.int .i64 S.e) (.int .i64 S.bad))
          have HBx := Lib.hid (below_four HB5.out (Nat.le_refl _) (.int .i64 S.sg) (.int .i64 S.o) (.int .i64 S.e) (.int .i64 S.bad))
          have cz0 := Lib.cell_of_heap HR5.out 0
          have cz1 := Lib.cell_of_heap HR5.out 1
          have cz2 := Lib.cell_of_heap HR5.out 2
          have cz3 := Lib.cell_of_heap HR5.out 3
          have fz0 := Lib.frozen_of_heap HR5.out 0
          have fz1 := Lib.frozen_of_heap HR5.out 1
          have fz2 := Lib.frozen_of_heap HR5.out 2
          have fz3 := Lib.frozen_of_heap HR5.out 3
          go_wp2
          obtain ⟨WX, hWX⟩ : ∃ WX, WX = ((((w5.setCell ⟨w.heap.size, 0, none⟩ (.int .i64 S.sg)).setCell ⟨w.heap.size, 1, none⟩ (.int .i64 S.o)).setCell ⟨w.heap.size, 2, none⟩ (.int .i64 S.e)).setCell ⟨w.heap.size, 3, none⟩ (.int .i64 S.bad)) := ⟨_, rfl⟩
          rw [← hWX] at H4 HBx ⊢
          clear hWX
          have q0 := Lib.cell_of_heap H4.out 0
          have q1 := Lib.cell_of_heap H4.out 1
          have q2 := Lib.cell_of_heap H4.out 2
          have q3 := Lib.cell_of_heap H4.out 3
          exact bodyPost_ret (v := .tuple #[.agg #[.int .i64 S.sg, .int .i64 S.o, .int .i64 S.e, .int .i64 S.bad], .bool true]) (by simp [results, Try.results47, go_sem, q0, q1, q2, q3]) rfl ⟨by rw [HE.out]; rfl, HBx.out⟩
        · have HE : Hid (r = some ⟨0, 0, 0, 0⟩) := Lib.hid (by rw [HE0.out, if_neg h0, if_neg h1])
          go_enter Try.func47, Try.ntmps47
          go_wp2_with fail
          rw [← hW1]
          clear hW1
          refine HT.out.mono ?_
          rintro e w2 ⟨rfl, hb2⟩
          have HR2 := Lib.hid (obj_kept hb2 HR1.out)
          have HB2 := Lib.hid (below_step HB1.out hb2)
          clear hb2
          obtain ⟨W3, hW3⟩ : ∃ W, W = w2.alloc (.cells #[.int .i64 (It.sumW l), .int .i64 (It.sumK l), .int .i64 (It.sumO 0 l), .int .i64 (It.sumO 1 l), .int .i64 (It.sumO 2 l), .int .i64 (It.sumO 3 l)] 87) := ⟨_, rfl⟩
          have hb3 := below_alloc w2 (.cells #[.int .i64 (It.sumW l), .int .i64 (It.sumK l), .int .i64 (It.sumO 0 l), .int .i64 (It.sumO 1 l), .int .i64 (It.sumO 2 l), .int .i64 (It.sumO 3 l)] 87)
          have HS3 := Lib.hid (obj_new w2 _ rfl #[.int .i64 (It.sumW l), .int .i64 (It.sumK l), .int .i64 (It.sumO 0 l), .int .i64 (It.sumO 1 l), .int .i64 (It.sumO 2 l), .int .i64 (It.sumO 3 l)] 87)
          rw [← hW3] at hb3 HS3
          have HR3 := Lib.hid (obj_kept hb3 HR2.out)
          have HB3 := Lib.hid (below_step HB2.out hb3)
          clear hb3
          have s0 := Lib.cell_of_heap HS3.out 0
          go_wp2_with fail
          rw [← hW3]
          clear hW3
          refine (HSb.out _).mono ?_
          rintro e w4 ⟨rfl, rfl⟩
          have H4 := Lib.hid (four_set HR3.out rfl (.int .i64 0) (.int .i64 0) (.int .i64 0) (.int .i64 0))
          have HBx := Lib.hid (below_four HB3.out (Nat.le_refl _) (.int .i64 0) (.int .i64 0) (.int .i64 0) (.int .i64 0))
          have cz0 := Lib.cell_of_heap HR3.out 0
          have cz1 := Lib.cell_of_heap HR3.out 1
          have cz2 := Lib.cell_of_heap HR3.out 2
          have cz3 := Lib.cell_of_heap HR3.out 3
          have fz0 := Lib.frozen_of_heap HR3.out 0
          have fz1 := Lib.frozen_of_heap HR3.out 1
          have fz2 := Lib.frozen_of_heap HR3.out 2
          have fz3 := Lib.frozen_of_heap HR3.out 3
          go_wp2
          obtain ⟨WX, hWX⟩ : ∃ WX, WX = ((((W3.setCell ⟨w.heap.size, 0, none⟩ (.int .i64 0)).setCell ⟨w.heap.size, 1, none⟩ (.int .i64 0)).setCell ⟨w.heap.size, 2, none⟩ (.int .i64 0)).setCell ⟨w.heap.size, 3, none⟩ (.int .i64 0)) := ⟨_, rfl⟩
          rw [← hWX] at H4 HBx ⊢
          clear hWX
          have q0 := Lib.cell_of_heap H4.out 0
          have q1 := Lib.cell_of_heap H4.out 1
          have q2 := Lib.cell_of_heap H4.out 2
          have q3 := Lib.cell_of_heap H4.out 3
          exact bodyPost_ret (v := .tuple #[.agg #[.int .i64 0, .int .i64 0, .int .i64 0, .int .i64 0], .bool true]) (by simp [results, Try.results47, go_sem, q0, q1, q2, q3]) rfl ⟨by rw [HE.out]; rfl, HBx.out⟩
end Go.Proofs.Ythcilpijiindeaa
