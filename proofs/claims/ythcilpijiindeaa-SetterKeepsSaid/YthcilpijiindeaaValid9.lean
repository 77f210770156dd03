/-
  The landed valid: may an item by itself be?
-/
import Derived.Test.YthcilpijiindeaaRefMay9
set_option linter.unusedVariables false
set_option linter.unusedSimpArgs false
namespace Go.Proofs.Ythcilpijiindeaa
open Go.RowKit

theorem gls_one (w : World) (p : Nat) (hp : w.heap.size = p) (a b c o : Int) : GlsAt (w.alloc (.cells #[.int .i64 a, .int .i64 b, .int .i64 c, .int .i64 o] 38)) (.slice (some ⟨p, 0, none⟩) 1 1) [⟨a, b, c, o⟩] := by
  subst hp
  refine ⟨⟨_, 1, rfl, Nat.le_refl _⟩, by unfold maxLen; simp, fun _ => ⟨w.heap.size, 0, 1, rfl, fun i x hi => ?_⟩⟩
  match i, hi with
  | 0, hi =>
    simp at hi
    subst hi
    intro j u hj
    simp only [Nat.zero_mul, Nat.zero_add]
    exact cell_lay w _ _ j u (by simpa [glC] using hj)
  | i + 1, hi => simp at hi
theorem plain_ok (a : Int) (h : 0 ≤ a) : It.glOk ⟨a, 0, 0, 0⟩ = Sc.fits a := by
  unfold It.glOk It.amt
  simp [Sc.fits]
theorem glMayOne_any (a b c o : Int) (w : World) (p : Nat) (hp : w.heap.size = p) : Calls Try.prog 27 #[.slice (some ⟨p, 0, none⟩) 1 1] (w.alloc (.cells #[.int .i64 a, .int .i64 b, .int .i64 c, .int .i64 o] 38)) (Ret (.bool (It.glOk ⟨a, b, c, o⟩)) (w.alloc (.cells #[.int .i64 a, .int .i64 b, .int .i64 c, .int .i64 o] 38))) := by
  rw [← It.glMay_one]
  exact glueMay_any _ _ _ (gls_one w p hp a b c o)

set_option maxHeartbeats 4000000 in
set_option maxRecDepth 100000 in
theorem valid_box (a b c o p : Int) (f : Bool) (n q : Int) (w : World) : Calls Try.prog 26 #[.agg #[.int .i64 0, .int .i64 a, .int .i64 b, .int .i64 c, .int .i64 o, .int .i64 p, .bool f, .int .i64 n, .int .i64 q]] w (Ret (.bool (It.right ⟨0, ⟨a, b, c, o⟩, p, f, n, q⟩)) w) := by
  have HR : Hid (It.right ⟨0, ⟨a, b, c, o⟩, p, f, n, q⟩ = ((It.amt a && It.plainG ⟨a, b, c, o⟩) && decide (p = 0) && !f && decide (0 ≤ n) && decide (0 ≤ q))) := Lib.hid (by unfold It.right; simp [It.boxG])
  obtain ⟨r, hr⟩ : ∃ r, r = It.right ⟨0, ⟨a, b, c, o⟩, p, f, n, q⟩ := ⟨_, rfl⟩
  rw [← hr] at HR ⊢
  clear hr
  have HB1 := Lib.hid (below_alloc w (.cells #[.int .i64 0, .int .i64 a, .int .i64 b, .int .i64 c, .int .i64 o, .int .i64 p, .bool f, .int .i64 n, .int .i64 q] 40))
  have HO1 := Lib.hid (obj_new w _ rfl #[.int .i64 0, .int .i64 a, .int .i64 b, .int .i64 c, .int .i64 o, .int .i64 p, .bool f, .int .i64 n, .int .i64 q] 40)
  obtain ⟨W1, hW1⟩ : ∃ W1, W1 = w.alloc (.cells #[.int .i64 0, .int .i64 a, .int .i64 b, .int .i64 c, .int .i64 o, .int .i64 p, .bool f, .int .i64 n, .int .i64 q] 40) := ⟨_, rfl⟩
  have hs1 : W1.heap.size = w.heap.size + 1 := by rw [hW1, World.size_alloc]
  rw [← hW1] at HB1 HO1
  have HP := Lib.hid (fun w => isPlain_any ⟨a, b, c, o⟩ w)
  unfold glV at HP
  simp only [] at HP
  have HP0 := Lib.hid (fun w => isPlain_any ⟨a, 0, 0, 0⟩ w)
  unfold glV at HP0
  simp only [] at HP0
  have HQ := Lib.hid (fun w => isPenalty_any 0 w)
  have x0 := Lib.cell_of_heap HO1.out 0
  have x1 := Lib.cell_of_heap HO1.out 1
  have x2 := Lib.cell_of_heap HO1.out 2
  have x3 := Lib.cell_of_heap HO1.out 3
  have x4 := Lib.cell_of_heap HO1.out 4
  have x5 := Lib.cell_of_heap HO1.out 5
  have x6 := Lib.cell_of_heap HO1.out 6
  have x7 := Lib.cell_of_heap HO1.out 7
  have x8 := Lib.cell_of_heap HO1.out 8
  rw [hW1] at x0 x1 x2 x3 x4 x5 x6 x7 x8

  by_cases hn : n < 0
  ·
    rw [hW1] at HB1
    go_enter Try.func26, Try.ntmps26
    go_wp2
    go_ret
    rw [show r = false from HR.out.trans (by rw [decide_eq_false (show ¬ 0 ≤ n by omega)]; simp)]
    exact ⟨rfl, HB1.out⟩
  ·
    by_cases hq : q < 0
    ·
      rw [hW1] at HB1
      go_enter Try.func26, Try.ntmps26
      go_wp2
      go_ret
      rw [show r = false from HR.out.trans (by rw [decide_eq_false (show ¬ 0 ≤ q by omega)]; simp)]
      exact ⟨rfl, HB1.out⟩
    ·
      cases hpl : It.plainG ⟨a, b, c, o⟩ with
      | false =>
        rw [hpl] at HP
        go_enter Try.func26, Try.ntmps26
        go_wp2_with fail
        rw [← hW1]
        refine (HP.out _).mono ?_
        rintro e w2 ⟨rfl, hb2⟩
        have HB2 := Lib.hid (below_step HB1.out hb2)
        have HO2 := Lib.hid (obj_kept hb2 HO1.out)
        clear hb2
        go_wp2
        go_ret
        rw [show r = false from HR.out.trans (by rw [hpl]; simp)]
        exact ⟨rfl, HB2.out⟩
      | true =>
        obtain ⟨⟨rfl, rfl⟩, rfl⟩ : (b = 0 ∧ c = 0) ∧ o = 0 := by
          unfold It.plainG at hpl
          simp at hpl
          exact hpl
        rw [hpl] at HP
        by_cases hp : p = 0
        · subst hp
          cases f with
          | true =>
            go_enter Try.func26, Try.ntmps26
            go_wp2_with fail
            rw [← hW1]
            refine (HP.out _).mono ?_
            rintro e w2 ⟨rfl, hb2⟩
            have HB2 := Lib.hid (below_step HB1.out hb2)
            have HO2 := Lib.hid (obj_kept hb2 HO1.out)
            clear hb2
            have y7 := Lib.cell_of_heap HO2.out 7
            have y8 := Lib.cell_of_heap HO2.out 8
            have yf7 := Lib.frozen_of_heap HO2.out 7
            have yf8 := Lib.frozen_of_heap HO2.out 8
            obtain ⟨W3, hW3⟩ : ∃ W3, W3 = (w2.setCell ⟨w.heap.size, 7, none⟩ (.int .i64 0)).setCell ⟨w.heap.size, 8, none⟩ (.int .i64 0) := ⟨_, rfl⟩
            have HO3 := Lib.hid (heap_setCell_same _ _ 8 _ _ (.int .i64 0) (heap_setCell_same _ _ 7 _ _ (.int .i64 0) HO2.out))
            simp only [List.setIfInBounds_toArray, List.set_cons_zero, List.set_cons_succ] at HO3
            have HB3 := Lib.hid ((HB2.out.setCell (p := ⟨w.heap.size, 7, none⟩) (Nat.le_refl _) (.int .i64 0)).setCell (p := ⟨w.heap.size, 8, none⟩) (Nat.le_refl _) (.int .i64 0))
            rw [← hW3] at HO3 HB3
            go_upto_region 8 with fail
            rw [← hW3]
            clear hW3 y7 y8 yf7 yf8
            have z1 := Lib.cell_of_heap HO3.out 1
            have z2 := Lib.cell_of_heap HO3.out 2
            have z3 := Lib.cell_of_heap HO3.out 3
            have z4 := Lib.cell_of_heap HO3.out 4
            have z5 := Lib.cell_of_heap HO3.out 5
            have z6 := Lib.cell_of_heap HO3.out 6
            go_wp2
            go_ret
            rw [show r = false from HR.out.trans (by simp)]
            exact ⟨rfl, HB3.out⟩
          | false =>
            by_cases ha : a < 0
            · have ham : It.amt a = false := by unfold It.amt; rw [decide_eq_false (show ¬ 0 ≤ a by omega)]; rfl
              go_enter Try.func26, Try.ntmps26
              go_wp2_with fail
              rw [← hW1]
              refine (HP.out _).mono ?_
              rintro e w2 ⟨rfl, hb2⟩
              have HB2 := Lib.hid (below_step HB1.out hb2)
              have HO2 := Lib.hid (obj_kept hb2 HO1.out)
              clear hb2
              have y7 := Lib.cell_of_heap HO2.out 7
              have y8 := Lib.cell_of_heap HO2.out 8
              have yf7 := Lib.frozen_of_heap HO2.out 7
              have yf8 := Lib.frozen_of_heap HO2.out 8
              obtain ⟨W3, hW3⟩ : ∃ W3, W3 = (w2.setCell ⟨w.heap.size, 7, none⟩ (.int .i64 0)).setCell ⟨w.heap.size, 8, none⟩ (.int .i64 0) := ⟨_, rfl⟩
              have HO3 := Lib.hid (heap_setCell_same _ _ 8 _ _ (.int .i64 0) (heap_setCell_same _ _ 7 _ _ (.int .i64 0) HO2.out))
              simp only [List.setIfInBounds_toArray, List.set_cons_zero, List.set_cons_succ] at HO3
              have HB3 := Lib.hid ((HB2.out.setCell (p := ⟨w.heap.size, 7, none⟩) (Nat.le_refl _) (.int .i64 0)).setCell (p := ⟨w.heap.size, 8, none⟩) (Nat.le_refl _) (.int .i64 0))
              rw [← hW3] at HO3 HB3
              go_upto_region 8 with fail
              rw [← hW3]
              clear hW3 y7 y8 yf7 yf8
              have z1 := Lib.cell_of_heap HO3.out 1
              have z2 := Lib.cell_of_heap HO3.out 2
              have z3 := Lib.cell_of_heap HO3.out 3
              have z4 := Lib.cell_of_heap HO3.out 4
              have z5 := Lib.cell_of_heap HO3.out 5
              have z6 := Lib.cell_of_heap HO3.out 6
              go_wp2
              go_ret
              rw [show r = false from HR.out.trans (by rw [ham]; simp)]
              exact ⟨rfl, HB3.out⟩
            · have ha0 : 0 ≤ a := by omega
              cases hf : Sc.fits a with
              | false =>
                have hg := plain_ok a ha0
                have ham : It.amt a = false := by unfold It.amt; rw [hf, Bool.and_false]
                rw [hf] at hg
                clear hf
                go_enter Try.func26, Try.ntmps26
                go_wp2_with fail
                rw [← hW1]
                refine (HP.out _).mono ?_
                rintro e w2 ⟨rfl, hb2⟩
                have HB2 := Lib.hid (below_step HB1.out hb2)
                have HO2 := Lib.hid (obj_kept hb2 HO1.out)
                clear hb2
                have y7 := Lib.cell_of_heap HO2.out 7
                have y8 := Lib.cell_of_heap HO2.out 8
                have yf7 := Lib.frozen_of_heap HO2.out 7
                have yf8 := Lib.frozen_of_heap HO2.out 8
                obtain ⟨W3, hW3⟩ : ∃ W3, W3 = (w2.setCell ⟨w.heap.size, 7, none⟩ (.int .i64 0)).setCell ⟨w.heap.size, 8, none⟩ (.int .i64 0) := ⟨_, rfl⟩
                have HO3 := Lib.hid (heap_setCell_same _ _ 8 _ _ (.int .i64 0) (heap_setCell_same _ _ 7 _ _ (.int .i64 0) HO2.out))
                simp only [List.setIfInBounds_toArray, List.set_cons_zero, List.set_cons_succ] at HO3
                have HB3 := Lib.hid ((HB2.out.setCell (p := ⟨w.heap.size, 7, none⟩) (Nat.le_refl _) (.int .i64 0)).setCell (p := ⟨w.heap.size, 8, none⟩) (Nat.le_refl _) (.int .i64 0))
                rw [← hW3] at HO3 HB3
                go_upto_region 8 with fail
                rw [← hW3]
                clear hW3 y7 y8 yf7 yf8
                have z1 := Lib.cell_of_heap HO3.out 1
                have z2 := Lib.cell_of_heap HO3.out 2
                have z3 := Lib.cell_of_heap HO3.out 3
                have z4 := Lib.cell_of_heap HO3.out 4
                have z5 := Lib.cell_of_heap HO3.out 5
                have z6 := Lib.cell_of_heap HO3.out 6
                have HM := Lib.hid (fun p hp => glMayOne_any a 0 0 0 W3 p hp)
                have HBm := Lib.hid (below_alloc W3 (.cells #[.int .i64 a, .int .i64 0, .int .i64 0, .int .i64 0] 38))
                rw [hg] at HM
                go_wp2_with fail
                refine (HM.out _ (by first | rfl | exact hs1)).mono ?_
                rintro e w4 ⟨rfl, hb4⟩
                have HB4 := Lib.hid (below_step HB3.out (below_step HBm.out hb4))
                have HO4 := Lib.hid (obj_kept (below_step HBm.out hb4) HO3.out)
                clear hb4
                go_wp2
                go_ret
                rw [show r = false from HR.out.trans (by rw [ham]; simp)]
                exact ⟨rfl, HB4.out⟩
              | true =>
                have hg := plain_ok a ha0
                have ham : It.amt a = true := by unfold It.amt; rw [hf, decide_eq_true ha0]; rfl
                have hpp : It.plainG ⟨a, 0, 0, 0⟩ = true := rfl
                have hpe : It.penOk 0 = true := by decide
                have HW := Lib.hid (fun w => isWidth_any a _ rfl w)
                have HE : Hid (r = true) := Lib.hid (HR.out.trans (by rw [ham, hpl, decide_eq_true (show 0 ≤ n by omega), decide_eq_true (show 0 ≤ q by omega)]; simp))
                rw [hf] at hg
                rw [ham] at HW
                rw [hpp] at HP0
                rw [hpe] at HQ
                clear hf hpp hpe
                go_enter Try.func26, Try.ntmps26
                go_wp2_with fail
                rw [← hW1]
                refine (HP.out _).mono ?_
                rintro e w2 ⟨rfl, hb2⟩
                have HB2 := Lib.hid (below_step HB1.out hb2)
                have HO2 := Lib.hid (obj_kept hb2 HO1.out)
                clear hb2
                have y7 := Lib.cell_of_heap HO2.out 7
                have y8 := Lib.cell_of_heap HO2.out 8
                have yf7 := Lib.frozen_of_heap HO2.out 7
                have yf8 := Lib.frozen_of_heap HO2.out 8
                obtain ⟨W3, hW3⟩ : ∃ W3, W3 = (w2.setCell ⟨w.heap.size, 7, none⟩ (.int .i64 0)).setCell ⟨w.heap.size, 8, none⟩ (.int .i64 0) := ⟨_, rfl⟩
                have HO3 := Lib.hid (heap_setCell_same _ _ 8 _ _ (.int .i64 0) (heap_setCell_same _ _ 7 _ _ (.int .i64 0) HO2.out))
                simp only [List.setIfInBounds_toArray, List.set_cons_zero, List.set_cons_succ] at HO3
                have HB3 := Lib.hid ((HB2.out.setCell (p := ⟨w.heap.size, 7, none⟩) (Nat.le_refl _) (.int .i64 0)).setCell (p := ⟨w.heap.size, 8, none⟩) (Nat.le_refl _) (.int .i64 0))
                rw [← hW3] at HO3 HB3
                go_upto_region 8 with fail
                rw [← hW3]
                clear hW3 y7 y8 yf7 yf8
                have z1 := Lib.cell_of_heap HO3.out 1
                have z2 := Lib.cell_of_heap HO3.out 2
                have z3 := Lib.cell_of_heap HO3.out 3
                have z4 := Lib.cell_of_heap HO3.out 4
                have z5 := Lib.cell_of_heap HO3.out 5
                have z6 := Lib.cell_of_heap HO3.out 6
                have HM := Lib.hid (fun p hp => glMayOne_any a 0 0 0 W3 p hp)
                have HBm := Lib.hid (below_alloc W3 (.cells #[.int .i64 a, .int .i64 0, .int .i64 0, .int .i64 0] 38))
                rw [hg] at HM
                go_wp2_with fail
                refine (HM.out _ (by first | rfl | exact hs1)).mono ?_
                rintro e w4 ⟨rfl, hb4⟩
                have HB4 := Lib.hid (below_step HB3.out (below_step HBm.out hb4))
                have HO4 := Lib.hid (obj_kept (below_step HBm.out hb4) HO3.out)
                clear hb4
                have u1 := Lib.cell_of_heap HO4.out 1
                have u2 := Lib.cell_of_heap HO4.out 2
                have u3 := Lib.cell_of_heap HO4.out 3
                have u4 := Lib.cell_of_heap HO4.out 4
                have uf1 := Lib.frozen_of_heap HO4.out 1
                have uf2 := Lib.frozen_of_heap HO4.out 2
                have uf3 := Lib.frozen_of_heap HO4.out 3
                have uf4 := Lib.frozen_of_heap HO4.out 4
                obtain ⟨W5, hW5⟩ : ∃ W5, W5 = (((w4.setCell ⟨w.heap.size, 1, none⟩ (.int .i64 a)).setCell ⟨w.heap.size, 2, none⟩ (.int .i64 0)).setCell ⟨w.heap.size, 3, none⟩ (.int .i64 0)).setCell ⟨w.heap.size, 4, none⟩ (.int .i64 0) := ⟨_, rfl⟩
                have HO5 := Lib.hid (heap_setCell_same _ _ 4 _ _ (.int .i64 0) (heap_setCell_same _ _ 3 _ _ (.int .i64 0) (heap_setCell_same _ _ 2 _ _ (.int .i64 0) (heap_setCell_same _ _ 1 _ _ (.int .i64 a) HO4.out))))
                simp only [List.setIfInBounds_toArray, List.set_cons_zero, List.set_cons_succ] at HO5
                have HB5 := Lib.hid ((((HB4.out.setCell (p := ⟨w.heap.size, 1, none⟩) (Nat.le_refl _) (.int .i64 a)).setCell (p := ⟨w.heap.size, 2, none⟩) (Nat.le_refl _) (.int .i64 0)).setCell (p := ⟨w.heap.size, 3, none⟩) (Nat.le_refl _) (.int .i64 0)).setCell (p := ⟨w.heap.size, 4, none⟩) (Nat.le_refl _) (.int .i64 0))
                rw [← hW5] at HO5 HB5
                go_upto_region 11 with fail
                rw [← hW5]
                clear hW5 u1 u2 u3 u4 uf1 uf2 uf3 uf4
                have v1 := Lib.cell_of_heap HO5.out 1
                have v2 := Lib.cell_of_heap HO5.out 2
                have v3 := Lib.cell_of_heap HO5.out 3
                have v4 := Lib.cell_of_heap HO5.out 4
                have v5 := Lib.cell_of_heap HO5.out 5
                have v7 := Lib.cell_of_heap HO5.out 7
                have v8 := Lib.cell_of_heap HO5.out 8
                go_wp2_with fail
                refine (HP0.out _).mono ?_
                rintro e w6 ⟨rfl, hb6⟩
                have HB6 := Lib.hid (below_step HB5.out hb6)
                have HO6 := Lib.hid (obj_kept hb6 HO5.out)
                clear hb6
                have t1 := Lib.cell_of_heap HO6.out 1
                have t5 := Lib.cell_of_heap HO6.out 5
                go_wp2_with fail
                refine (HW.out _).mono ?_
                rintro e w7 ⟨rfl, rfl⟩
                go_wp2_with fail
                refine (HQ.out _).mono ?_
                rintro e w7 ⟨rfl, rfl⟩
                go_wp2
                go_ret
                rw [HE.out]
                exact ⟨rfl, HB6.out⟩
        · have hpb : (p == 0) = false := beq_eq_false_iff_ne.2 hp
          have hpc : (p != 0) = true := by simp only [bne, hpb]; rfl
          have hpd : decide (p = 0) = false := decide_eq_false hp
          go_enter Try.func26, Try.ntmps26
          go_wp2_with fail
          rw [← hW1]
          refine (HP.out _).mono ?_
          rintro e w2 ⟨rfl, hb2⟩
          have HB2 := Lib.hid (below_step HB1.out hb2)
          have HO2 := Lib.hid (obj_kept hb2 HO1.out)
          clear hb2
          have y7 := Lib.cell_of_heap HO2.out 7
          have y8 := Lib.cell_of_heap HO2.out 8
          have yf7 := Lib.frozen_of_heap HO2.out 7
          have yf8 := Lib.frozen_of_heap HO2.out 8
          obtain ⟨W3, hW3⟩ : ∃ W3, W3 = (w2.setCell ⟨w.heap.size, 7, none⟩ (.int .i64 0)).setCell ⟨w.heap.size, 8, none⟩ (.int .i64 0) := ⟨_, rfl⟩
          have HO3 := Lib.hid (heap_setCell_same _ _ 8 _ _ (.int .i64 0) (heap_setCell_same _ _ 7 _ _ (.int .i64 0) HO2.out))
          simp only [List.setIfInBounds_toArray, List.set_cons_zero, List.set_cons_succ] at HO3
          have HB3 := Lib.hid ((HB2.out.setCell (p := ⟨w.heap.size, 7, none⟩) (Nat.le_refl _) (.int .i64 0)).setCell (p := ⟨w.heap.size, 8, none⟩) (Nat.le_refl _) (.int .i64 0))
          rw [← hW3] at HO3 HB3
          go_upto_region 8 with fail
          rw [← hW3]
          clear hW3 y7 y8 yf7 yf8
          have z1 := Lib.cell_of_heap HO3.out 1
          have z2 := Lib.cell_of_heap HO3.out 2
          have z3 := Lib.cell_of_heap HO3.out 3
          have z4 := Lib.cell_of_heap HO3.out 4
          have z5 := Lib.cell_of_heap HO3.out 5
          have z6 := Lib.cell_of_heap HO3.out 6
          go_wp2
          go_ret
          rw [show r = false from HR.out.trans (by rw [hpd]; simp)]
          exact ⟨rfl, HB3.out⟩

set_option maxHeartbeats 4000000 in
set_option maxRecDepth 100000 in
theorem valid_glue (a b c o p : Int) (f : Bool) (n q : Int) (w : World) : Calls Try.prog 26 #[.agg #[.int .i64 1, .int .i64 a, .int .i64 b, .int .i64 c, .int .i64 o, .int .i64 p, .bool f, .int .i64 n, .int .i64 q]] w (Ret (.bool (It.right ⟨1, ⟨a, b, c, o⟩, p, f, n, q⟩)) w) := by
  have HR : Hid (It.right ⟨1, ⟨a, b, c, o⟩, p, f, n, q⟩ = (if n ≠ 0 ∨ q ≠ 0 then false else It.glOk ⟨a, b, c, o⟩ && decide (c ≤ a) && decide (p = 0) && !f)) := Lib.hid (by unfold It.right; simp [It.boxG])
  obtain ⟨r, hr⟩ : ∃ r, r = It.right ⟨1, ⟨a, b, c, o⟩, p, f, n, q⟩ := ⟨_, rfl⟩
  rw [← hr] at HR ⊢
  clear hr
  have HB1 := Lib.hid (below_alloc w (.cells #[.int .i64 1, .int .i64 a, .int .i64 b, .int .i64 c, .int .i64 o, .int .i64 p, .bool f, .int .i64 n, .int .i64 q] 40))
  have HO1 := Lib.hid (obj_new w _ rfl #[.int .i64 1, .int .i64 a, .int .i64 b, .int .i64 c, .int .i64 o, .int .i64 p, .bool f, .int .i64 n, .int .i64 q] 40)
  obtain ⟨W1, hW1⟩ : ∃ W1, W1 = w.alloc (.cells #[.int .i64 1, .int .i64 a, .int .i64 b, .int .i64 c, .int .i64 o, .int .i64 p, .bool f, .int .i64 n, .int .i64 q] 40) := ⟨_, rfl⟩
  have hs1 : W1.heap.size = w.heap.size + 1 := by rw [hW1, World.size_alloc]
  rw [← hW1] at HB1 HO1
  have HP0 := Lib.hid (fun w => isPlain_any ⟨a, 0, 0, 0⟩ w)
  unfold glV at HP0
  simp only [] at HP0
  have HQ := Lib.hid (fun w => isPenalty_any 0 w)
  have x0 := Lib.cell_of_heap HO1.out 0
  have x1 := Lib.cell_of_heap HO1.out 1
  have x2 := Lib.cell_of_heap HO1.out 2
  have x3 := Lib.cell_of_heap HO1.out 3
  have x4 := Lib.cell_of_heap HO1.out 4
  have x5 := Lib.cell_of_heap HO1.out 5
  have x6 := Lib.cell_of_heap HO1.out 6
  have x7 := Lib.cell_of_heap HO1.out 7
  have x8 := Lib.cell_of_heap HO1.out 8
  by_cases hp : p = 0
  · subst hp
    cases f with
    | true =>
      go_enter Try.func26, Try.ntmps26
      go_upto_region 8 with fail
      rw [← hW1]
      clear hW1
      go_wp2
      go_ret
      rw [show r = false from HR.out.trans (by simp)]
      exact ⟨rfl, HB1.out⟩
    | false =>
      by_cases ha : a < c
      · have hac : decide (c ≤ a) = false := decide_eq_false (by omega)
        go_enter Try.func26, Try.ntmps26
        go_upto_region 8 with fail
        rw [← hW1]
        clear hW1
        go_wp2
        go_ret
        rw [show r = false from HR.out.trans (by rw [hac]; simp)]
        exact ⟨rfl, HB1.out⟩
      · have hac : decide (c ≤ a) = true := decide_eq_true (by omega)
        cases hf : It.glOk ⟨a, b, c, o⟩ with
        | false =>
          go_enter Try.func26, Try.ntmps26
          go_upto_region 8 with fail
          rw [← hW1]
          clear hW1
          have HM := Lib.hid (fun p hp => glMayOne_any a b c o W1 p hp)
          have HBm := Lib.hid (below_alloc W1 (.cells #[.int .i64 a, .int .i64 b, .int .i64 c, .int .i64 o] 38))
          rw [hf] at HM
          go_wp2_with fail
          refine (HM.out _ (by first | rfl | exact hs1)).mono ?_
          rintro e w4 ⟨rfl, hb4⟩
          have HB4 := Lib.hid (below_step HB1.out (below_step HBm.out hb4))
          have HO4 := Lib.hid (obj_kept (below_step HBm.out hb4) HO1.out)
          clear hb4
          go_wp2
          go_ret
          rw [show r = false from HR.out.trans (by rw [hf]; simp)]
          exact ⟨rfl, HB4.out⟩
        | true =>
          have hgo := It.glOk_yes hf
          simp only [] at hgo
          have ham : It.amt a = true := It.amt_of (by omega) (by omega)
          have hpp : It.plainG ⟨a, 0, 0, 0⟩ = true := rfl
          have hpe : It.penOk 0 = true := by decide
          have HW := Lib.hid (fun w => isWidth_any a _ rfl w)
          rw [ham] at HW
          rw [hpp] at HP0
          rw [hpe] at HQ
          clear hpp hpe ham hgo
          by_cases hn : n = 0
          · subst hn
            by_cases hq : q = 0
            · subst hq
              have HE : Hid (r = true) := Lib.hid (HR.out.trans (by rw [hf, hac]; simp))
              go_enter Try.func26, Try.ntmps26
              go_upto_region 8 with fail
              rw [← hW1]
              clear hW1
              have HM := Lib.hid (fun p hp => glMayOne_any a b c o W1 p hp)
              have HBm := Lib.hid (below_alloc W1 (.cells #[.int .i64 a, .int .i64 b, .int .i64 c, .int .i64 o] 38))
              rw [hf] at HM
              go_wp2_with fail
              refine (HM.out _ (by first | rfl | exact hs1)).mono ?_
              rintro e w4 ⟨rfl, hb4⟩
              have HB4 := Lib.hid (below_step HB1.out (below_step HBm.out hb4))
              have HO4 := Lib.hid (obj_kept (below_step HBm.out hb4) HO1.out)
              clear hb4
              have u1 := Lib.cell_of_heap HO4.out 1
              have u2 := Lib.cell_of_heap HO4.out 2
              have u3 := Lib.cell_of_heap HO4.out 3
              have u4 := Lib.cell_of_heap HO4.out 4
              have uf1 := Lib.frozen_of_heap HO4.out 1
              have uf2 := Lib.frozen_of_heap HO4.out 2
              have uf3 := Lib.frozen_of_heap HO4.out 3
              have uf4 := Lib.frozen_of_heap HO4.out 4
              obtain ⟨W5, hW5⟩ : ∃ W5, W5 = (((w4.setCell ⟨w.heap.size, 1, none⟩ (.int .i64 a)).setCell ⟨w.heap.size, 2, none⟩ (.int .i64 0)).setCell ⟨w.heap.size, 3, none⟩ (.int .i64 0)).setCell ⟨w.heap.size, 4, none⟩ (.int .i64 0) := ⟨_, rfl⟩
              have HO5 := Lib.hid (heap_setCell_same _ _ 4 _ _ (.int .i64 0) (heap_setCell_same _ _ 3 _ _ (.int .i64 0) (heap_setCell_same _ _ 2 _ _ (.int .i64 0) (heap_setCell_same _ _ 1 _ _ (.int .i64 a) HO4.out))))
              simp only [List.setIfInBounds_toArray, List.set_cons_zero, List.set_cons_succ] at HO5
              have HB5 := Lib.hid ((((HB4.out.setCell (p := ⟨w.heap.size, 1, none⟩) (Nat.le_refl _) (.int .i64 a)).setCell (p := ⟨w.heap.size, 2, none⟩) (Nat.le_refl _) (.int .i64 0)).setCell (p := ⟨w.heap.size, 3, none⟩) (Nat.le_refl _) (.int .i64 0)).setCell (p := ⟨w.heap.size, 4, none⟩) (Nat.le_refl _) (.int .i64 0))
              rw [← hW5] at HO5 HB5
              go_upto_region 11 with fail
              rw [← hW5]
              clear hW5 u1 u2 u3 u4 uf1 uf2 uf3 uf4
              have v1 := Lib.cell_of_heap HO5.out 1
              have v2 := Lib.cell_of_heap HO5.out 2
              have v3 := Lib.cell_of_heap HO5.out 3
              have v4 := Lib.cell_of_heap HO5.out 4
              have v5 := Lib.cell_of_heap HO5.out 5
              have v7 := Lib.cell_of_heap HO5.out 7
              have v8 := Lib.cell_of_heap HO5.out 8
              go_wp2_with fail
              refine (HP0.out _).mono ?_
              rintro e w6 ⟨rfl, hb6⟩
              have HB6 := Lib.hid (below_step HB5.out hb6)
              have HO6 := Lib.hid (obj_kept hb6 HO5.out)
              clear hb6
              have t1 := Lib.cell_of_heap HO6.out 1
              have t5 := Lib.cell_of_heap HO6.out 5
              go_wp2_with fail
              refine (HW.out _).mono ?_
              rintro e w7 ⟨rfl, rfl⟩
              go_wp2_with fail
              refine (HQ.out _).mono ?_
              rintro e w7 ⟨rfl, rfl⟩
              go_wp2
              go_ret
              rw [HE.out]
              exact ⟨rfl, HB6.out⟩
            · have hqd : (if (0 : Int) ≠ 0 ∨ q ≠ 0 then false else It.glOk ⟨a, b, c, o⟩ && decide (c ≤ a) && decide ((0 : Int) = 0) && !false) = false := if_pos (.inr hq)
              have qb : (q == 0) = false := beq_eq_false_iff_ne.2 hq
              have qc : (q != 0) = true := by simp only [bne, qb]; rfl
              go_enter Try.func26, Try.ntmps26
              go_upto_region 8 with fail
              rw [← hW1]
              clear hW1
              have HM := Lib.hid (fun p hp => glMayOne_any a b c o W1 p hp)
              have HBm := Lib.hid (below_alloc W1 (.cells #[.int .i64 a, .int .i64 b, .int .i64 c, .int .i64 o] 38))
              rw [hf] at HM
              go_wp2_with fail
              refine (HM.out _ (by first | rfl | exact hs1)).mono ?_
              rintro e w4 ⟨rfl, hb4⟩
              have HB4 := Lib.hid (below_step HB1.out (below_step HBm.out hb4))
              have HO4 := Lib.hid (obj_kept (below_step HBm.out hb4) HO1.out)
              clear hb4
              have u1 := Lib.cell_of_heap HO4.out 1
              have u2 := Lib.cell_of_heap HO4.out 2
              have u3 := Lib.cell_of_heap HO4.out 3
              have u4 := Lib.cell_of_heap HO4.out 4
              have uf1 := Lib.frozen_of_heap HO4.out 1
              have uf2 := Lib.frozen_of_heap HO4.out 2
              have uf3 := Lib.frozen_of_heap HO4.out 3
              have uf4 := Lib.frozen_of_heap HO4.out 4
              obtain ⟨W5, hW5⟩ : ∃ W5, W5 = (((w4.setCell ⟨w.heap.size, 1, none⟩ (.int .i64 a)).setCell ⟨w.heap.size, 2, none⟩ (.int .i64 0)).setCell ⟨w.heap.size, 3, none⟩ (.int .i64 0)).setCell ⟨w.heap.size, 4, none⟩ (.int .i64 0) := ⟨_, rfl⟩
              have HO5 := Lib.hid (heap_setCell_same _ _ 4 _ _ (.int .i64 0) (heap_setCell_same _ _ 3 _ _ (.int .i64 0) (heap_setCell_same _ _ 2 _ _ (.int .i64 0) (heap_setCell_same _ _ 1 _ _ (.int .i64 a) HO4.out))))
              simp only [List.setIfInBounds_toArray, List.set_cons_zero, List.set_cons_succ] at HO5
              have HB5 := Lib.hid ((((HB4.out.setCell (p := ⟨w.heap.size, 1, none⟩) (Nat.le_refl _) (.int .i64 a)).setCell (p := ⟨w.heap.size, 2, none⟩) (Nat.le_refl _) (.int .i64 0)).setCell (p := ⟨w.heap.size, 3, none⟩) (Nat.le_refl _) (.int .i64 0)).setCell (p := ⟨w.heap.size, 4, none⟩) (Nat.le_refl _) (.int .i64 0))
              rw [← hW5] at HO5 HB5
              go_upto_region 11 with fail
              rw [← hW5]
              clear hW5 u1 u2 u3 u4 uf1 uf2 uf3 uf4
              have v1 := Lib.cell_of_heap HO5.out 1
              have v2 := Lib.cell_of_heap HO5.out 2
              have v3 := Lib.cell_of_heap HO5.out 3
              have v4 := Lib.cell_of_heap HO5.out 4
              have v5 := Lib.cell_of_heap HO5.out 5
              have v7 := Lib.cell_of_heap HO5.out 7
              have v8 := Lib.cell_of_heap HO5.out 8
              go_wp2
              go_ret
              rw [show r = false from HR.out.trans (by exact hqd)]
              exact ⟨rfl, HB5.out⟩
          · have hnd : (if n ≠ 0 ∨ q ≠ 0 then false else It.glOk ⟨a, b, c, o⟩ && decide (c ≤ a) && decide ((0 : Int) = 0) && !false) = false := if_pos (.inl hn)
            have nb : (n == 0) = false := beq_eq_false_iff_ne.2 hn
            have nc : (n != 0) = true := by simp only [bne, nb]; rfl
            go_enter Try.func26, Try.ntmps26
            go_upto_region 8 with fail
            rw [← hW1]
            clear hW1
            have HM := Lib.hid (fun p hp => glMayOne_any a b c o W1 p hp)
            have HBm := Lib.hid (below_alloc W1 (.cells #[.int .i64 a, .int .i64 b, .int .i64 c, .int .i64 o] 38))
            rw [hf] at HM
            go_wp2_with fail
            refine (HM.out _ (by first | rfl | exact hs1)).mono ?_
            rintro e w4 ⟨rfl, hb4⟩
            have HB4 := Lib.hid (below_step HB1.out (below_step HBm.out hb4))
            have HO4 := Lib.hid (obj_kept (below_step HBm.out hb4) HO1.out)
            clear hb4
            have u1 := Lib.cell_of_heap HO4.out 1
            have u2 := Lib.cell_of_heap HO4.out 2
            have u3 := Lib.cell_of_heap HO4.out 3
            have u4 := Lib.cell_of_heap HO4.out 4
            have uf1 := Lib.frozen_of_heap HO4.out 1
            have uf2 := Lib.frozen_of_heap HO4.out 2
            have uf3 := Lib.frozen_of_heap HO4.out 3
            have uf4 := Lib.frozen_of_heap HO4.out 4
            obtain ⟨W5, hW5⟩ : ∃ W5, W5 = (((w4.setCell ⟨w.heap.size, 1, none⟩ (.int .i64 a)).setCell ⟨w.heap.size, 2, none⟩ (.int .i64 0)).setCell ⟨w.heap.size, 3, none⟩ (.int .i64 0)).setCell ⟨w.heap.size, 4, none⟩ (.int .i64 0) := ⟨_, rfl⟩
            have HO5 := Lib.hid (heap_setCell_same _ _ 4 _ _ (.int .i64 0) (heap_setCell_same _ _ 3 _ _ (.int .i64 0) (heap_setCell_same _ _ 2 _ _ (.int .i64 0) (heap_setCell_same _ _ 1 _ _ (.int .i64 a) HO4.out))))
            simp only [List.setIfInBounds_toArray, List.set_cons_zero, List.set_cons_succ] at HO5
            have HB5 := Lib.hid ((((HB4.out.setCell (p := ⟨w.heap.size, 1, none⟩) (Nat.le_refl _) (.int .i64 a)).setCell (p := ⟨w.heap.size, 2, none⟩) (Nat.le_refl _) (.int .i64 0)).setCell (p := ⟨w.heap.size, 3, none⟩) (Nat.le_refl _) (.int .i64 0)).setCell (p := ⟨w.heap.size, 4, none⟩) (Nat.le_refl _) (.int .i64 0))
            rw [← hW5] at HO5 HB5
            go_upto_region 11 with fail
            rw [← hW5]
            clear hW5 u1 u2 u3 u4 uf1 uf2 uf3 uf4
            have v1 := Lib.cell_of_heap HO5.out 1
            have v2 := Lib.cell_of_heap HO5.out 2
            have v3 := Lib.cell_of_heap HO5.out 3
            have v4 := Lib.cell_of_heap HO5.out 4
            have v5 := Lib.cell_of_heap HO5.out 5
            have v7 := Lib.cell_of_heap HO5.out 7
            have v8 := Lib.cell_of_heap HO5.out 8
            go_wp2
            go_ret
            rw [show r = false from HR.out.trans (by exact hnd)]
            exact ⟨rfl, HB5.out⟩
  · have hpd : decide (p = 0) = false := decide_eq_false hp
    have pb : (p == 0) = false := beq_eq_false_iff_ne.2 hp
    have pc : (p != 0) = true := by simp only [bne, pb]; rfl
    go_enter Try.func26, Try.ntmps26
    go_upto_region 8 with fail
    rw [← hW1]
    clear hW1
    go_wp2
    go_ret
    rw [show r = false from HR.out.trans (by rw [hpd]; simp)]
    exact ⟨rfl, HB1.out⟩

set_option maxHeartbeats 4000000 in
set_option maxRecDepth 100000 in
theorem valid_pen (a b c o p : Int) (f : Bool) (n q : Int) (w : World) : Calls Try.prog 26 #[.agg #[.int .i64 2, .int .i64 a, .int .i64 b, .int .i64 c, .int .i64 o, .int .i64 p, .bool f, .int .i64 n, .int .i64 q]] w (Ret (.bool (It.right ⟨2, ⟨a, b, c, o⟩, p, f, n, q⟩)) w) := by
  have HR : Hid (It.right ⟨2, ⟨a, b, c, o⟩, p, f, n, q⟩ = (if n ≠ 0 ∨ q ≠ 0 then false else It.boxG ⟨a, b, c, o⟩ && It.penOk p)) := Lib.hid (by unfold It.right; simp [It.boxG])
  obtain ⟨r, hr⟩ : ∃ r, r = It.right ⟨2, ⟨a, b, c, o⟩, p, f, n, q⟩ := ⟨_, rfl⟩
  rw [← hr] at HR ⊢
  clear hr
  have HB1 := Lib.hid (below_alloc w (.cells #[.int .i64 2, .int .i64 a, .int .i64 b, .int .i64 c, .int .i64 o, .int .i64 p, .bool f, .int .i64 n, .int .i64 q] 40))
  have HO1 := Lib.hid (obj_new w _ rfl #[.int .i64 2, .int .i64 a, .int .i64 b, .int .i64 c, .int .i64 o, .int .i64 p, .bool f, .int .i64 n, .int .i64 q] 40)
  obtain ⟨W1, hW1⟩ : ∃ W1, W1 = w.alloc (.cells #[.int .i64 2, .int .i64 a, .int .i64 b, .int .i64 c, .int .i64 o, .int .i64 p, .bool f, .int .i64 n, .int .i64 q] 40) := ⟨_, rfl⟩
  have hs1 : W1.heap.size = w.heap.size + 1 := by rw [hW1, World.size_alloc]
  rw [← hW1] at HB1 HO1
  have HP := Lib.hid (fun w => isPlain_any ⟨a, b, c, o⟩ w)
  unfold glV at HP
  simp only [] at HP
  have HQ := Lib.hid (fun w => isPenalty_any p w)
  have HW := Lib.hid (fun w => isWidth_any a _ rfl w)
  have x0 := Lib.cell_of_heap HO1.out 0
  have x1 := Lib.cell_of_heap HO1.out 1
  have x2 := Lib.cell_of_heap HO1.out 2
  have x3 := Lib.cell_of_heap HO1.out 3
  have x4 := Lib.cell_of_heap HO1.out 4
  have x5 := Lib.cell_of_heap HO1.out 5
  have x6 := Lib.cell_of_heap HO1.out 6
  have x7 := Lib.cell_of_heap HO1.out 7
  have x8 := Lib.cell_of_heap HO1.out 8
  by_cases hn : n = 0
  · subst hn
    by_cases hq : q = 0
    · subst hq
      have HR2 : Hid (r = (It.amt a && It.plainG ⟨a, b, c, o⟩ && It.penOk p)) := Lib.hid (HR.out.trans (if_neg (by simp)))
      generalize It.amt a = c1 at HR2 HW
      generalize It.plainG ⟨a, b, c, o⟩ = c2 at HR2 HP
      generalize It.penOk p = c3 at HR2 HQ
      clear HR
      cases c2 with
      | false =>
        go_enter Try.func26, Try.ntmps26
        go_upto_region 11 with fail
        rw [← hW1]
        clear hW1
        go_wp2_with fail
        refine (HP.out _).mono ?_
        rintro e w2 ⟨rfl, hb2⟩
        have HB2 := Lib.hid (below_step HB1.out hb2)
        have HO2 := Lib.hid (obj_kept hb2 HO1.out)
        clear hb2
        have t1 := Lib.cell_of_heap HO2.out 1
        have t5 := Lib.cell_of_heap HO2.out 5
        go_wp2
        go_ret
        rw [show r = false from HR2.out.trans (by cases c1 <;> rfl)]
        exact ⟨rfl, HB2.out⟩
      | true =>
        cases c1 with
        | false =>
          go_enter Try.func26, Try.ntmps26
          go_upto_region 11 with fail
          rw [← hW1]
          clear hW1
          go_wp2_with fail
          refine (HP.out _).mono ?_
          rintro e w2 ⟨rfl, hb2⟩
          have HB2 := Lib.hid (below_step HB1.out hb2)
          have HO2 := Lib.hid (obj_kept hb2 HO1.out)
          clear hb2
          have t1 := Lib.cell_of_heap HO2.out 1
          have t5 := Lib.cell_of_heap HO2.out 5
          go_wp2_with fail
          refine (HW.out _).mono ?_
          rintro e w7 ⟨rfl, rfl⟩
          go_wp2
          go_ret
          rw [show r = false from HR2.out.trans (by rfl)]
          exact ⟨rfl, HB2.out⟩
        | true =>
          go_enter Try.func26, Try.ntmps26
          go_upto_region 11 with fail
          rw [← hW1]
          clear hW1
          go_wp2_with fail
          refine (HP.out _).mono ?_
          rintro e w2 ⟨rfl, hb2⟩
          have HB2 := Lib.hid (below_step HB1.out hb2)
          have HO2 := Lib.hid (obj_kept hb2 HO1.out)
          clear hb2
          have t1 := Lib.cell_of_heap HO2.out 1
          have t5 := Lib.cell_of_heap HO2.out 5
          go_wp2_with fail
          refine (HW.out _).mono ?_
          rintro e w7 ⟨rfl, rfl⟩
          go_wp2_with fail
          refine (HQ.out _).mono ?_
          rintro e w7 ⟨rfl, rfl⟩
          go_wp2
          go_ret
          rw [show r = c3 from HR2.out]
          exact ⟨rfl, HB2.out⟩
    · have hqd : (if (0 : Int) ≠ 0 ∨ q ≠ 0 then false else It.boxG ⟨a, b, c, o⟩ && It.penOk p) = false := if_pos (.inr hq)
      have qb : (q == 0) = false := beq_eq_false_iff_ne.2 hq
      have qc : (q != 0) = true := by simp only [bne, qb]; rfl
      go_enter Try.func26, Try.ntmps26
      go_upto_region 11 with fail
      rw [← hW1]
      clear hW1
      go_wp2
      go_ret
      rw [show r = false from HR.out.trans (by exact hqd)]
      exact ⟨rfl, HB1.out⟩
  · have hnd : (if n ≠ 0 ∨ q ≠ 0 then false else It.boxG ⟨a, b, c, o⟩ && It.penOk p) = false := if_pos (.inl hn)
    have nb : (n == 0) = false := beq_eq_false_iff_ne.2 hn
    have nc : (n != 0) = true := by simp only [bne, nb]; rfl
    go_enter Try.func26, Try.ntmps26
    go_upto_region 11 with fail
    rw [← hW1]
    clear hW1
    go_wp2
    go_ret
    rw [show r = false from HR.out.trans (by exact hnd)]
    exact ⟨rfl, HB1.out⟩

set_option maxHeartbeats 4000000 in
set_option maxRecDepth 100000 in
theorem valid_other (k a b c o p : Int) (f : Bool) (n q : Int) (h0 : k ≠ 0) (h1 : k ≠ 1) (h2 : k ≠ 2) (w : World) : Calls Try.prog 26 #[.agg #[.int .i64 k, .int .i64 a, .int .i64 b, .int .i64 c, .int .i64 o, .int .i64 p, .bool f, .int .i64 n, .int .i64 q]] w (Ret (.bool (It.right ⟨k, ⟨a, b, c, o⟩, p, f, n, q⟩)) w) := by
  have HE : Hid (It.right ⟨k, ⟨a, b, c, o⟩, p, f, n, q⟩ = false) := Lib.hid (by unfold It.right; simp [h0, h1, h2])
  generalize It.right ⟨k, ⟨a, b, c, o⟩, p, f, n, q⟩ = r at HE ⊢
  have HB1 := Lib.hid (below_alloc w (.cells #[.int .i64 k, .int .i64 a, .int .i64 b, .int .i64 c, .int .i64 o, .int .i64 p, .bool f, .int .i64 n, .int .i64 q] 40))
  have e0 : (k == 0) = false := beq_eq_false_iff_ne.2 h0
  have e1 : (k == 1) = false := beq_eq_false_iff_ne.2 h1
  have e2 : (k == 2) = false := beq_eq_false_iff_ne.2 h2
  go_enter Try.func26, Try.ntmps26
  go_wp2
  go_ret
  rw [HE.out]
  exact ⟨rfl, HB1.out⟩
theorem valid_any (x : It.Itm) (w : World) : Calls Try.prog 26 #[itV x] w (Ret (.bool (It.right x)) w) := by
  obtain ⟨k, ⟨a, b, c, o⟩, p, f, n, q⟩ := x
  by_cases h0 : k = 0
  · subst h0; exact valid_box a b c o p f n q w
  · by_cases h1 : k = 1
    · subst h1; exact valid_glue a b c o p f n q w
    · by_cases h2 : k = 2
      · subst h2; exact valid_pen a b c o p f n q w
      · exact valid_other k a b c o p f n q h0 h1 h2 w
end Go.Proofs.Ythcilpijiindeaa
