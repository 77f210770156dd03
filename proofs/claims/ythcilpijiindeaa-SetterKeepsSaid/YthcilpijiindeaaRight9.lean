/-
  The reference's Right: may an item by itself be?
-/
import Derived.Test.YthcilpijiindeaaValid9
set_option linter.unusedVariables false
set_option linter.unusedSimpArgs false
namespace Go.Proofs.Ythcilpijiindeaa
open Go.RowKit

theorem refGlMayOne_any (a b c o : Int) (w : World) (p : Nat) (hp : w.heap.size = p) : Calls Try.prog 23 #[.slice (some ⟨p, 0, none⟩) 1 1] (w.alloc (.cells #[.int .i64 a, .int .i64 b, .int .i64 c, .int .i64 o] 38)) (Ret (.bool (It.glOk ⟨a, b, c, o⟩)) (w.alloc (.cells #[.int .i64 a, .int .i64 b, .int .i64 c, .int .i64 o] 38))) := by
  rw [← It.glMay_one]
  exact refGlMay_any _ _ _ (gls_one w p hp a b c o)

set_option maxHeartbeats 8000000 in
set_option maxRecDepth 100000 in
theorem right_any (x : It.Itm) (w : World) : Calls Try.prog 22 #[itV x] w (Ret (.bool (It.right x)) w) := by
  obtain ⟨k, ⟨a, b, c, o⟩, p, f, n, q⟩ := x
  have HR00 : Hid (It.right ⟨k, ⟨a, b, c, o⟩, p, f, n, q⟩ = if k = 0 then (It.amt a && It.plainG ⟨a, b, c, o⟩) && decide (p = 0) && !f && decide (0 ≤ n) && decide (0 ≤ q) else if n ≠ 0 ∨ q ≠ 0 then false else if k = 1 then It.glOk ⟨a, b, c, o⟩ && decide (c ≤ a) && decide (p = 0) && !f else decide (k = 2) && (It.amt a && It.plainG ⟨a, b, c, o⟩) && It.penOk p) := Lib.hid rfl
  obtain ⟨r, hr⟩ : ∃ r, r = It.right ⟨k, ⟨a, b, c, o⟩, p, f, n, q⟩ := ⟨_, rfl⟩
  rw [← hr] at HR00 ⊢
  clear hr
  unfold itV
  simp only []
  have HB2 := Lib.hid (below_step (below_alloc w (.cells #[.int .i64 k, .int .i64 a, .int .i64 b, .int .i64 c, .int .i64 o, .int .i64 p, .bool f, .int .i64 n, .int .i64 q] 40)) (below_alloc (w.alloc (.cells #[.int .i64 k, .int .i64 a, .int .i64 b, .int .i64 c, .int .i64 o, .int .i64 p, .bool f, .int .i64 n, .int .i64 q] 40)) (.cells #[.int .i64 a, .int .i64 b, .int .i64 c, .int .i64 o] 38)))
  have HO2 := Lib.hid (obj_kept (below_alloc (w.alloc (.cells #[.int .i64 k, .int .i64 a, .int .i64 b, .int .i64 c, .int .i64 o, .int .i64 p, .bool f, .int .i64 n, .int .i64 q] 40)) (.cells #[.int .i64 a, .int .i64 b, .int .i64 c, .int .i64 o] 38)) (obj_new w _ rfl #[.int .i64 k, .int .i64 a, .int .i64 b, .int .i64 c, .int .i64 o, .int .i64 p, .bool f, .int .i64 n, .int .i64 q] 40))
  have HG2 := Lib.hid (obj_new (w.alloc (.cells #[.int .i64 k, .int .i64 a, .int .i64 b, .int .i64 c, .int .i64 o, .int .i64 p, .bool f, .int .i64 n, .int .i64 q] 40)) (w.heap.size + 1) (World.size_alloc _ _) #[.int .i64 a, .int .i64 b, .int .i64 c, .int .i64 o] 38)
  obtain ⟨W2, hW2⟩ : ∃ W2, W2 = (w.alloc (.cells #[.int .i64 k, .int .i64 a, .int .i64 b, .int .i64 c, .int .i64 o, .int .i64 p, .bool f, .int .i64 n, .int .i64 q] 40)).alloc (.cells #[.int .i64 a, .int .i64 b, .int .i64 c, .int .i64 o] 38) := ⟨_, rfl⟩
  have hs2 : W2.heap.size = w.heap.size + 1 + 1 := by rw [hW2, World.size_alloc, World.size_alloc]
  rw [← hW2] at HB2 HO2 HG2
  go_enter Try.func22, Try.ntmps22
  go_upto_region 2 with fail
  rw [← hW2]
  clear hW2
  have g0 := Lib.cell_of_heap HG2.out 0
  have g1 := Lib.cell_of_heap HG2.out 1
  have g2 := Lib.cell_of_heap HG2.out 2
  have g3 := Lib.cell_of_heap HG2.out 3
  have x0 := Lib.cell_of_heap HO2.out 0
  have x5 := Lib.cell_of_heap HO2.out 5
  have x6 := Lib.cell_of_heap HO2.out 6
  have x7 := Lib.cell_of_heap HO2.out 7
  have x8 := Lib.cell_of_heap HO2.out 8
  go_cut [4] (fun av wx => av = .bool (It.amt a) ∧ wx = W2)
  case first =>
    by_cases ha : a < 0
    · have e : It.amt a = false := by unfold It.amt; rw [decide_eq_false (show ¬ 0 ≤ a by omega)]; rfl
      go_wp2_with fail
      go_meet
      exact ⟨by rw [e], rfl⟩
    · have ha0 : 0 ≤ a := by omega
      have e : It.amt a = Sc.fits a := by unfold It.amt; rw [decide_eq_true ha0]; rfl
      have HF := Lib.hid (fun w => refFits_any a _ rfl w)
      obtain ⟨uf, huf⟩ : ∃ uf, uf = Sc.fits a := ⟨_, rfl⟩
      rw [← huf] at HF e
      clear huf
      go_wp2_with fail
      refine (HF.out _).mono ?_
      rintro e w1 ⟨rfl, rfl⟩
      go_wp2_with fail
      go_meet
      exact ⟨by rw [e], rfl⟩
  case rest =>
    obtain ⟨rfl, rfl⟩ := hcut
    generalize It.amt a = am at HR00 ⊢
    go_upto_region 3 with fail
    go_cut [5] (fun bv wx => bv = .bool (am && It.plainG ⟨a, b, c, o⟩) ∧ wx = wc)
    case first =>
      cases am with
      | false =>
        go_wp2_with fail
        go_meet
        exact ⟨by rfl, rfl⟩
      | true =>
        by_cases hb : b = 0
        · subst hb
          by_cases hc : c = 0
          · subst hc
            by_cases ho : o = 0
            · subst ho
              go_wp2_with fail
              go_meet
              exact ⟨by rfl, rfl⟩
            · have ob : (o == 0) = false := beq_eq_false_iff_ne.2 ho
              have e : It.plainG ⟨a, 0, 0, o⟩ = false := by unfold It.plainG; simp [ho]
              go_wp2_with fail
              go_meet
              exact ⟨by rw [e]; rfl, rfl⟩
          · have cb : (c == 0) = false := beq_eq_false_iff_ne.2 hc
            have e : It.plainG ⟨a, 0, c, o⟩ = false := by unfold It.plainG; simp [hc]
            go_wp2_with fail
            go_meet
            exact ⟨by rw [e]; rfl, rfl⟩
        · have bb : (b == 0) = false := beq_eq_false_iff_ne.2 hb
          have e : It.plainG ⟨a, b, c, o⟩ = false := by unfold It.plainG; simp [hb]
          go_wp2_with fail
          go_meet
          exact ⟨by rw [e]; rfl, rfl⟩
    case rest =>
      obtain ⟨rfl, rfl⟩ := hcut
      obtain ⟨bx, hbx⟩ : ∃ bx, bx = (am && It.plainG ⟨a, b, c, o⟩) := ⟨_, rfl⟩
      rw [← hbx] at HR00 ⊢
      clear hbx
      have HR0 := HR00
      clear HR00
      by_cases hk : k = 0
      · subst hk
        have HR : Hid (r = (bx && decide (p = 0) && !f && decide (0 ≤ n) && decide (0 ≤ q))) := Lib.hid (HR0.out.trans (if_pos rfl))
        cases bx with
        | false =>
          go_wp2
          go_ret
          rw [show r = false from HR.out.trans (by simp)]
          exact ⟨rfl, HB2.out⟩
        | true =>
          by_cases hp : p = 0
          · subst hp
            cases f with
            | true =>
              go_wp2
              go_ret
              rw [show r = false from HR.out.trans (by simp)]
              exact ⟨rfl, HB2.out⟩
            | false =>
              by_cases hn : n < 0
              · have e := decide_eq_false (show ¬ 0 ≤ n by omega)
                have g : ¬ (0 ≤ n) := by omega
                go_wp2
                go_ret
                rw [show r = false from HR.out.trans (by rw [e]; simp)]
                exact ⟨rfl, HB2.out⟩
              · have e := decide_eq_true (show 0 ≤ n by omega)
                have g : 0 ≤ n := by omega
                by_cases hq : q < 0
                · have e2 := decide_eq_false (show ¬ 0 ≤ q by omega)
                  have g2 : ¬ (0 ≤ q) := by omega
                  go_wp2
                  go_ret
                  rw [show r = false from HR.out.trans (by rw [e2]; simp)]
                  exact ⟨rfl, HB2.out⟩
                · have e2 := decide_eq_true (show 0 ≤ q by omega)
                  have g2 : 0 ≤ q := by omega
                  go_wp2
                  go_ret
                  rw [show r = true from HR.out.trans (by rw [e, e2]; rfl)]
                  exact ⟨rfl, HB2.out⟩
          · have pb : (p == 0) = false := beq_eq_false_iff_ne.2 hp
            have pd := decide_eq_false hp
            go_wp2
            go_ret
            rw [show r = false from HR.out.trans (by rw [pd]; simp)]
            exact ⟨rfl, HB2.out⟩
      · have kb : (k == 0) = false := beq_eq_false_iff_ne.2 hk
        have HR1 : Hid (r = if n ≠ 0 ∨ q ≠ 0 then false else if k = 1 then It.glOk ⟨a, b, c, o⟩ && decide (c ≤ a) && decide (p = 0) && !f else decide (k = 2) && bx && It.penOk p) := Lib.hid (HR0.out.trans (if_neg hk))
        clear HR0
        by_cases hn : n = 0
        · subst hn
          by_cases hq : q = 0
          · subst hq
            by_cases hk1 : k = 1
            · subst hk1
              have HR : Hid (r = (It.glOk ⟨a, b, c, o⟩ && decide (c ≤ a) && decide (p = 0) && !f)) := Lib.hid (HR1.out.trans (by rw [if_neg (by simp)]; rfl))
              have HM := Lib.hid (refGlMayOne_any a b c o wc)
              have HBm := Lib.hid (below_alloc wc (.cells #[.int .i64 a, .int .i64 b, .int .i64 c, .int .i64 o] 38))
              generalize It.glOk ⟨a, b, c, o⟩ = gk at HR HM
              clear HR1
              cases gk with
              | false =>
                go_wp2_with fail
                refine (HM.out _ (by first | rfl | exact hs2)).mono ?_
                rintro e w4 ⟨rfl, hb4⟩
                have HB4 := Lib.hid (below_step HB2.out (below_step HBm.out hb4))
                have HO4 := Lib.hid (obj_kept (below_step HBm.out hb4) HO2.out)
                have HG4 := Lib.hid (obj_kept (below_step HBm.out hb4) HG2.out)
                clear hb4
                have s0 := Lib.cell_of_heap HG4.out 0
                have s2 := Lib.cell_of_heap HG4.out 2
                have s5 := Lib.cell_of_heap HO4.out 5
                have s6 := Lib.cell_of_heap HO4.out 6
                go_wp2
                go_ret
                rw [show r = false from HR.out.trans (by simp)]
                exact ⟨rfl, HB4.out⟩
              | true =>
                by_cases hac : a < c
                · have e := decide_eq_false (show ¬ c ≤ a by omega)
                  have g : ¬ (c ≤ a) := by omega
                  go_wp2_with fail
                  refine (HM.out _ (by first | rfl | exact hs2)).mono ?_
                  rintro e w4 ⟨rfl, hb4⟩
                  have HB4 := Lib.hid (below_step HB2.out (below_step HBm.out hb4))
                  have HO4 := Lib.hid (obj_kept (below_step HBm.out hb4) HO2.out)
                  have HG4 := Lib.hid (obj_kept (below_step HBm.out hb4) HG2.out)
                  clear hb4
                  have s0 := Lib.cell_of_heap HG4.out 0
                  have s2 := Lib.cell_of_heap HG4.out 2
                  have s5 := Lib.cell_of_heap HO4.out 5
                  have s6 := Lib.cell_of_heap HO4.out 6
                  go_wp2
                  go_ret
                  rw [show r = false from HR.out.trans (by rw [e]; simp)]
                  exact ⟨rfl, HB4.out⟩
                · have e := decide_eq_true (show c ≤ a by omega)
                  have g : c ≤ a := by omega
                  by_cases hp : p = 0
                  · subst hp
                    go_wp2_with fail
                    refine (HM.out _ (by first | rfl | exact hs2)).mono ?_
                    rintro e w4 ⟨rfl, hb4⟩
                    have HB4 := Lib.hid (below_step HB2.out (below_step HBm.out hb4))
                    have HO4 := Lib.hid (obj_kept (below_step HBm.out hb4) HO2.out)
                    have HG4 := Lib.hid (obj_kept (below_step HBm.out hb4) HG2.out)
                    clear hb4
                    have s0 := Lib.cell_of_heap HG4.out 0
                    have s2 := Lib.cell_of_heap HG4.out 2
                    have s5 := Lib.cell_of_heap HO4.out 5
                    have s6 := Lib.cell_of_heap HO4.out 6
                    go_wp2
                    go_ret
                    rw [show r = !f from HR.out.trans (by rw [e]; simp)]
                    exact ⟨rfl, HB4.out⟩
                  · have pb : (p == 0) = false := beq_eq_false_iff_ne.2 hp
                    have pd := decide_eq_false hp
                    go_wp2_with fail
                    refine (HM.out _ (by first | rfl | exact hs2)).mono ?_
                    rintro e w4 ⟨rfl, hb4⟩
                    have HB4 := Lib.hid (below_step HB2.out (below_step HBm.out hb4))
                    have HO4 := Lib.hid (obj_kept (below_step HBm.out hb4) HO2.out)
                    have HG4 := Lib.hid (obj_kept (below_step HBm.out hb4) HG2.out)
                    clear hb4
                    have s0 := Lib.cell_of_heap HG4.out 0
                    have s2 := Lib.cell_of_heap HG4.out 2
                    have s5 := Lib.cell_of_heap HO4.out 5
                    have s6 := Lib.cell_of_heap HO4.out 6
                    go_wp2
                    go_ret
                    rw [show r = false from HR.out.trans (by rw [pd]; simp)]
                    exact ⟨rfl, HB4.out⟩
            · have kb1 : (k == 1) = false := beq_eq_false_iff_ne.2 hk1
              have HR : Hid (r = (decide (k = 2) && bx && It.penOk p)) := Lib.hid (HR1.out.trans (by rw [if_neg (by simp), if_neg hk1]))
              clear HR1
              by_cases hk2 : k = 2
              · subst hk2
                cases bx with
                | false =>
                  go_wp2
                  go_ret
                  rw [show r = false from HR.out.trans (by simp)]
                  exact ⟨rfl, HB2.out⟩
                | true =>
                  unfold It.penOk at HR
                  by_cases h1 : p < -10000
                  · have e := decide_eq_false (show ¬ -10000 ≤ p by omega)
                    have g : ¬ (-10000 ≤ p) := by omega
                    go_wp2
                    go_ret
                    rw [show r = false from HR.out.trans (by rw [e]; simp)]
                    exact ⟨rfl, HB2.out⟩
                  · have e := decide_eq_true (show -10000 ≤ p by omega)
                    have g : -10000 ≤ p := by omega
                    go_wp2
                    go_ret
                    rw [show r = decide (p ≤ 10000) from HR.out.trans (by rw [e]; simp)]
                    exact ⟨rfl, HB2.out⟩
              · have kb2 : (k == 2) = false := beq_eq_false_iff_ne.2 hk2
                have kd := decide_eq_false hk2
                go_wp2
                go_ret
                rw [show r = false from HR.out.trans (by rw [kd]; simp)]
                exact ⟨rfl, HB2.out⟩
          · have HR : Hid (r = false) := Lib.hid (HR1.out.trans (if_pos (.inr hq)))
            have qb : (q == 0) = false := beq_eq_false_iff_ne.2 hq
            have qc : (q != 0) = true := by simp only [bne, qb]; rfl
            go_wp2
            go_ret
            rw [show r = false from HR.out.trans (by rfl)]
            exact ⟨rfl, HB2.out⟩
        · have HR : Hid (r = false) := Lib.hid (HR1.out.trans (if_pos (.inl hn)))
          have nb : (n == 0) = false := beq_eq_false_iff_ne.2 hn
          have nc : (n != 0) = true := by simp only [bne, nb]; rfl
          go_wp2
          go_ret
          rw [show r = false from HR.out.trans (by rfl)]
          exact ⟨rfl, HB2.out⟩
end Go.Proofs.Ythcilpijiindeaa
