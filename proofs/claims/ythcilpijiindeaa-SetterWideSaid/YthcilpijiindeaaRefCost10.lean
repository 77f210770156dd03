/-
  The reference's Cost: what a line costs, and its class.
-/
import Derived.Test.YthcilpijiindeaaRefLine10
import Derived.Test.YthcilpijiindeaaWaysM12
set_option linter.unusedVariables false
set_option linter.unusedSimpArgs false
namespace Go.Proofs.Ythcilpijiindeaa
open Go.RowKit

theorem sqW_range (n : Int) : It.wr (It.sqW n) = It.sqW n := It.wr_wr _
theorem dem0 {z : Int} (hz : It.wr z = z) {y : Int} (hy : y = 0) : It.wr (z + y) = z := by rw [hy, Int.add_zero]; exact hz
theorem brk_p0 {x : It.Itm} (h : x.p = 0) : It.brk x = 0 := by
  unfold It.brk
  rw [h]
  split
  · rfl
  · rw [if_neg (by omega)]; rfl
theorem brk_pf {x : It.Itm} (h : x.p = -10000) : It.brk x = 0 := by unfold It.brk; rw [if_pos (.inr h)]
theorem brk_pp {x : It.Itm} (h2 : x.k = 2) (h : 0 < x.p) : It.brk x = It.sqW x.p := by
  unfold It.brk
  rw [if_neg (by rintro (h' | h'); exact h' h2; omega), if_neg (by omega)]
theorem brk_pn {x : It.Itm} (h2 : x.k = 2) (h : x.p < 0) (hf : x.p ≠ -10000) : It.brk x = It.wr (-(It.sqW x.p)) := by
  unfold It.brk
  rw [if_neg (by rintro (h' | h'); exact h' h2; exact hf h'), if_pos h]

set_option maxHeartbeats 32000000 in
set_option maxRecDepth 100000 in
theorem refCost_any (v : Value) (l : List It.Itm) (a b t tol : Int) (w : World) (h : ItsAt w v l) (hlen : l.length ≤ 2000) : Calls Try.prog 40 #[v, .int .i64 a, .int .i64 b, .int .i64 t, .int .i64 tol] w (Ret (costV (It.costOf l a b t tol)) w) := by
  obtain ⟨r, hr⟩ : ∃ r, r = It.costOf l a b t tol := ⟨_, rfl⟩
  have HQ := Lib.hid hr
  rw [← hr]
  clear hr
  have HA := Lib.hid h
  have HL := Lib.hid (refLine_any v l a b t w h hlen)
  cases hq : It.lineOf l a b t with
  | none =>
    have HE : Hid (r = none) := Lib.hid (HQ.out.trans (cost_no hq))
    rw [hq] at HL
    unfold setV at HL
    clear hq h
    go_enter Try.func40, Try.ntmps40
    go_wp2_with fail
    refine HL.out.mono ?_
    rintro e w1 ⟨rfl, hb1⟩
    have HB1 := Lib.hid (below_step hb1 (below_alloc w1 (.cells #[.int .i64 0, .int .i64 0, .int .i64 0, .int .i64 0] 56)))
    clear hb1
    go_wp2
    go_ret3
    rw [HE.out]
    exact ⟨rfl, HB1.out⟩
  | some S =>
    rw [hq] at HL
    unfold setV stgV at HL
    simp only [] at HL
    by_cases hbad : tol < S.bad ∨ 10000 < S.bad
    · have HE : Hid (r = none) := Lib.hid (HQ.out.trans (cost_bad hq hbad))
      clear hq h
      by_cases ht : tol < S.bad
      · go_enter Try.func40, Try.ntmps40
        go_wp2_with fail
        refine HL.out.mono ?_
        rintro e w1 ⟨rfl, hb1⟩
        have HB1 := Lib.hid (below_step hb1 (below_alloc w1 (.cells #[.int .i64 S.sg, .int .i64 S.o, .int .i64 S.e, .int .i64 S.bad] 56)))
        clear hb1
        go_wp2
        go_ret3
        rw [HE.out]
        exact ⟨rfl, HB1.out⟩
      · have ht2 : 10000 < S.bad := by omega
        go_enter Try.func40, Try.ntmps40
        go_wp2_with fail
        refine HL.out.mono ?_
        rintro e w1 ⟨rfl, hb1⟩
        have HB1 := Lib.hid (below_step hb1 (below_alloc w1 (.cells #[.int .i64 S.sg, .int .i64 S.o, .int .i64 S.e, .int .i64 S.bad] 56)))
        clear hb1
        go_wp2
        go_ret3
        rw [HE.out]
        exact ⟨rfl, HB1.out⟩
    · have HE0 := Lib.hid (HQ.out.trans (cost_ok hq hbad))
      have hno1 : ¬ (tol < S.bad) := fun h => hbad (.inl h)
      have hno2 : ¬ (10000 < S.bad) := fun h => hbad (.inr h)
      obtain ⟨hl1, hl2⟩ := It.lineOf_some hq
      have hbd := It.setOf_bound hl2
      have hsg := It.setOf_sg hl2
      obtain ⟨ha, hab, hb0, hbl, _⟩ := It.isLine_lt hl1
      have hbd1 : S.bad ≤ 10000 := by omega
      have hbw : IntKind.i64.wrap (S.bad + 10) = S.bad + 10 := It.wr_in (by omega) (by omega)
      obtain ⟨hbd0, _⟩ := hbd
      clear hl1 hl2 hq hbad
      obtain ⟨k, hk⟩ : ∃ k : Nat, b = (k : Int) := ⟨b.toNat, by omega⟩
      obtain ⟨x, hx⟩ : ∃ x, l[k]? = some x := ⟨_, List.getElem?_eq_getElem (by omega)⟩
      have HCls : Hid (It.cls S = if S.bad ≤ 12 then 2 else if S.sg < 0 then 3 else if S.bad < 100 then 1 else 0) := Lib.hid rfl
      obtain ⟨⟨p, cp, rfl, hcap⟩, hm, _⟩ := h
      have hza : l.length ≤ 9223372036854775807 := by unfold maxLen at hm; omega
      obtain ⟨b1, o1, d1, e1, r1⟩ := HA.out.2.2 (by omega)
      obtain ⟨rfl, rfl⟩ : p = some ⟨b1, o1, none⟩ ∧ cp = d1 := by injection e1 with a1 a2 a3; exact ⟨a1, a3⟩
      obtain ⟨z, hz⟩ : ∃ z, z = It.sqW (S.bad + 10) := ⟨_, rfl⟩
      have hzw : It.wr z = z := by rw [hz]; exact sqW_range _
      have Hzw := Lib.hid hzw
      have hm1 : IntKind.i64.wrap ((S.bad + 10) * (S.bad + 10)) = z := hz.symm
      obtain ⟨D, hD⟩ : ∃ D, D = It.wr (z + It.brk x) := ⟨_, rfl⟩
      have HD := Lib.hid hD
      obtain ⟨E, hE⟩ : ∃ E, E = It.wr (D + 10000) := ⟨_, rfl⟩
      have hEz : IntKind.i64.wrap (D + 10000) = E := hE.symm
      clear e1 hcap hm
      by_cases hm1a : a = -1
      · have HE1 : Hid (r = some (D, It.cls S)) := Lib.hid (by rw [HE0.out, hm1a, dem_start S hk hx, ← hz, ← hD])
        subst hm1a
        clear hz hD hE hzw
        subst hk
        have hkl : (k : Int) < (l.length : Int) := hbl
        have k0 : (0 : Int) ≤ (k : Int) := hb0
        obtain ⟨n, hn⟩ : ∃ n, n = l.length := ⟨_, rfl⟩
        rw [← hn] at hkl  HL hza ⊢
        clear hn hab hbl hb0 hlen ha
        go_enter Try.func40, Try.ntmps40
        go_wp2_with fail
        refine HL.out.mono ?_
        rintro e w1 ⟨rfl, hb1⟩
        obtain ⟨W2, hW2⟩ : ∃ W2, W2 = w1.alloc (.cells #[.int .i64 S.sg, .int .i64 S.o, .int .i64 S.e, .int .i64 S.bad] 56) := ⟨_, rfl⟩
        have hb2 := below_alloc w1 (.cells #[.int .i64 S.sg, .int .i64 S.o, .int .i64 S.e, .int .i64 S.bad] 56)
        have HG2 := Lib.hid (obj_new w1 _ rfl #[.int .i64 S.sg, .int .i64 S.o, .int .i64 S.e, .int .i64 S.bad] 56)
        rw [← hW2] at hb2 HG2
        have HB2 := Lib.hid (below_step hb1 hb2)
        clear hb1 hb2
        have y0 := ((r1 k x hx).mono HB2.out) 0 _ rfl
        have y5 := ((r1 k x hx).mono HB2.out) 5 _ rfl
        have y6 := ((r1 k x hx).mono HB2.out) 6 _ rfl
        rw [Nat.add_zero] at y0
        have hz0 : True := trivial
        obtain ⟨P, hP⟩ : ∃ P, P = w1.heap.size := ⟨_, rfl⟩
        rw [← hP] at HG2
        have c0 := Lib.cell_of_heap HG2.out 0
        have c3 := Lib.cell_of_heap HG2.out 3
        clear r1 hx
        go_upto_region 6 with fail
        rw [← hW2, ← hP]
        clear hW2 hP hm1 hbw
        obtain hpen | ⟨hpen, hp⟩ | ⟨hpen, hp⟩ | ⟨hpen, hp⟩ | ⟨hpen, hp, hp2⟩ : (¬ x.k = 2) ∨ (x.k = 2 ∧ x.p = -10000) ∨ (x.k = 2 ∧ x.p = 0) ∨ (x.k = 2 ∧ 0 < x.p) ∨ (x.k = 2 ∧ x.p < 0 ∧ x.p ≠ -10000) := by omega
        · have q2 : (x.k == 2) = false := by simp [hpen]
          have hzD : z = D := by rw [HD.out, dem0 Hzw.out (brk_no hpen)]
          subst hzD
          go_upto_region 11 with fail
          have HE2 : Hid (r = some (z, It.cls S)) := Lib.hid (by rw [HE1.out])
          obtain ⟨hc1, hc2⟩ | ⟨hc1, hc2⟩ | ⟨hc1, hc2, hc3⟩ | ⟨hc1, hc2, hc3⟩ | ⟨hc1, hc2, hc3⟩ | ⟨hc1, hc2, hc3⟩ : (S.bad ≤ 12 ∧ S.sg = -1) ∨ (S.bad ≤ 12 ∧ ¬ S.sg = -1) ∨ (¬ S.bad ≤ 12 ∧ S.sg = -1 ∧ S.bad < 100) ∨ (¬ S.bad ≤ 12 ∧ S.sg = -1 ∧ ¬ S.bad < 100) ∨ (¬ S.bad ≤ 12 ∧ ¬ S.sg = -1 ∧ S.bad < 100) ∨ (¬ S.bad ≤ 12 ∧ ¬ S.sg = -1 ∧ ¬ S.bad < 100) := by omega
          · have HE : Hid (r = some (z, 2)) := Lib.hid (by rw [HE2.out, show It.cls S = 2 by rw [HCls.out, if_pos hc1]])
            have hc3 : S.bad < 100 := by omega
            rw [hc2] at c0
            go_wp2
            go_ret3
            rw [HE.out]
            exact ⟨rfl, HB2.out⟩
          · have HE : Hid (r = some (z, 2)) := Lib.hid (by rw [HE2.out, show It.cls S = 2 by rw [HCls.out, if_pos hc1]])
            have hc3 : S.bad < 100 := by omega
            have hc4 : (S.sg == -1) = false := by simp [hc2]
            go_wp2
            go_ret3
            rw [HE.out]
            exact ⟨rfl, HB2.out⟩
          · have HE : Hid (r = some (z, 3)) := Lib.hid (by rw [HE2.out, show It.cls S = 3 by rw [HCls.out, if_neg hc1, if_pos (by omega)]])
            rw [hc2] at c0
            go_wp2
            go_ret3
            rw [HE.out]
            exact ⟨rfl, HB2.out⟩
          · have HE : Hid (r = some (z, 3)) := Lib.hid (by rw [HE2.out, show It.cls S = 3 by rw [HCls.out, if_neg hc1, if_pos (by omega)]])
            rw [hc2] at c0
            go_wp2
            go_ret3
            rw [HE.out]
            exact ⟨rfl, HB2.out⟩
          · have HE : Hid (r = some (z, 1)) := Lib.hid (by rw [HE2.out, show It.cls S = 1 by rw [HCls.out, if_neg hc1, if_neg (by omega), if_pos hc3]])
            have hc4 : (S.sg == -1) = false := by simp [hc2]
            go_wp2
            go_ret3
            rw [HE.out]
            exact ⟨rfl, HB2.out⟩
          · have HE : Hid (r = some (z, 0)) := Lib.hid (by rw [HE2.out, show It.cls S = 0 by rw [HCls.out, if_neg hc1, if_neg (by omega), if_neg hc3]])
            have hc4 : (S.sg == -1) = false := by simp [hc2]
            go_wp2
            go_ret3
            rw [HE.out]
            exact ⟨rfl, HB2.out⟩
        · have hzD : z = D := by rw [HD.out, dem0 Hzw.out (brk_pf hp)]
          rw [hpen] at y0
          rw [hp] at y5
          subst hzD
          go_upto_region 11 with fail
          have HE2 : Hid (r = some (z, It.cls S)) := Lib.hid (by rw [HE1.out])
          obtain ⟨hc1, hc2⟩ | ⟨hc1, hc2⟩ | ⟨hc1, hc2, hc3⟩ | ⟨hc1, hc2, hc3⟩ | ⟨hc1, hc2, hc3⟩ | ⟨hc1, hc2, hc3⟩ : (S.bad ≤ 12 ∧ S.sg = -1) ∨ (S.bad ≤ 12 ∧ ¬ S.sg = -1) ∨ (¬ S.bad ≤ 12 ∧ S.sg = -1 ∧ S.bad < 100) ∨ (¬ S.bad ≤ 12 ∧ S.sg = -1 ∧ ¬ S.bad < 100) ∨ (¬ S.bad ≤ 12 ∧ ¬ S.sg = -1 ∧ S.bad < 100) ∨ (¬ S.bad ≤ 12 ∧ ¬ S.sg = -1 ∧ ¬ S.bad < 100) := by omega
          · have HE : Hid (r = some (z, 2)) := Lib.hid (by rw [HE2.out, show It.cls S = 2 by rw [HCls.out, if_pos hc1]])
            have hc3 : S.bad < 100 := by omega
            rw [hc2] at c0
            go_wp2
            go_ret3
            rw [HE.out]
            exact ⟨rfl, HB2.out⟩
          · have HE : Hid (r = some (z, 2)) := Lib.hid (by rw [HE2.out, show It.cls S = 2 by rw [HCls.out, if_pos hc1]])
            have hc3 : S.bad < 100 := by omega
            have hc4 : (S.sg == -1) = false := by simp [hc2]
            go_wp2
            go_ret3
            rw [HE.out]
            exact ⟨rfl, HB2.out⟩
          · have HE : Hid (r = some (z, 3)) := Lib.hid (by rw [HE2.out, show It.cls S = 3 by rw [HCls.out, if_neg hc1, if_pos (by omega)]])
            rw [hc2] at c0
            go_wp2
            go_ret3
            rw [HE.out]
            exact ⟨rfl, HB2.out⟩
          · have HE : Hid (r = some (z, 3)) := Lib.hid (by rw [HE2.out, show It.cls S = 3 by rw [HCls.out, if_neg hc1, if_pos (by omega)]])
            rw [hc2] at c0
            go_wp2
            go_ret3
            rw [HE.out]
            exact ⟨rfl, HB2.out⟩
          · have HE : Hid (r = some (z, 1)) := Lib.hid (by rw [HE2.out, show It.cls S = 1 by rw [HCls.out, if_neg hc1, if_neg (by omega), if_pos hc3]])
            have hc4 : (S.sg == -1) = false := by simp [hc2]
            go_wp2
            go_ret3
            rw [HE.out]
            exact ⟨rfl, HB2.out⟩
          · have HE : Hid (r = some (z, 0)) := Lib.hid (by rw [HE2.out, show It.cls S = 0 by rw [HCls.out, if_neg hc1, if_neg (by omega), if_neg hc3]])
            have hc4 : (S.sg == -1) = false := by simp [hc2]
            go_wp2
            go_ret3
            rw [HE.out]
            exact ⟨rfl, HB2.out⟩
        · have hzD : z = D := by rw [HD.out, dem0 Hzw.out (brk_p0 hp)]
          rw [hpen] at y0
          rw [hp] at y5
          subst hzD
          go_upto_region 11 with fail
          have HE2 : Hid (r = some (z, It.cls S)) := Lib.hid (by rw [HE1.out])
          obtain ⟨hc1, hc2⟩ | ⟨hc1, hc2⟩ | ⟨hc1, hc2, hc3⟩ | ⟨hc1, hc2, hc3⟩ | ⟨hc1, hc2, hc3⟩ | ⟨hc1, hc2, hc3⟩ : (S.bad ≤ 12 ∧ S.sg = -1) ∨ (S.bad ≤ 12 ∧ ¬ S.sg = -1) ∨ (¬ S.bad ≤ 12 ∧ S.sg = -1 ∧ S.bad < 100) ∨ (¬ S.bad ≤ 12 ∧ S.sg = -1 ∧ ¬ S.bad < 100) ∨ (¬ S.bad ≤ 12 ∧ ¬ S.sg = -1 ∧ S.bad < 100) ∨ (¬ S.bad ≤ 12 ∧ ¬ S.sg = -1 ∧ ¬ S.bad < 100) := by omega
          · have HE : Hid (r = some (z, 2)) := Lib.hid (by rw [HE2.out, show It.cls S = 2 by rw [HCls.out, if_pos hc1]])
            have hc3 : S.bad < 100 := by omega
            rw [hc2] at c0
            go_wp2
            go_ret3
            rw [HE.out]
            exact ⟨rfl, HB2.out⟩
          · have HE : Hid (r = some (z, 2)) := Lib.hid (by rw [HE2.out, show It.cls S = 2 by rw [HCls.out, if_pos hc1]])
            have hc3 : S.bad < 100 := by omega
            have hc4 : (S.sg == -1) = false := by simp [hc2]
            go_wp2
            go_ret3
            rw [HE.out]
            exact ⟨rfl, HB2.out⟩
          · have HE : Hid (r = some (z, 3)) := Lib.hid (by rw [HE2.out, show It.cls S = 3 by rw [HCls.out, if_neg hc1, if_pos (by omega)]])
            rw [hc2] at c0
            go_wp2
            go_ret3
            rw [HE.out]
            exact ⟨rfl, HB2.out⟩
          · have HE : Hid (r = some (z, 3)) := Lib.hid (by rw [HE2.out, show It.cls S = 3 by rw [HCls.out, if_neg hc1, if_pos (by omega)]])
            rw [hc2] at c0
            go_wp2
            go_ret3
            rw [HE.out]
            exact ⟨rfl, HB2.out⟩
          · have HE : Hid (r = some (z, 1)) := Lib.hid (by rw [HE2.out, show It.cls S = 1 by rw [HCls.out, if_neg hc1, if_neg (by omega), if_pos hc3]])
            have hc4 : (S.sg == -1) = false := by simp [hc2]
            go_wp2
            go_ret3
            rw [HE.out]
            exact ⟨rfl, HB2.out⟩
          · have HE : Hid (r = some (z, 0)) := Lib.hid (by rw [HE2.out, show It.cls S = 0 by rw [HCls.out, if_neg hc1, if_neg (by omega), if_neg hc3]])
            have hc4 : (S.sg == -1) = false := by simp [hc2]
            go_wp2
            go_ret3
            rw [HE.out]
            exact ⟨rfl, HB2.out⟩
        · have hDz : IntKind.i64.wrap (z + IntKind.i64.wrap (x.p * x.p)) = D := by rw [HD.out, brk_pp hpen hp]; rfl
          rw [hpen] at y0
          have hp3 : ¬ x.p < 0 := by omega
          obtain ⟨y1, hy1⟩ : ∃ y1, y1 = IntKind.i64.wrap (x.p * x.p) := ⟨_, rfl⟩
          rw [← hy1] at hDz
          have hy1' : IntKind.i64.wrap (x.p * x.p) = y1 := hy1.symm
          clear hy1
          go_upto_region 11 with fail
          have HE2 : Hid (r = some (D, It.cls S)) := Lib.hid (by rw [HE1.out])
          obtain ⟨hc1, hc2⟩ | ⟨hc1, hc2⟩ | ⟨hc1, hc2, hc3⟩ | ⟨hc1, hc2, hc3⟩ | ⟨hc1, hc2, hc3⟩ | ⟨hc1, hc2, hc3⟩ : (S.bad ≤ 12 ∧ S.sg = -1) ∨ (S.bad ≤ 12 ∧ ¬ S.sg = -1) ∨ (¬ S.bad ≤ 12 ∧ S.sg = -1 ∧ S.bad < 100) ∨ (¬ S.bad ≤ 12 ∧ S.sg = -1 ∧ ¬ S.bad < 100) ∨ (¬ S.bad ≤ 12 ∧ ¬ S.sg = -1 ∧ S.bad < 100) ∨ (¬ S.bad ≤ 12 ∧ ¬ S.sg = -1 ∧ ¬ S.bad < 100) := by omega
          · have HE : Hid (r = some (D, 2)) := Lib.hid (by rw [HE2.out, show It.cls S = 2 by rw [HCls.out, if_pos hc1]])
            have hc3 : S.bad < 100 := by omega
            rw [hc2] at c0
            go_wp2
            go_ret3
            rw [HE.out]
            exact ⟨rfl, HB2.out⟩
          · have HE : Hid (r = some (D, 2)) := Lib.hid (by rw [HE2.out, show It.cls S = 2 by rw [HCls.out, if_pos hc1]])
            have hc3 : S.bad < 100 := by omega
            have hc4 : (S.sg == -1) = false := by simp [hc2]
            go_wp2
            go_ret3
            rw [HE.out]
            exact ⟨rfl, HB2.out⟩
          · have HE : Hid (r = some (D, 3)) := Lib.hid (by rw [HE2.out, show It.cls S = 3 by rw [HCls.out, if_neg hc1, if_pos (by omega)]])
            rw [hc2] at c0
            go_wp2
            go_ret3
            rw [HE.out]
            exact ⟨rfl, HB2.out⟩
          · have HE : Hid (r = some (D, 3)) := Lib.hid (by rw [HE2.out, show It.cls S = 3 by rw [HCls.out, if_neg hc1, if_pos (by omega)]])
            rw [hc2] at c0
            go_wp2
            go_ret3
            rw [HE.out]
            exact ⟨rfl, HB2.out⟩
          · have HE : Hid (r = some (D, 1)) := Lib.hid (by rw [HE2.out, show It.cls S = 1 by rw [HCls.out, if_neg hc1, if_neg (by omega), if_pos hc3]])
            have hc4 : (S.sg == -1) = false := by simp [hc2]
            go_wp2
            go_ret3
            rw [HE.out]
            exact ⟨rfl, HB2.out⟩
          · have HE : Hid (r = some (D, 0)) := Lib.hid (by rw [HE2.out, show It.cls S = 0 by rw [HCls.out, if_neg hc1, if_neg (by omega), if_neg hc3]])
            have hc4 : (S.sg == -1) = false := by simp [hc2]
            go_wp2
            go_ret3
            rw [HE.out]
            exact ⟨rfl, HB2.out⟩
        · have hDz : IntKind.i64.wrap (z - IntKind.i64.wrap (x.p * x.p)) = D := by rw [HD.out, brk_pn hpen hp hp2]; exact It.wr_sub _ _
          rw [hpen] at y0
          have hp3 : ¬ 0 < x.p := by omega
          have hp4 : (x.p == -10000) = false := by simp [hp2]
          have hp5 : (x.p != -10000) = true := by simp [hp2]
          obtain ⟨y1, hy1⟩ : ∃ y1, y1 = IntKind.i64.wrap (x.p * x.p) := ⟨_, rfl⟩
          rw [← hy1] at hDz
          have hy1' : IntKind.i64.wrap (x.p * x.p) = y1 := hy1.symm
          clear hy1
          go_upto_region 11 with fail
          have HE2 : Hid (r = some (D, It.cls S)) := Lib.hid (by rw [HE1.out])
          obtain ⟨hc1, hc2⟩ | ⟨hc1, hc2⟩ | ⟨hc1, hc2, hc3⟩ | ⟨hc1, hc2, hc3⟩ | ⟨hc1, hc2, hc3⟩ | ⟨hc1, hc2, hc3⟩ : (S.bad ≤ 12 ∧ S.sg = -1) ∨ (S.bad ≤ 12 ∧ ¬ S.sg = -1) ∨ (¬ S.bad ≤ 12 ∧ S.sg = -1 ∧ S.bad < 100) ∨ (¬ S.bad ≤ 12 ∧ S.sg = -1 ∧ ¬ S.bad < 100) ∨ (¬ S.bad ≤ 12 ∧ ¬ S.sg = -1 ∧ S.bad < 100) ∨ (¬ S.bad ≤ 12 ∧ ¬ S.sg = -1 ∧ ¬ S.bad < 100) := by omega
          · have HE : Hid (r = some (D, 2)) := Lib.hid (by rw [HE2.out, show It.cls S = 2 by rw [HCls.out, if_pos hc1]])
            have hc3 : S.bad < 100 := by omega
            rw [hc2] at c0
            go_wp2
            go_ret3
            rw [HE.out]
            exact ⟨rfl, HB2.out⟩
          · have HE : Hid (r = some (D, 2)) := Lib.hid (by rw [HE2.out, show It.cls S = 2 by rw [HCls.out, if_pos hc1]])
            have hc3 : S.bad < 100 := by omega
            have hc4 : (S.sg == -1) = false := by simp [hc2]
            go_wp2
            go_ret3
            rw [HE.out]
            exact ⟨rfl, HB2.out⟩
          · have HE : Hid (r = some (D, 3)) := Lib.hid (by rw [HE2.out, show It.cls S = 3 by rw [HCls.out, if_neg hc1, if_pos (by omega)]])
            rw [hc2] at c0
            go_wp2
            go_ret3
            rw [HE.out]
            exact ⟨rfl, HB2.out⟩
          · have HE : Hid (r = some (D, 3)) := Lib.hid (by rw [HE2.out, show It.cls S = 3 by rw [HCls.out, if_neg hc1, if_pos (by omega)]])
            rw [hc2] at c0
            go_wp2
            go_ret3
            rw [HE.out]
            exact ⟨rfl, HB2.out⟩
          · have HE : Hid (r = some (D, 1)) := Lib.hid (by rw [HE2.out, show It.cls S = 1 by rw [HCls.out, if_neg hc1, if_neg (by omega), if_pos hc3]])
            have hc4 : (S.sg == -1) = false := by simp [hc2]
            go_wp2
            go_ret3
            rw [HE.out]
            exact ⟨rfl, HB2.out⟩
          · have HE : Hid (r = some (D, 0)) := Lib.hid (by rw [HE2.out, show It.cls S = 0 by rw [HCls.out, if_neg hc1, if_neg (by omega), if_neg hc3]])
            have hc4 : (S.sg == -1) = false := by simp [hc2]
            go_wp2
            go_ret3
            rw [HE.out]
            exact ⟨rfl, HB2.out⟩
      · obtain ⟨i, hi⟩ : ∃ i : Nat, a = (i : Int) := ⟨a.toNat, by omega⟩
        obtain ⟨y', hy⟩ : ∃ y, l[i]? = some y := ⟨_, List.getElem?_eq_getElem (by omega)⟩
        have HE1 : Hid (r = some (if y'.f && x.f then E else D, It.cls S)) := Lib.hid (by rw [HE0.out, dem_mid S hi hk hy hx, ← hz, ← hD, ← hE])
        have hil : (i : Int) < (l.length : Int) := by omega
        have i0 : (0 : Int) ≤ (i : Int) := by omega
        subst hi
        clear hz hD hE hzw
        subst hk
        have hkl : (k : Int) < (l.length : Int) := hbl
        have k0 : (0 : Int) ≤ (k : Int) := hb0
        obtain ⟨n, hn⟩ : ∃ n, n = l.length := ⟨_, rfl⟩
        rw [← hn] at hkl hil HL hza ⊢
        clear hn hab hbl hb0 hlen ha
        go_enter Try.func40, Try.ntmps40
        go_wp2_with fail
        refine HL.out.mono ?_
        rintro e w1 ⟨rfl, hb1⟩
        obtain ⟨W2, hW2⟩ : ∃ W2, W2 = w1.alloc (.cells #[.int .i64 S.sg, .int .i64 S.o, .int .i64 S.e, .int .i64 S.bad] 56) := ⟨_, rfl⟩
        have hb2 := below_alloc w1 (.cells #[.int .i64 S.sg, .int .i64 S.o, .int .i64 S.e, .int .i64 S.bad] 56)
        have HG2 := Lib.hid (obj_new w1 _ rfl #[.int .i64 S.sg, .int .i64 S.o, .int .i64 S.e, .int .i64 S.bad] 56)
        rw [← hW2] at hb2 HG2
        have HB2 := Lib.hid (below_step hb1 hb2)
        clear hb1 hb2
        have y0 := ((r1 k x hx).mono HB2.out) 0 _ rfl
        have y5 := ((r1 k x hx).mono HB2.out) 5 _ rfl
        have y6 := ((r1 k x hx).mono HB2.out) 6 _ rfl
        rw [Nat.add_zero] at y0
        have z6 := ((r1 i y' hy).mono HB2.out) 6 _ rfl
        obtain ⟨P, hP⟩ : ∃ P, P = w1.heap.size := ⟨_, rfl⟩
        rw [← hP] at HG2
        have c0 := Lib.cell_of_heap HG2.out 0
        have c3 := Lib.cell_of_heap HG2.out 3
        clear r1 hx
        go_upto_region 6 with fail
        rw [← hW2, ← hP]
        clear hW2 hP hm1 hbw
        obtain hpen | ⟨hpen, hp⟩ | ⟨hpen, hp⟩ | ⟨hpen, hp⟩ | ⟨hpen, hp, hp2⟩ : (¬ x.k = 2) ∨ (x.k = 2 ∧ x.p = -10000) ∨ (x.k = 2 ∧ x.p = 0) ∨ (x.k = 2 ∧ 0 < x.p) ∨ (x.k = 2 ∧ x.p < 0 ∧ x.p ≠ -10000) := by omega
        · have q2 : (x.k == 2) = false := by simp [hpen]
          have hzD : z = D := by rw [HD.out, dem0 Hzw.out (brk_no hpen)]
          subst hzD
          go_upto_region 11 with fail
          cases hyf : y'.f with
          | false =>
            rw [hyf] at z6
            have HE2 : Hid (r = some (z, It.cls S)) := Lib.hid (by rw [HE1.out, hyf]; rfl)
            obtain ⟨hc1, hc2⟩ | ⟨hc1, hc2⟩ | ⟨hc1, hc2, hc3⟩ | ⟨hc1, hc2, hc3⟩ | ⟨hc1, hc2, hc3⟩ | ⟨hc1, hc2, hc3⟩ : (S.bad ≤ 12 ∧ S.sg = -1) ∨ (S.bad ≤ 12 ∧ ¬ S.sg = -1) ∨ (¬ S.bad ≤ 12 ∧ S.sg = -1 ∧ S.bad < 100) ∨ (¬ S.bad ≤ 12 ∧ S.sg = -1 ∧ ¬ S.bad < 100) ∨ (¬ S.bad ≤ 12 ∧ ¬ S.sg = -1 ∧ S.bad < 100) ∨ (¬ S.bad ≤ 12 ∧ ¬ S.sg = -1 ∧ ¬ S.bad < 100) := by omega
            · have HE : Hid (r = some (z, 2)) := Lib.hid (by rw [HE2.out, show It.cls S = 2 by rw [HCls.out, if_pos hc1]])
              have hc3 : S.bad < 100 := by omega
              rw [hc2] at c0
              go_wp2
              go_ret3
              rw [HE.out]
              exact ⟨rfl, HB2.out⟩
            · have HE : Hid (r = some (z, 2)) := Lib.hid (by rw [HE2.out, show It.cls S = 2 by rw [HCls.out, if_pos hc1]])
              have hc3 : S.bad < 100 := by omega
              have hc4 : (S.sg == -1) = false := by simp [hc2]
              go_wp2
              go_ret3
              rw [HE.out]
              exact ⟨rfl, HB2.out⟩
            · have HE : Hid (r = some (z, 3)) := Lib.hid (by rw [HE2.out, show It.cls S = 3 by rw [HCls.out, if_neg hc1, if_pos (by omega)]])
              rw [hc2] at c0
              go_wp2
              go_ret3
              rw [HE.out]
              exact ⟨rfl, HB2.out⟩
            · have HE : Hid (r = some (z, 3)) := Lib.hid (by rw [HE2.out, show It.cls S = 3 by rw [HCls.out, if_neg hc1, if_pos (by omega)]])
              rw [hc2] at c0
              go_wp2
              go_ret3
              rw [HE.out]
              exact ⟨rfl, HB2.out⟩
            · have HE : Hid (r = some (z, 1)) := Lib.hid (by rw [HE2.out, show It.cls S = 1 by rw [HCls.out, if_neg hc1, if_neg (by omega), if_pos hc3]])
              have hc4 : (S.sg == -1) = false := by simp [hc2]
              go_wp2
              go_ret3
              rw [HE.out]
              exact ⟨rfl, HB2.out⟩
            · have HE : Hid (r = some (z, 0)) := Lib.hid (by rw [HE2.out, show It.cls S = 0 by rw [HCls.out, if_neg hc1, if_neg (by omega), if_neg hc3]])
              have hc4 : (S.sg == -1) = false := by simp [hc2]
              go_wp2
              go_ret3
              rw [HE.out]
              exact ⟨rfl, HB2.out⟩
          | true =>
            rw [hyf] at z6
            cases hxf : x.f with
            | false =>
              rw [hxf] at y6
              have HE2 : Hid (r = some (z, It.cls S)) := Lib.hid (by rw [HE1.out, hyf, hxf]; rfl)
              obtain ⟨hc1, hc2⟩ | ⟨hc1, hc2⟩ | ⟨hc1, hc2, hc3⟩ | ⟨hc1, hc2, hc3⟩ | ⟨hc1, hc2, hc3⟩ | ⟨hc1, hc2, hc3⟩ : (S.bad ≤ 12 ∧ S.sg = -1) ∨ (S.bad ≤ 12 ∧ ¬ S.sg = -1) ∨ (¬ S.bad ≤ 12 ∧ S.sg = -1 ∧ S.bad < 100) ∨ (¬ S.bad ≤ 12 ∧ S.sg = -1 ∧ ¬ S.bad < 100) ∨ (¬ S.bad ≤ 12 ∧ ¬ S.sg = -1 ∧ S.bad < 100) ∨ (¬ S.bad ≤ 12 ∧ ¬ S.sg = -1 ∧ ¬ S.bad < 100) := by omega
              · have HE : Hid (r = some (z, 2)) := Lib.hid (by rw [HE2.out, show It.cls S = 2 by rw [HCls.out, if_pos hc1]])
                have hc3 : S.bad < 100 := by omega
                rw [hc2] at c0
                go_wp2
                go_ret3
                rw [HE.out]
                exact ⟨rfl, HB2.out⟩
              · have HE : Hid (r = some (z, 2)) := Lib.hid (by rw [HE2.out, show It.cls S = 2 by rw [HCls.out, if_pos hc1]])
                have hc3 : S.bad < 100 := by omega
                have hc4 : (S.sg == -1) = false := by simp [hc2]
                go_wp2
                go_ret3
                rw [HE.out]
                exact ⟨rfl, HB2.out⟩
              · have HE : Hid (r = some (z, 3)) := Lib.hid (by rw [HE2.out, show It.cls S = 3 by rw [HCls.out, if_neg hc1, if_pos (by omega)]])
                rw [hc2] at c0
                go_wp2
                go_ret3
                rw [HE.out]
                exact ⟨rfl, HB2.out⟩
              · have HE : Hid (r = some (z, 3)) := Lib.hid (by rw [HE2.out, show It.cls S = 3 by rw [HCls.out, if_neg hc1, if_pos (by omega)]])
                rw [hc2] at c0
                go_wp2
                go_ret3
                rw [HE.out]
                exact ⟨rfl, HB2.out⟩
              · have HE : Hid (r = some (z, 1)) := Lib.hid (by rw [HE2.out, show It.cls S = 1 by rw [HCls.out, if_neg hc1, if_neg (by omega), if_pos hc3]])
                have hc4 : (S.sg == -1) = false := by simp [hc2]
                go_wp2
                go_ret3
                rw [HE.out]
                exact ⟨rfl, HB2.out⟩
              · have HE : Hid (r = some (z, 0)) := Lib.hid (by rw [HE2.out, show It.cls S = 0 by rw [HCls.out, if_neg hc1, if_neg (by omega), if_neg hc3]])
                have hc4 : (S.sg == -1) = false := by simp [hc2]
                go_wp2
                go_ret3
                rw [HE.out]
                exact ⟨rfl, HB2.out⟩
            | true =>
              rw [hxf] at y6
              have HE2 : Hid (r = some (E, It.cls S)) := Lib.hid (by rw [HE1.out, hyf, hxf]; rfl)
              obtain ⟨hc1, hc2⟩ | ⟨hc1, hc2⟩ | ⟨hc1, hc2, hc3⟩ | ⟨hc1, hc2, hc3⟩ | ⟨hc1, hc2, hc3⟩ | ⟨hc1, hc2, hc3⟩ : (S.bad ≤ 12 ∧ S.sg = -1) ∨ (S.bad ≤ 12 ∧ ¬ S.sg = -1) ∨ (¬ S.bad ≤ 12 ∧ S.sg = -1 ∧ S.bad < 100) ∨ (¬ S.bad ≤ 12 ∧ S.sg = -1 ∧ ¬ S.bad < 100) ∨ (¬ S.bad ≤ 12 ∧ ¬ S.sg = -1 ∧ S.bad < 100) ∨ (¬ S.bad ≤ 12 ∧ ¬ S.sg = -1 ∧ ¬ S.bad < 100) := by omega
              · have HE : Hid (r = some (E, 2)) := Lib.hid (by rw [HE2.out, show It.cls S = 2 by rw [HCls.out, if_pos hc1]])
                have hc3 : S.bad < 100 := by omega
                rw [hc2] at c0
                go_wp2
                go_ret3
                rw [HE.out]
                exact ⟨rfl, HB2.out⟩
              · have HE : Hid (r = some (E, 2)) := Lib.hid (by rw [HE2.out, show It.cls S = 2 by rw [HCls.out, if_pos hc1]])
                have hc3 : S.bad < 100 := by omega
                have hc4 : (S.sg == -1) = false := by simp [hc2]
                go_wp2
                go_ret3
                rw [HE.out]
                exact ⟨rfl, HB2.out⟩
              · have HE : Hid (r = some (E, 3)) := Lib.hid (by rw [HE2.out, show It.cls S = 3 by rw [HCls.out, if_neg hc1, if_pos (by omega)]])
                rw [hc2] at c0
                go_wp2
                go_ret3
                rw [HE.out]
                exact ⟨rfl, HB2.out⟩
              · have HE : Hid (r = some (E, 3)) := Lib.hid (by rw [HE2.out, show It.cls S = 3 by rw [HCls.out, if_neg hc1, if_pos (by omega)]])
                rw [hc2] at c0
                go_wp2
                go_ret3
                rw [HE.out]
                exact ⟨rfl, HB2.out⟩
              · have HE : Hid (r = some (E, 1)) := Lib.hid (by rw [HE2.out, show It.cls S = 1 by rw [HCls.out, if_neg hc1, if_neg (by omega), if_pos hc3]])
                have hc4 : (S.sg == -1) = false := by simp [hc2]
                go_wp2
                go_ret3
                rw [HE.out]
                exact ⟨rfl, HB2.out⟩
              · have HE : Hid (r = some (E, 0)) := Lib.hid (by rw [HE2.out, show It.cls S = 0 by rw [HCls.out, if_neg hc1, if_neg (by omega), if_neg hc3]])
                have hc4 : (S.sg == -1) = false := by simp [hc2]
                go_wp2
                go_ret3
                rw [HE.out]
                exact ⟨rfl, HB2.out⟩
        · have hzD : z = D := by rw [HD.out, dem0 Hzw.out (brk_pf hp)]
          rw [hpen] at y0
          rw [hp] at y5
          subst hzD
          go_upto_region 11 with fail
          cases hyf : y'.f with
          | false =>
            rw [hyf] at z6
            have HE2 : Hid (r = some (z, It.cls S)) := Lib.hid (by rw [HE1.out, hyf]; rfl)
            obtain ⟨hc1, hc2⟩ | ⟨hc1, hc2⟩ | ⟨hc1, hc2, hc3⟩ | ⟨hc1, hc2, hc3⟩ | ⟨hc1, hc2, hc3⟩ | ⟨hc1, hc2, hc3⟩ : (S.bad ≤ 12 ∧ S.sg = -1) ∨ (S.bad ≤ 12 ∧ ¬ S.sg = -1) ∨ (¬ S.bad ≤ 12 ∧ S.sg = -1 ∧ S.bad < 100) ∨ (¬ S.bad ≤ 12 ∧ S.sg = -1 ∧ ¬ S.bad < 100) ∨ (¬ S.bad ≤ 12 ∧ ¬ S.sg = -1 ∧ S.bad < 100) ∨ (¬ S.bad ≤ 12 ∧ ¬ S.sg = -1 ∧ ¬ S.bad < 100) := by omega
            · have HE : Hid (r = some (z, 2)) := Lib.hid (by rw [HE2.out, show It.cls S = 2 by rw [HCls.out, if_pos hc1]])
              have hc3 : S.bad < 100 := by omega
              rw [hc2] at c0
              go_wp2
              go_ret3
              rw [HE.out]
              exact ⟨rfl, HB2.out⟩
            · have HE : Hid (r = some (z, 2)) := Lib.hid (by rw [HE2.out, show It.cls S = 2 by rw [HCls.out, if_pos hc1]])
              have hc3 : S.bad < 100 := by omega
              have hc4 : (S.sg == -1) = false := by simp [hc2]
              go_wp2
              go_ret3
              rw [HE.out]
              exact ⟨rfl, HB2.out⟩
            · have HE : Hid (r = some (z, 3)) := Lib.hid (by rw [HE2.out, show It.cls S = 3 by rw [HCls.out, if_neg hc1, if_pos (by omega)]])
              rw [hc2] at c0
              go_wp2
              go_ret3
              rw [HE.out]
              exact ⟨rfl, HB2.out⟩
            · have HE : Hid (r = some (z, 3)) := Lib.hid (by rw [HE2.out, show It.cls S = 3 by rw [HCls.out, if_neg hc1, if_pos (by omega)]])
              rw [hc2] at c0
              go_wp2
              go_ret3
              rw [HE.out]
              exact ⟨rfl, HB2.out⟩
            · have HE : Hid (r = some (z, 1)) := Lib.hid (by rw [HE2.out, show It.cls S = 1 by rw [HCls.out, if_neg hc1, if_neg (by omega), if_pos hc3]])
              have hc4 : (S.sg == -1) = false := by simp [hc2]
              go_wp2
              go_ret3
              rw [HE.out]
              exact ⟨rfl, HB2.out⟩
            · have HE : Hid (r = some (z, 0)) := Lib.hid (by rw [HE2.out, show It.cls S = 0 by rw [HCls.out, if_neg hc1, if_neg (by omega), if_neg hc3]])
              have hc4 : (S.sg == -1) = false := by simp [hc2]
              go_wp2
              go_ret3
              rw [HE.out]
              exact ⟨rfl, HB2.out⟩
          | true =>
            rw [hyf] at z6
            cases hxf : x.f with
            | false =>
              rw [hxf] at y6
              have HE2 : Hid (r = some (z, It.cls S)) := Lib.hid (by rw [HE1.out, hyf, hxf]; rfl)
              obtain ⟨hc1, hc2⟩ | ⟨hc1, hc2⟩ | ⟨hc1, hc2, hc3⟩ | ⟨hc1, hc2, hc3⟩ | ⟨hc1, hc2, hc3⟩ | ⟨hc1, hc2, hc3⟩ : (S.bad ≤ 12 ∧ S.sg = -1) ∨ (S.bad ≤ 12 ∧ ¬ S.sg = -1) ∨ (¬ S.bad ≤ 12 ∧ S.sg = -1 ∧ S.bad < 100) ∨ (¬ S.bad ≤ 12 ∧ S.sg = -1 ∧ ¬ S.bad < 100) ∨ (¬ S.bad ≤ 12 ∧ ¬ S.sg = -1 ∧ S.bad < 100) ∨ (¬ S.bad ≤ 12 ∧ ¬ S.sg = -1 ∧ ¬ S.bad < 100) := by omega
              · have HE : Hid (r = some (z, 2)) := Lib.hid (by rw [HE2.out, show It.cls S = 2 by rw [HCls.out, if_pos hc1]])
                have hc3 : S.bad < 100 := by omega
                rw [hc2] at c0
                go_wp2
                go_ret3
                rw [HE.out]
                exact ⟨rfl, HB2.out⟩
              · have HE : Hid (r = some (z, 2)) := Lib.hid (by rw [HE2.out, show It.cls S = 2 by rw [HCls.out, if_pos hc1]])
                have hc3 : S.bad < 100 := by omega
                have hc4 : (S.sg == -1) = false := by simp [hc2]
                go_wp2
                go_ret3
                rw [HE.out]
                exact ⟨rfl, HB2.out⟩
              · have HE : Hid (r = some (z, 3)) := Lib.hid (by rw [HE2.out, show It.cls S = 3 by rw [HCls.out, if_neg hc1, if_pos (by omega)]])
                rw [hc2] at c0
                go_wp2
                go_ret3
                rw [HE.out]
                exact ⟨rfl, HB2.out⟩
              · have HE : Hid (r = some (z, 3)) := Lib.hid (by rw [HE2.out, show It.cls S = 3 by rw [HCls.out, if_neg hc1, if_pos (by omega)]])
                rw [hc2] at c0
                go_wp2
                go_ret3
                rw [HE.out]
                exact ⟨rfl, HB2.out⟩
              · have HE : Hid (r = some (z, 1)) := Lib.hid (by rw [HE2.out, show It.cls S = 1 by rw [HCls.out, if_neg hc1, if_neg (by omega), if_pos hc3]])
                have hc4 : (S.sg == -1) = false := by simp [hc2]
                go_wp2
                go_ret3
                rw [HE.out]
                exact ⟨rfl, HB2.out⟩
              · have HE : Hid (r = some (z, 0)) := Lib.hid (by rw [HE2.out, show It.cls S = 0 by rw [HCls.out, if_neg hc1, if_neg (by omega), if_neg hc3]])
                have hc4 : (S.sg == -1) = false := by simp [hc2]
                go_wp2
                go_ret3
                rw [HE.out]
                exact ⟨rfl, HB2.out⟩
            | true =>
              rw [hxf] at y6
              have HE2 : Hid (r = some (E, It.cls S)) := Lib.hid (by rw [HE1.out, hyf, hxf]; rfl)
              obtain ⟨hc1, hc2⟩ | ⟨hc1, hc2⟩ | ⟨hc1, hc2, hc3⟩ | ⟨hc1, hc2, hc3⟩ | ⟨hc1, hc2, hc3⟩ | ⟨hc1, hc2, hc3⟩ : (S.bad ≤ 12 ∧ S.sg = -1) ∨ (S.bad ≤ 12 ∧ ¬ S.sg = -1) ∨ (¬ S.bad ≤ 12 ∧ S.sg = -1 ∧ S.bad < 100) ∨ (¬ S.bad ≤ 12 ∧ S.sg = -1 ∧ ¬ S.bad < 100) ∨ (¬ S.bad ≤ 12 ∧ ¬ S.sg = -1 ∧ S.bad < 100) ∨ (¬ S.bad ≤ 12 ∧ ¬ S.sg = -1 ∧ ¬ S.bad < 100) := by omega
              · have HE : Hid (r = some (E, 2)) := Lib.hid (by rw [HE2.out, show It.cls S = 2 by rw [HCls.out, if_pos hc1]])
                have hc3 : S.bad < 100 := by omega
                rw [hc2] at c0
                go_wp2
                go_ret3
                rw [HE.out]
                exact ⟨rfl, HB2.out⟩
              · have HE : Hid (r = some (E, 2)) := Lib.hid (by rw [HE2.out, show It.cls S = 2 by rw [HCls.out, if_pos hc1]])
                have hc3 : S.bad < 100 := by omega
                have hc4 : (S.sg == -1) = false := by simp [hc2]
                go_wp2
                go_ret3
                rw [HE.out]
                exact ⟨rfl, HB2.out⟩
              · have HE : Hid (r = some (E, 3)) := Lib.hid (by rw [HE2.out, show It.cls S = 3 by rw [HCls.out, if_neg hc1, if_pos (by omega)]])
                rw [hc2] at c0
                go_wp2
                go_ret3
                rw [HE.out]
                exact ⟨rfl, HB2.out⟩
              · have HE : Hid (r = some (E, 3)) := Lib.hid (by rw [HE2.out, show It.cls S = 3 by rw [HCls.out, if_neg hc1, if_pos (by omega)]])
                rw [hc2] at c0
                go_wp2
                go_ret3
                rw [HE.out]
                exact ⟨rfl, HB2.out⟩
              · have HE : Hid (r = some (E, 1)) := Lib.hid (by rw [HE2.out, show It.cls S = 1 by rw [HCls.out, if_neg hc1, if_neg (by omega), if_pos hc3]])
                have hc4 : (S.sg == -1) = false := by simp [hc2]
                go_wp2
                go_ret3
                rw [HE.out]
                exact ⟨rfl, HB2.out⟩
              · have HE : Hid (r = some (E, 0)) := Lib.hid (by rw [HE2.out, show It.cls S = 0 by rw [HCls.out, if_neg hc1, if_neg (by omega), if_neg hc3]])
                have hc4 : (S.sg == -1) = false := by simp [hc2]
                go_wp2
                go_ret3
                rw [HE.out]
                exact ⟨rfl, HB2.out⟩
        · have hzD : z = D := by rw [HD.out, dem0 Hzw.out (brk_p0 hp)]
          rw [hpen] at y0
          rw [hp] at y5
          subst hzD
          go_upto_region 11 with fail
          cases hyf : y'.f with
          | false =>
            rw [hyf] at z6
            have HE2 : Hid (r = some (z, It.cls S)) := Lib.hid (by rw [HE1.out, hyf]; rfl)
            obtain ⟨hc1, hc2⟩ | ⟨hc1, hc2⟩ | ⟨hc1, hc2, hc3⟩ | ⟨hc1, hc2, hc3⟩ | ⟨hc1, hc2, hc3⟩ | ⟨hc1, hc2, hc3⟩ : (S.bad ≤ 12 ∧ S.sg = -1) ∨ (S.bad ≤ 12 ∧ ¬ S.sg = -1) ∨ (¬ S.bad ≤ 12 ∧ S.sg = -1 ∧ S.bad < 100) ∨ (¬ S.bad ≤ 12 ∧ S.sg = -1 ∧ ¬ S.bad < 100) ∨ (¬ S.bad ≤ 12 ∧ ¬ S.sg = -1 ∧ S.bad < 100) ∨ (¬ S.bad ≤ 12 ∧ ¬ S.sg = -1 ∧ ¬ S.bad < 100) := by omega
            · have HE : Hid (r = some (z, 2)) := Lib.hid (by rw [HE2.out, show It.cls S = 2 by rw [HCls.out, if_pos hc1]])
              have hc3 : S.bad < 100 := by omega
              rw [hc2] at c0
              go_wp2
              go_ret3
              rw [HE.out]
              exact ⟨rfl, HB2.out⟩
            · have HE : Hid (r = some (z, 2)) := Lib.hid (by rw [HE2.out, show It.cls S = 2 by rw [HCls.out, if_pos hc1]])
              have hc3 : S.bad < 100 := by omega
              have hc4 : (S.sg == -1) = false := by simp [hc2]
              go_wp2
              go_ret3
              rw [HE.out]
              exact ⟨rfl, HB2.out⟩
            · have HE : Hid (r = some (z, 3)) := Lib.hid (by rw [HE2.out, show It.cls S = 3 by rw [HCls.out, if_neg hc1, if_pos (by omega)]])
              rw [hc2] at c0
              go_wp2
              go_ret3
              rw [HE.out]
              exact ⟨rfl, HB2.out⟩
            · have HE : Hid (r = some (z, 3)) := Lib.hid (by rw [HE2.out, show It.cls S = 3 by rw [HCls.out, if_neg hc1, if_pos (by omega)]])
              rw [hc2] at c0
              go_wp2
              go_ret3
              rw [HE.out]
              exact ⟨rfl, HB2.out⟩
            · have HE : Hid (r = some (z, 1)) := Lib.hid (by rw [HE2.out, show It.cls S = 1 by rw [HCls.out, if_neg hc1, if_neg (by omega), if_pos hc3]])
              have hc4 : (S.sg == -1) = false := by simp [hc2]
              go_wp2
              go_ret3
              rw [HE.out]
              exact ⟨rfl, HB2.out⟩
            · have HE : Hid (r = some (z, 0)) := Lib.hid (by rw [HE2.out, show It.cls S = 0 by rw [HCls.out, if_neg hc1, if_neg (by omega), if_neg hc3]])
              have hc4 : (S.sg == -1) = false := by simp [hc2]
              go_wp2
              go_ret3
              rw [HE.out]
              exact ⟨rfl, HB2.out⟩
          | true =>
            rw [hyf] at z6
            cases hxf : x.f with
            | false =>
              rw [hxf] at y6
              have HE2 : Hid (r = some (z, It.cls S)) := Lib.hid (by rw [HE1.out, hyf, hxf]; rfl)
              obtain ⟨hc1, hc2⟩ | ⟨hc1, hc2⟩ | ⟨hc1, hc2, hc3⟩ | ⟨hc1, hc2, hc3⟩ | ⟨hc1, hc2, hc3⟩ | ⟨hc1, hc2, hc3⟩ : (S.bad ≤ 12 ∧ S.sg = -1) ∨ (S.bad ≤ 12 ∧ ¬ S.sg = -1) ∨ (¬ S.bad ≤ 12 ∧ S.sg = -1 ∧ S.bad < 100) ∨ (¬ S.bad ≤ 12 ∧ S.sg = -1 ∧ ¬ S.bad < 100) ∨ (¬ S.bad ≤ 12 ∧ ¬ S.sg = -1 ∧ S.bad < 100) ∨ (¬ S.bad ≤ 12 ∧ ¬ S.sg = -1 ∧ ¬ S.bad < 100) := by omega
              · have HE : Hid (r = some (z, 2)) := Lib.hid (by rw [HE2.out, show It.cls S = 2 by rw [HCls.out, if_pos hc1]])
                have hc3 : S.bad < 100 := by omega
                rw [hc2] at c0
                go_wp2
                go_ret3
                rw [HE.out]
                exact ⟨rfl, HB2.out⟩
              · have HE : Hid (r = some (z, 2)) := Lib.hid (by rw [HE2.out, show It.cls S = 2 by rw [HCls.out, if_pos hc1]])
                have hc3 : S.bad < 100 := by omega
                have hc4 : (S.sg == -1) = false := by simp [hc2]
                go_wp2
                go_ret3
                rw [HE.out]
                exact ⟨rfl, HB2.out⟩
              · have HE : Hid (r = some (z, 3)) := Lib.hid (by rw [HE2.out, show It.cls S = 3 by rw [HCls.out, if_neg hc1, if_pos (by omega)]])
                rw [hc2] at c0
                go_wp2
                go_ret3
                rw [HE.out]
                exact ⟨rfl, HB2.out⟩
              · have HE : Hid (r = some (z, 3)) := Lib.hid (by rw [HE2.out, show It.cls S = 3 by rw [HCls.out, if_neg hc1, if_pos (by omega)]])
                rw [hc2] at c0
                go_wp2
                go_ret3
                rw [HE.out]
                exact ⟨rfl, HB2.out⟩
              · have HE : Hid (r = some (z, 1)) := Lib.hid (by rw [HE2.out, show It.cls S = 1 by rw [HCls.out, if_neg hc1, if_neg (by omega), if_pos hc3]])
                have hc4 : (S.sg == -1) = false := by simp [hc2]
                go_wp2
                go_ret3
                rw [HE.out]
                exact ⟨rfl, HB2.out⟩
              · have HE : Hid (r = some (z, 0)) := Lib.hid (by rw [HE2.out, show It.cls S = 0 by rw [HCls.out, if_neg hc1, if_neg (by omega), if_neg hc3]])
                have hc4 : (S.sg == -1) = false := by simp [hc2]
                go_wp2
                go_ret3
                rw [HE.out]
                exact ⟨rfl, HB2.out⟩
            | true =>
              rw [hxf] at y6
              have HE2 : Hid (r = some (E, It.cls S)) := Lib.hid (by rw [HE1.out, hyf, hxf]; rfl)
              obtain ⟨hc1, hc2⟩ | ⟨hc1, hc2⟩ | ⟨hc1, hc2, hc3⟩ | ⟨hc1, hc2, hc3⟩ | ⟨hc1, hc2, hc3⟩ | ⟨hc1, hc2, hc3⟩ : (S.bad ≤ 12 ∧ S.sg = -1) ∨ (S.bad ≤ 12 ∧ ¬ S.sg = -1) ∨ (¬ S.bad ≤ 12 ∧ S.sg = -1 ∧ S.bad < 100) ∨ (¬ S.bad ≤ 12 ∧ S.sg = -1 ∧ ¬ S.bad < 100) ∨ (¬ S.bad ≤ 12 ∧ ¬ S.sg = -1 ∧ S.bad < 100) ∨ (¬ S.bad ≤ 12 ∧ ¬ S.sg = -1 ∧ ¬ S.bad < 100) := by omega
              · have HE : Hid (r = some (E, 2)) := Lib.hid (by rw [HE2.out, show It.cls S = 2 by rw [HCls.out, if_pos hc1]])
                have hc3 : S.bad < 100 := by omega
                rw [hc2] at c0
                go_wp2
                go_ret3
                rw [HE.out]
                exact ⟨rfl, HB2.out⟩
              · have HE : Hid (r = some (E, 2)) := Lib.hid (by rw [HE2.out, show It.cls S = 2 by rw [HCls.out, if_pos hc1]])
                have hc3 : S.bad < 100 := by omega
                have hc4 : (S.sg == -1) = false := by simp [hc2]
                go_wp2
                go_ret3
                rw [HE.out]
                exact ⟨rfl, HB2.out⟩
              · have HE : Hid (r = some (E, 3)) := Lib.hid (by rw [HE2.out, show It.cls S = 3 by rw [HCls.out, if_neg hc1, if_pos (by omega)]])
                rw [hc2] at c0
                go_wp2
                go_ret3
                rw [HE.out]
                exact ⟨rfl, HB2.out⟩
              · have HE : Hid (r = some (E, 3)) := Lib.hid (by rw [HE2.out, show It.cls S = 3 by rw [HCls.out, if_neg hc1, if_pos (by omega)]])
                rw [hc2] at c0
                go_wp2
                go_ret3
                rw [HE.out]
                exact ⟨rfl, HB2.out⟩
              · have HE : Hid (r = some (E, 1)) := Lib.hid (by rw [HE2.out, show It.cls S = 1 by rw [HCls.out, if_neg hc1, if_neg (by omega), if_pos hc3]])
                have hc4 : (S.sg == -1) = false := by simp [hc2]
                go_wp2
                go_ret3
                rw [HE.out]
                exact ⟨rfl, HB2.out⟩
              · have HE : Hid (r = some (E, 0)) := Lib.hid (by rw [HE2.out, show It.cls S = 0 by rw [HCls.out, if_neg hc1, if_neg (by omega), if_neg hc3]])
                have hc4 : (S.sg == -1) = false := by simp [hc2]
                go_wp2
                go_ret3
                rw [HE.out]
                exact ⟨rfl, HB2.out⟩
        · have hDz : IntKind.i64.wrap (z + IntKind.i64.wrap (x.p * x.p)) = D := by rw [HD.out, brk_pp hpen hp]; rfl
          rw [hpen] at y0
          have hp3 : ¬ x.p < 0 := by omega
          obtain ⟨y1, hy1⟩ : ∃ y1, y1 = IntKind.i64.wrap (x.p * x.p) := ⟨_, rfl⟩
          rw [← hy1] at hDz
          have hy1' : IntKind.i64.wrap (x.p * x.p) = y1 := hy1.symm
          clear hy1
          go_upto_region 11 with fail
          cases hyf : y'.f with
          | false =>
            rw [hyf] at z6
            have HE2 : Hid (r = some (D, It.cls S)) := Lib.hid (by rw [HE1.out, hyf]; rfl)
            obtain ⟨hc1, hc2⟩ | ⟨hc1, hc2⟩ | ⟨hc1, hc2, hc3⟩ | ⟨hc1, hc2, hc3⟩ | ⟨hc1, hc2, hc3⟩ | ⟨hc1, hc2, hc3⟩ : (S.bad ≤ 12 ∧ S.sg = -1) ∨ (S.bad ≤ 12 ∧ ¬ S.sg = -1) ∨ (¬ S.bad ≤ 12 ∧ S.sg = -1 ∧ S.bad < 100) ∨ (¬ S.bad ≤ 12 ∧ S.sg = -1 ∧ ¬ S.bad < 100) ∨ (¬ S.bad ≤ 12 ∧ ¬ S.sg = -1 ∧ S.bad < 100) ∨ (¬ S.bad ≤ 12 ∧ ¬ S.sg = -1 ∧ ¬ S.bad < 100) := by omega
            · have HE : Hid (r = some (D, 2)) := Lib.hid (by rw [HE2.out, show It.cls S = 2 by rw [HCls.out, if_pos hc1]])
              have hc3 : S.bad < 100 := by omega
              rw [hc2] at c0
              go_wp2
              go_ret3
              rw [HE.out]
              exact ⟨rfl, HB2.out⟩
            · have HE : Hid (r = some (D, 2)) := Lib.hid (by rw [HE2.out, show It.cls S = 2 by rw [HCls.out, if_pos hc1]])
              have hc3 : S.bad < 100 := by omega
              have hc4 : (S.sg == -1) = false := by simp [hc2]
              go_wp2
              go_ret3
              rw [HE.out]
              exact ⟨rfl, HB2.out⟩
            · have HE : Hid (r = some (D, 3)) := Lib.hid (by rw [HE2.out, show It.cls S = 3 by rw [HCls.out, if_neg hc1, if_pos (by omega)]])
              rw [hc2] at c0
              go_wp2
              go_ret3
              rw [HE.out]
              exact ⟨rfl, HB2.out⟩
            · have HE : Hid (r = some (D, 3)) := Lib.hid (by rw [HE2.out, show It.cls S = 3 by rw [HCls.out, if_neg hc1, if_pos (by omega)]])
              rw [hc2] at c0
              go_wp2
              go_ret3
              rw [HE.out]
              exact ⟨rfl, HB2.out⟩
            · have HE : Hid (r = some (D, 1)) := Lib.hid (by rw [HE2.out, show It.cls S = 1 by rw [HCls.out, if_neg hc1, if_neg (by omega), if_pos hc3]])
              have hc4 : (S.sg == -1) = false := by simp [hc2]
              go_wp2
              go_ret3
              rw [HE.out]
              exact ⟨rfl, HB2.out⟩
            · have HE : Hid (r = some (D, 0)) := Lib.hid (by rw [HE2.out, show It.cls S = 0 by rw [HCls.out, if_neg hc1, if_neg (by omega), if_neg hc3]])
              have hc4 : (S.sg == -1) = false := by simp [hc2]
              go_wp2
              go_ret3
              rw [HE.out]
              exact ⟨rfl, HB2.out⟩
          | true =>
            rw [hyf] at z6
            cases hxf : x.f with
            | false =>
              rw [hxf] at y6
              have HE2 : Hid (r = some (D, It.cls S)) := Lib.hid (by rw [HE1.out, hyf, hxf]; rfl)
              obtain ⟨hc1, hc2⟩ | ⟨hc1, hc2⟩ | ⟨hc1, hc2, hc3⟩ | ⟨hc1, hc2, hc3⟩ | ⟨hc1, hc2, hc3⟩ | ⟨hc1, hc2, hc3⟩ : (S.bad ≤ 12 ∧ S.sg = -1) ∨ (S.bad ≤ 12 ∧ ¬ S.sg = -1) ∨ (¬ S.bad ≤ 12 ∧ S.sg = -1 ∧ S.bad < 100) ∨ (¬ S.bad ≤ 12 ∧ S.sg = -1 ∧ ¬ S.bad < 100) ∨ (¬ S.bad ≤ 12 ∧ ¬ S.sg = -1 ∧ S.bad < 100) ∨ (¬ S.bad ≤ 12 ∧ ¬ S.sg = -1 ∧ ¬ S.bad < 100) := by omega
              · have HE : Hid (r = some (D, 2)) := Lib.hid (by rw [HE2.out, show It.cls S = 2 by rw [HCls.out, if_pos hc1]])
                have hc3 : S.bad < 100 := by omega
                rw [hc2] at c0
                go_wp2
                go_ret3
                rw [HE.out]
                exact ⟨rfl, HB2.out⟩
              · have HE : Hid (r = some (D, 2)) := Lib.hid (by rw [HE2.out, show It.cls S = 2 by rw [HCls.out, if_pos hc1]])
                have hc3 : S.bad < 100 := by omega
                have hc4 : (S.sg == -1) = false := by simp [hc2]
                go_wp2
                go_ret3
                rw [HE.out]
                exact ⟨rfl, HB2.out⟩
              · have HE : Hid (r = some (D, 3)) := Lib.hid (by rw [HE2.out, show It.cls S = 3 by rw [HCls.out, if_neg hc1, if_pos (by omega)]])
                rw [hc2] at c0
                go_wp2
                go_ret3
                rw [HE.out]
                exact ⟨rfl, HB2.out⟩
              · have HE : Hid (r = some (D, 3)) := Lib.hid (by rw [HE2.out, show It.cls S = 3 by rw [HCls.out, if_neg hc1, if_pos (by omega)]])
                rw [hc2] at c0
                go_wp2
                go_ret3
                rw [HE.out]
                exact ⟨rfl, HB2.out⟩
              · have HE : Hid (r = some (D, 1)) := Lib.hid (by rw [HE2.out, show It.cls S = 1 by rw [HCls.out, if_neg hc1, if_neg (by omega), if_pos hc3]])
                have hc4 : (S.sg == -1) = false := by simp [hc2]
                go_wp2
                go_ret3
                rw [HE.out]
                exact ⟨rfl, HB2.out⟩
              · have HE : Hid (r = some (D, 0)) := Lib.hid (by rw [HE2.out, show It.cls S = 0 by rw [HCls.out, if_neg hc1, if_neg (by omega), if_neg hc3]])
                have hc4 : (S.sg == -1) = false := by simp [hc2]
                go_wp2
                go_ret3
                rw [HE.out]
                exact ⟨rfl, HB2.out⟩
            | true =>
              rw [hxf] at y6
              have HE2 : Hid (r = some (E, It.cls S)) := Lib.hid (by rw [HE1.out, hyf, hxf]; rfl)
              obtain ⟨hc1, hc2⟩ | ⟨hc1, hc2⟩ | ⟨hc1, hc2, hc3⟩ | ⟨hc1, hc2, hc3⟩ | ⟨hc1, hc2, hc3⟩ | ⟨hc1, hc2, hc3⟩ : (S.bad ≤ 12 ∧ S.sg = -1) ∨ (S.bad ≤ 12 ∧ ¬ S.sg = -1) ∨ (¬ S.bad ≤ 12 ∧ S.sg = -1 ∧ S.bad < 100) ∨ (¬ S.bad ≤ 12 ∧ S.sg = -1 ∧ ¬ S.bad < 100) ∨ (¬ S.bad ≤ 12 ∧ ¬ S.sg = -1 ∧ S.bad < 100) ∨ (¬ S.bad ≤ 12 ∧ ¬ S.sg = -1 ∧ ¬ S.bad < 100) := by omega
              · have HE : Hid (r = some (E, 2)) := Lib.hid (by rw [HE2.out, show It.cls S = 2 by rw [HCls.out, if_pos hc1]])
                have hc3 : S.bad < 100 := by omega
                rw [hc2] at c0
                go_wp2
                go_ret3
                rw [HE.out]
                exact ⟨rfl, HB2.out⟩
              · have HE : Hid (r = some (E, 2)) := Lib.hid (by rw [HE2.out, show It.cls S = 2 by rw [HCls.out, if_pos hc1]])
                have hc3 : S.bad < 100 := by omega
                have hc4 : (S.sg == -1) = false := by simp [hc2]
                go_wp2
                go_ret3
                rw [HE.out]
                exact ⟨rfl, HB2.out⟩
              · have HE : Hid (r = some (E, 3)) := Lib.hid (by rw [HE2.out, show It.cls S = 3 by rw [HCls.out, if_neg hc1, if_pos (by omega)]])
                rw [hc2] at c0
                go_wp2
                go_ret3
                rw [HE.out]
                exact ⟨rfl, HB2.out⟩
              · have HE : Hid (r = some (E, 3)) := Lib.hid (by rw [HE2.out, show It.cls S = 3 by rw [HCls.out, if_neg hc1, if_pos (by omega)]])
                rw [hc2] at c0
                go_wp2
                go_ret3
                rw [HE.out]
                exact ⟨rfl, HB2.out⟩
              · have HE : Hid (r = some (E, 1)) := Lib.hid (by rw [HE2.out, show It.cls S = 1 by rw [HCls.out, if_neg hc1, if_neg (by omega), if_pos hc3]])
                have hc4 : (S.sg == -1) = false := by simp [hc2]
                go_wp2
                go_ret3
                rw [HE.out]
                exact ⟨rfl, HB2.out⟩
              · have HE : Hid (r = some (E, 0)) := Lib.hid (by rw [HE2.out, show It.cls S = 0 by rw [HCls.out, if_neg hc1, if_neg (by omega), if_neg hc3]])
                have hc4 : (S.sg == -1) = false := by simp [hc2]
                go_wp2
                go_ret3
                rw [HE.out]
                exact ⟨rfl, HB2.out⟩
        · have hDz : IntKind.i64.wrap (z - IntKind.i64.wrap (x.p * x.p)) = D := by rw [HD.out, brk_pn hpen hp hp2]; exact It.wr_sub _ _
          rw [hpen] at y0
          have hp3 : ¬ 0 < x.p := by omega
          have hp4 : (x.p == -10000) = false := by simp [hp2]
          have hp5 : (x.p != -10000) = true := by simp [hp2]
          obtain ⟨y1, hy1⟩ : ∃ y1, y1 = IntKind.i64.wrap (x.p * x.p) := ⟨_, rfl⟩
          rw [← hy1] at hDz
          have hy1' : IntKind.i64.wrap (x.p * x.p) = y1 := hy1.symm
          clear hy1
          go_upto_region 11 with fail
          cases hyf : y'.f with
          | false =>
            rw [hyf] at z6
            have HE2 : Hid (r = some (D, It.cls S)) := Lib.hid (by rw [HE1.out, hyf]; rfl)
            obtain ⟨hc1, hc2⟩ | ⟨hc1, hc2⟩ | ⟨hc1, hc2, hc3⟩ | ⟨hc1, hc2, hc3⟩ | ⟨hc1, hc2, hc3⟩ | ⟨hc1, hc2, hc3⟩ : (S.bad ≤ 12 ∧ S.sg = -1) ∨ (S.bad ≤ 12 ∧ ¬ S.sg = -1) ∨ (¬ S.bad ≤ 12 ∧ S.sg = -1 ∧ S.bad < 100) ∨ (¬ S.bad ≤ 12 ∧ S.sg = -1 ∧ ¬ S.bad < 100) ∨ (¬ S.bad ≤ 12 ∧ ¬ S.sg = -1 ∧ S.bad < 100) ∨ (¬ S.bad ≤ 12 ∧ ¬ S.sg = -1 ∧ ¬ S.bad < 100) := by omega
            · have HE : Hid (r = some (D, 2)) := Lib.hid (by rw [HE2.out, show It.cls S = 2 by rw [HCls.out, if_pos hc1]])
              have hc3 : S.bad < 100 := by omega
              rw [hc2] at c0
              go_wp2
              go_ret3
              rw [HE.out]
              exact ⟨rfl, HB2.out⟩
            · have HE : Hid (r = some (D, 2)) := Lib.hid (by rw [HE2.out, show It.cls S = 2 by rw [HCls.out, if_pos hc1]])
              have hc3 : S.bad < 100 := by omega
              have hc4 : (S.sg == -1) = false := by simp [hc2]
              go_wp2
              go_ret3
              rw [HE.out]
              exact ⟨rfl, HB2.out⟩
            · have HE : Hid (r = some (D, 3)) := Lib.hid (by rw [HE2.out, show It.cls S = 3 by rw [HCls.out, if_neg hc1, if_pos (by omega)]])
              rw [hc2] at c0
              go_wp2
              go_ret3
              rw [HE.out]
              exact ⟨rfl, HB2.out⟩
            · have HE : Hid (r = some (D, 3)) := Lib.hid (by rw [HE2.out, show It.cls S = 3 by rw [HCls.out, if_neg hc1, if_pos (by omega)]])
              rw [hc2] at c0
              go_wp2
              go_ret3
              rw [HE.out]
              exact ⟨rfl, HB2.out⟩
            · have HE : Hid (r = some (D, 1)) := Lib.hid (by rw [HE2.out, show It.cls S = 1 by rw [HCls.out, if_neg hc1, if_neg (by omega), if_pos hc3]])
              have hc4 : (S.sg == -1) = false := by simp [hc2]
              go_wp2
              go_ret3
              rw [HE.out]
              exact ⟨rfl, HB2.out⟩
            · have HE : Hid (r = some (D, 0)) := Lib.hid (by rw [HE2.out, show It.cls S = 0 by rw [HCls.out, if_neg hc1, if_neg (by omega), if_neg hc3]])
              have hc4 : (S.sg == -1) = false := by simp [hc2]
              go_wp2
              go_ret3
              rw [HE.out]
              exact ⟨rfl, HB2.out⟩
          | true =>
            rw [hyf] at z6
            cases hxf : x.f with
            | false =>
              rw [hxf] at y6
              have HE2 : Hid (r = some (D, It.cls S)) := Lib.hid (by rw [HE1.out, hyf, hxf]; rfl)
              obtain ⟨hc1, hc2⟩ | ⟨hc1, hc2⟩ | ⟨hc1, hc2, hc3⟩ | ⟨hc1, hc2, hc3⟩ | ⟨hc1, hc2, hc3⟩ | ⟨hc1, hc2, hc3⟩ : (S.bad ≤ 12 ∧ S.sg = -1) ∨ (S.bad ≤ 12 ∧ ¬ S.sg = -1) ∨ (¬ S.bad ≤ 12 ∧ S.sg = -1 ∧ S.bad < 100) ∨ (¬ S.bad ≤ 12 ∧ S.sg = -1 ∧ ¬ S.bad < 100) ∨ (¬ S.bad ≤ 12 ∧ ¬ S.sg = -1 ∧ S.bad < 100) ∨ (¬ S.bad ≤ 12 ∧ ¬ S.sg = -1 ∧ ¬ S.bad < 100) := by omega
              · have HE : Hid (r = some (D, 2)) := Lib.hid (by rw [HE2.out, show It.cls S = 2 by rw [HCls.out, if_pos hc1]])
                have hc3 : S.bad < 100 := by omega
                rw [hc2] at c0
                go_wp2
                go_ret3
                rw [HE.out]
                exact ⟨rfl, HB2.out⟩
              · have HE : Hid (r = some (D, 2)) := Lib.hid (by rw [HE2.out, show It.cls S = 2 by rw [HCls.out, if_pos hc1]])
                have hc3 : S.bad < 100 := by omega
                have hc4 : (S.sg == -1) = false := by simp [hc2]
                go_wp2
                go_ret3
                rw [HE.out]
                exact ⟨rfl, HB2.out⟩
              · have HE : Hid (r = some (D, 3)) := Lib.hid (by rw [HE2.out, show It.cls S = 3 by rw [HCls.out, if_neg hc1, if_pos (by omega)]])
                rw [hc2] at c0
                go_wp2
                go_ret3
                rw [HE.out]
                exact ⟨rfl, HB2.out⟩
              · have HE : Hid (r = some (D, 3)) := Lib.hid (by rw [HE2.out, show It.cls S = 3 by rw [HCls.out, if_neg hc1, if_pos (by omega)]])
                rw [hc2] at c0
                go_wp2
                go_ret3
                rw [HE.out]
                exact ⟨rfl, HB2.out⟩
              · have HE : Hid (r = some (D, 1)) := Lib.hid (by rw [HE2.out, show It.cls S = 1 by rw [HCls.out, if_neg hc1, if_neg (by omega), if_pos hc3]])
                have hc4 : (S.sg == -1) = false := by simp [hc2]
                go_wp2
                go_ret3
                rw [HE.out]
                exact ⟨rfl, HB2.out⟩
              · have HE : Hid (r = some (D, 0)) := Lib.hid (by rw [HE2.out, show It.cls S = 0 by rw [HCls.out, if_neg hc1, if_neg (by omega), if_neg hc3]])
                have hc4 : (S.sg == -1) = false := by simp [hc2]
                go_wp2
                go_ret3
                rw [HE.out]
                exact ⟨rfl, HB2.out⟩
            | true =>
              rw [hxf] at y6
              have HE2 : Hid (r = some (E, It.cls S)) := Lib.hid (by rw [HE1.out, hyf, hxf]; rfl)
              obtain ⟨hc1, hc2⟩ | ⟨hc1, hc2⟩ | ⟨hc1, hc2, hc3⟩ | ⟨hc1, hc2, hc3⟩ | ⟨hc1, hc2, hc3⟩ | ⟨hc1, hc2, hc3⟩ : (S.bad ≤ 12 ∧ S.sg = -1) ∨ (S.bad ≤ 12 ∧ ¬ S.sg = -1) ∨ (¬ S.bad ≤ 12 ∧ S.sg = -1 ∧ S.bad < 100) ∨ (¬ S.bad ≤ 12 ∧ S.sg = -1 ∧ ¬ S.bad < 100) ∨ (¬ S.bad ≤ 12 ∧ ¬ S.sg = -1 ∧ S.bad < 100) ∨ (¬ S.bad ≤ 12 ∧ ¬ S.sg = -1 ∧ ¬ S.bad < 100) := by omega
              · have HE : Hid (r = some (E, 2)) := Lib.hid (by rw [HE2.out, show It.cls S = 2 by rw [HCls.out, if_pos hc1]])
                have hc3 : S.bad < 100 := by omega
                rw [hc2] at c0
                go_wp2
                go_ret3
                rw [HE.out]
                exact ⟨rfl, HB2.out⟩
              · have HE : Hid (r = some (E, 2)) := Lib.hid (by rw [HE2.out, show It.cls S = 2 by rw [HCls.out, if_pos hc1]])
                have hc3 : S.bad < 100 := by omega
                have hc4 : (S.sg == -1) = false := by simp [hc2]
                go_wp2
                go_ret3
                rw [HE.out]
                exact ⟨rfl, HB2.out⟩
              · have HE : Hid (r = some (E, 3)) := Lib.hid (by rw [HE2.out, show It.cls S = 3 by rw [HCls.out, if_neg hc1, if_pos (by omega)]])
                rw [hc2] at c0
                go_wp2
                go_ret3
                rw [HE.out]
                exact ⟨rfl, HB2.out⟩
              · have HE : Hid (r = some (E, 3)) := Lib.hid (by rw [HE2.out, show It.cls S = 3 by rw [HCls.out, if_neg hc1, if_pos (by omega)]])
                rw [hc2] at c0
                go_wp2
                go_ret3
                rw [HE.out]
                exact ⟨rfl, HB2.out⟩
              · have HE : Hid (r = some (E, 1)) := Lib.hid (by rw [HE2.out, show It.cls S = 1 by rw [HCls.out, if_neg hc1, if_neg (by omega), if_pos hc3]])
                have hc4 : (S.sg == -1) = false := by simp [hc2]
                go_wp2
                go_ret3
                rw [HE.out]
                exact ⟨rfl, HB2.out⟩
              · have HE : Hid (r = some (E, 0)) := Lib.hid (by rw [HE2.out, show It.cls S = 0 by rw [HCls.out, if_neg hc1, if_neg (by omega), if_neg hc3]])
                have hc4 : (S.sg == -1) = false := by simp [hc2]
                go_wp2
                go_ret3
                rw [HE.out]
                exact ⟨rfl, HB2.out⟩
end Go.Proofs.Ythcilpijiindeaa
