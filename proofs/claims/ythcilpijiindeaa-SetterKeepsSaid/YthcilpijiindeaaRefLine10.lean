/-
  The reference's Line: how the line from a to b is set.
-/
import Derived.Test.YthcilpijiindeaaRefGl10
import Derived.Test.YthcilpijiindeaaRefSet10
import Derived.Test.YthcilpijiindeaaLineAll10
set_option linter.unusedVariables false
set_option linter.unusedSimpArgs false
namespace Go.Proofs.Ythcilpijiindeaa
open Go.RowKit

theorem isLine_at {l : List It.Itm} {a b : Int} {s k : Nat} (h : a = -1 ∨ It.legal l a = true) (h2 : It.legal l b = true) (h3 : a < b) (hs : a + 1 = (s : Int)) (hk : b = (k : Int)) : It.isLine l a b = (decide (It.st l s ≤ k) && !((l.take k).drop s).any It.forced) := by
  rw [isLine_yes h h2 h3 hs hk]
  have hkl := (legal_in h2).2
  rw [st_take (by omega) (by omega)]
  congr 1
  rw [decide_eq_decide]
  omega
theorem any_next {l : List It.Itm} {s j : Nat} {x : It.Itm} (hx : l[j]? = some x) (hs : s ≤ j) : ((l.take (j + 1)).drop s).any It.forced = (((l.take j).drop s).any It.forced || It.forced x) := by
  rw [take_drop_next hx hs, List.any_append]
  simp
theorem any_more {l : List It.Itm} {s j k : Nat} {x : It.Itm} (hx : l[j]? = some x) (hs : s ≤ j) (hk : j < k) (hf : It.forced x = true) : ((l.take k).drop s).any It.forced = true := by
  rw [List.any_eq_true]
  refine ⟨x, ?_, hf⟩
  refine List.mem_of_getElem? (i := j - s) ?_
  rw [List.getElem?_drop, show s + (j - s) = j by omega, List.getElem?_take_of_lt hk, hx]

set_option maxHeartbeats 16000000 in
set_option maxRecDepth 100000 in
theorem refLine_any (v : Value) (l : List It.Itm) (a b t : Int) (w : World) (h : ItsAt w v l) (hlen : l.length ≤ 2000) : Calls Try.prog 20 #[v, .int .i64 a, .int .i64 b, .int .i64 t] w (Ret (setV (It.lineOf l a b t)) w) := by
  obtain ⟨r, hr⟩ : ∃ r, r = It.lineOf l a b t := ⟨_, rfl⟩
  have HQ := Lib.hid hr
  rw [← hr]
  clear hr
  obtain ⟨W1, hW1⟩ : ∃ W1, W1 = (w.alloc (.cells #[.int .i64 0, .int .i64 0, .int .i64 0, .int .i64 0] 56)).alloc (.cells #[.int .i64 0, .int .i64 0, .int .i64 0, .int .i64 0] 56) := ⟨_, rfl⟩
  have b1 := below_alloc w (.cells #[.int .i64 0, .int .i64 0, .int .i64 0, .int .i64 0] 56)
  have b2 := below_alloc (w.alloc (.cells #[.int .i64 0, .int .i64 0, .int .i64 0, .int .i64 0] 56)) (.cells #[.int .i64 0, .int .i64 0, .int .i64 0, .int .i64 0] 56)
  have HR1 := Lib.hid (obj_kept b2 (obj_new w _ rfl #[.int .i64 0, .int .i64 0, .int .i64 0, .int .i64 0] 56))
  have HN1 := Lib.hid (obj_new (w.alloc (.cells #[.int .i64 0, .int .i64 0, .int .i64 0, .int .i64 0] 56)) (w.heap.size + 1) (World.size_alloc _ _) #[.int .i64 0, .int .i64 0, .int .i64 0, .int .i64 0] 56)
  have HB1 := Lib.hid (below_step b1 b2)
  rw [← hW1] at HR1 HN1 HB1
  have HI1 := Lib.hid (SlcAt.mono h HB1.out)
  have HLa := Lib.hid (fun w h => refLegal_any v l a w h)
  have HLb := Lib.hid (fun w h => refLegal_any v l b w h)
  clear b1 b2
  by_cases hlo : a < -1
  · have HE : Hid (r = none) := Lib.hid (by
      rw [HQ.out]
      exact lineOf_no (isLine_no1 (by omega) (legal_neg (by omega))))
    clear h
    go_enter Try.func20, Try.ntmps20
    go_upto_region 3 with fail
    rw [← hW1]
    clear hW1
    have n0 := Lib.cell_of_heap HN1.out 0
    have n1 := Lib.cell_of_heap HN1.out 1
    have n2 := Lib.cell_of_heap HN1.out 2
    have n3 := Lib.cell_of_heap HN1.out 3
    have H4 := Lib.hid (four_set HR1.out rfl (.int .i64 0) (.int .i64 0) (.int .i64 0) (.int .i64 0))
    have HBx := Lib.hid (below_four HB1.out (Nat.le_refl _) (.int .i64 0) (.int .i64 0) (.int .i64 0) (.int .i64 0))
    have cz0 := Lib.cell_of_heap HR1.out 0
    have cz1 := Lib.cell_of_heap HR1.out 1
    have cz2 := Lib.cell_of_heap HR1.out 2
    have cz3 := Lib.cell_of_heap HR1.out 3
    have fz0 := Lib.frozen_of_heap HR1.out 0
    have fz1 := Lib.frozen_of_heap HR1.out 1
    have fz2 := Lib.frozen_of_heap HR1.out 2
    have fz3 := Lib.frozen_of_heap HR1.out 3
    go_wp2
    obtain ⟨WX, hWX⟩ : ∃ WX, WX = ((((W1.setCell ⟨w.heap.size, 0, none⟩ (.int .i64 0)).setCell ⟨w.heap.size, 1, none⟩ (.int .i64 0)).setCell ⟨w.heap.size, 2, none⟩ (.int .i64 0)).setCell ⟨w.heap.size, 3, none⟩ (.int .i64 0)) := ⟨_, rfl⟩
    rw [← hWX] at H4 HBx ⊢
    clear hWX
    have q0 := Lib.cell_of_heap H4.out 0
    have q1 := Lib.cell_of_heap H4.out 1
    have q2 := Lib.cell_of_heap H4.out 2
    have q3 := Lib.cell_of_heap H4.out 3
    exact bodyPost_ret (v := .tuple #[.agg #[.int .i64 0, .int .i64 0, .int .i64 0, .int .i64 0], .bool false]) (by simp [results, Try.results20, go_sem, q0, q1, q2, q3]) rfl ⟨by rw [HE.out]; rfl, HBx.out⟩
  · by_cases hna : a ≠ -1 ∧ It.legal l a = false
    · have HE : Hid (r = none) := Lib.hid (by rw [HQ.out]; exact lineOf_no (isLine_no1 hna.1 hna.2))
      have hge : 0 ≤ a := by have := hna.1; omega
      rw [hna.2] at HLa
      clear h hna
      go_enter Try.func20, Try.ntmps20
      go_wp2_with fail
      rw [← hW1]
      clear hW1
      refine (HLa.out _ HI1.out).mono ?_
      rintro e w1 ⟨rfl, rfl⟩
      have n0 := Lib.cell_of_heap HN1.out 0
      have n1 := Lib.cell_of_heap HN1.out 1
      have n2 := Lib.cell_of_heap HN1.out 2
      have n3 := Lib.cell_of_heap HN1.out 3
      have H4 := Lib.hid (four_set HR1.out rfl (.int .i64 0) (.int .i64 0) (.int .i64 0) (.int .i64 0))
      have HBx := Lib.hid (below_four HB1.out (Nat.le_refl _) (.int .i64 0) (.int .i64 0) (.int .i64 0) (.int .i64 0))
      have cz0 := Lib.cell_of_heap HR1.out 0
      have cz1 := Lib.cell_of_heap HR1.out 1
      have cz2 := Lib.cell_of_heap HR1.out 2
      have cz3 := Lib.cell_of_heap HR1.out 3
      have fz0 := Lib.frozen_of_heap HR1.out 0
      have fz1 := Lib.frozen_of_heap HR1.out 1
      have fz2 := Lib.frozen_of_heap HR1.out 2
      have fz3 := Lib.frozen_of_heap HR1.out 3
      go_wp2
      obtain ⟨WX, hWX⟩ : ∃ WX, WX = ((((W1.setCell ⟨w.heap.size, 0, none⟩ (.int .i64 0)).setCell ⟨w.heap.size, 1, none⟩ (.int .i64 0)).setCell ⟨w.heap.size, 2, none⟩ (.int .i64 0)).setCell ⟨w.heap.size, 3, none⟩ (.int .i64 0)) := ⟨_, rfl⟩
      rw [← hWX] at H4 HBx ⊢
      clear hWX
      have q0 := Lib.cell_of_heap H4.out 0
      have q1 := Lib.cell_of_heap H4.out 1
      have q2 := Lib.cell_of_heap H4.out 2
      have q3 := Lib.cell_of_heap H4.out 3
      exact bodyPost_ret (v := .tuple #[.agg #[.int .i64 0, .int .i64 0, .int .i64 0, .int .i64 0], .bool false]) (by simp [results, Try.results20, go_sem, q0, q1, q2, q3]) rfl ⟨by rw [HE.out]; rfl, HBx.out⟩
    · have hor : a = -1 ∨ It.legal l a = true := by
        by_cases ha : a = -1
        · exact .inl ha
        · cases e : It.legal l a with
          | true => exact .inr rfl
          | false => exact absurd ⟨ha, e⟩ hna
      clear hna
      cases hb : It.legal l b with
      | false =>
        have HE : Hid (r = none) := Lib.hid (by rw [HQ.out]; exact lineOf_no (isLine_no2 hb))
        rw [hb] at HLb
        clear h
        rcases hor with rfl | hla
        ·
          go_enter Try.func20, Try.ntmps20
          go_wp2_with fail
          rw [← hW1]
          clear hW1
          refine (HLb.out _ HI1.out).mono ?_
          rintro e w1 ⟨rfl, rfl⟩
          have n0 := Lib.cell_of_heap HN1.out 0
          have n1 := Lib.cell_of_heap HN1.out 1
          have n2 := Lib.cell_of_heap HN1.out 2
          have n3 := Lib.cell_of_heap HN1.out 3
          have H4 := Lib.hid (four_set HR1.out rfl (.int .i64 0) (.int .i64 0) (.int .i64 0) (.int .i64 0))
          have HBx := Lib.hid (below_four HB1.out (Nat.le_refl _) (.int .i64 0) (.int .i64 0) (.int .i64 0) (.int .i64 0))
          have cz0 := Lib.cell_of_heap HR1.out 0
          have cz1 := Lib.cell_of_heap HR1.out 1
          have cz2 := Lib.cell_of_heap HR1.out 2
          have cz3 := Lib.cell_of_heap HR1.out 3
          have fz0 := Lib.frozen_of_heap HR1.out 0
          have fz1 := Lib.frozen_of_heap HR1.out 1
          have fz2 := Lib.frozen_of_heap HR1.out 2
          have fz3 := Lib.frozen_of_heap HR1.out 3
          go_wp2
          obtain ⟨WX, hWX⟩ : ∃ WX, WX = ((((W1.setCell ⟨w.heap.size, 0, none⟩ (.int .i64 0)).setCell ⟨w.heap.size, 1, none⟩ (.int .i64 0)).setCell ⟨w.heap.size, 2, none⟩ (.int .i64 0)).setCell ⟨w.heap.size, 3, none⟩ (.int .i64 0)) := ⟨_, rfl⟩
          rw [← hWX] at H4 HBx ⊢
          clear hWX
          have q0 := Lib.cell_of_heap H4.out 0
          have q1 := Lib.cell_of_heap H4.out 1
          have q2 := Lib.cell_of_heap H4.out 2
          have q3 := Lib.cell_of_heap H4.out 3
          exact bodyPost_ret (v := .tuple #[.agg #[.int .i64 0, .int .i64 0, .int .i64 0, .int .i64 0], .bool false]) (by simp [results, Try.results20, go_sem, q0, q1, q2, q3]) rfl ⟨by rw [HE.out]; rfl, HBx.out⟩
        · have hge := (legal_in hla).1
          rw [hla] at HLa
          clear hla
          go_enter Try.func20, Try.ntmps20
          go_wp2_with fail
          rw [← hW1]
          clear hW1
          refine (HLa.out _ HI1.out).mono ?_
          rintro e w1 ⟨rfl, rfl⟩
          go_wp2_with fail
          refine (HLb.out _ HI1.out).mono ?_
          rintro e w1 ⟨rfl, rfl⟩
          have n0 := Lib.cell_of_heap HN1.out 0
          have n1 := Lib.cell_of_heap HN1.out 1
          have n2 := Lib.cell_of_heap HN1.out 2
          have n3 := Lib.cell_of_heap HN1.out 3
          have H4 := Lib.hid (four_set HR1.out rfl (.int .i64 0) (.int .i64 0) (.int .i64 0) (.int .i64 0))
          have HBx := Lib.hid (below_four HB1.out (Nat.le_refl _) (.int .i64 0) (.int .i64 0) (.int .i64 0) (.int .i64 0))
          have cz0 := Lib.cell_of_heap HR1.out 0
          have cz1 := Lib.cell_of_heap HR1.out 1
          have cz2 := Lib.cell_of_heap HR1.out 2
          have cz3 := Lib.cell_of_heap HR1.out 3
          have fz0 := Lib.frozen_of_heap HR1.out 0
          have fz1 := Lib.frozen_of_heap HR1.out 1
          have fz2 := Lib.frozen_of_heap HR1.out 2
          have fz3 := Lib.frozen_of_heap HR1.out 3
          go_wp2
          obtain ⟨WX, hWX⟩ : ∃ WX, WX = ((((W1.setCell ⟨w.heap.size, 0, none⟩ (.int .i64 0)).setCell ⟨w.heap.size, 1, none⟩ (.int .i64 0)).setCell ⟨w.heap.size, 2, none⟩ (.int .i64 0)).setCell ⟨w.heap.size, 3, none⟩ (.int .i64 0)) := ⟨_, rfl⟩
          rw [← hWX] at H4 HBx ⊢
          clear hWX
          have q0 := Lib.cell_of_heap H4.out 0
          have q1 := Lib.cell_of_heap H4.out 1
          have q2 := Lib.cell_of_heap H4.out 2
          have q3 := Lib.cell_of_heap H4.out 3
          exact bodyPost_ret (v := .tuple #[.agg #[.int .i64 0, .int .i64 0, .int .i64 0, .int .i64 0], .bool false]) (by simp [results, Try.results20, go_sem, q0, q1, q2, q3]) rfl ⟨by rw [HE.out]; rfl, HBx.out⟩
      | true =>
        rw [hb] at HLb
        have hbi := legal_in hb
        by_cases h3 : b ≤ a
        · have HE : Hid (r = none) := Lib.hid (by rw [HQ.out]; exact lineOf_no (isLine_no3 h3))
          have hla : It.legal l a = true := by
            rcases hor with h | h
            · omega
            · exact h
          have hge := (legal_in hla).1
          rw [hla] at HLa
          clear h hor hla
          go_enter Try.func20, Try.ntmps20
          go_wp2_with fail
          rw [← hW1]
          clear hW1
          refine (HLa.out _ HI1.out).mono ?_
          rintro e w1 ⟨rfl, rfl⟩
          go_wp2_with fail
          refine (HLb.out _ HI1.out).mono ?_
          rintro e w1 ⟨rfl, rfl⟩
          have n0 := Lib.cell_of_heap HN1.out 0
          have n1 := Lib.cell_of_heap HN1.out 1
          have n2 := Lib.cell_of_heap HN1.out 2
          have n3 := Lib.cell_of_heap HN1.out 3
          have H4 := Lib.hid (four_set HR1.out rfl (.int .i64 0) (.int .i64 0) (.int .i64 0) (.int .i64 0))
          have HBx := Lib.hid (below_four HB1.out (Nat.le_refl _) (.int .i64 0) (.int .i64 0) (.int .i64 0) (.int .i64 0))
          have cz0 := Lib.cell_of_heap HR1.out 0
          have cz1 := Lib.cell_of_heap HR1.out 1
          have cz2 := Lib.cell_of_heap HR1.out 2
          have cz3 := Lib.cell_of_heap HR1.out 3
          have fz0 := Lib.frozen_of_heap HR1.out 0
          have fz1 := Lib.frozen_of_heap HR1.out 1
          have fz2 := Lib.frozen_of_heap HR1.out 2
          have fz3 := Lib.frozen_of_heap HR1.out 3
          go_wp2
          obtain ⟨WX, hWX⟩ : ∃ WX, WX = ((((W1.setCell ⟨w.heap.size, 0, none⟩ (.int .i64 0)).setCell ⟨w.heap.size, 1, none⟩ (.int .i64 0)).setCell ⟨w.heap.size, 2, none⟩ (.int .i64 0)).setCell ⟨w.heap.size, 3, none⟩ (.int .i64 0)) := ⟨_, rfl⟩
          rw [← hWX] at H4 HBx ⊢
          clear hWX
          have q0 := Lib.cell_of_heap H4.out 0
          have q1 := Lib.cell_of_heap H4.out 1
          have q2 := Lib.cell_of_heap H4.out 2
          have q3 := Lib.cell_of_heap H4.out 3
          exact bodyPost_ret (v := .tuple #[.agg #[.int .i64 0, .int .i64 0, .int .i64 0, .int .i64 0], .bool false]) (by simp [results, Try.results20, go_sem, q0, q1, q2, q3]) rfl ⟨by rw [HE.out]; rfl, HBx.out⟩
        · have h3' : a < b := by omega
          obtain ⟨s, hs⟩ : ∃ s : Nat, a + 1 = (s : Int) := ⟨(a + 1).toNat, by omega⟩
          obtain ⟨k, hk⟩ : ∃ k : Nat, b = (k : Int) := ⟨b.toNat, by omega⟩
          have hkl : k < l.length := by omega
          have hsk : s ≤ k := by omega
          have HV := Lib.hid (isLine_at hor hb h3' hs hk)
          have HSt := Lib.hid (fun w h => refStart_any v l a s hs (by omega) w h)
          have HLO : Hid (It.isLine l a b = true → It.lineOf l a b t = It.setOf (It.gluesN l s k) t) := Lib.hid (fun h => by
            rw [lineOf_yes h, hs, hk, Int.toNat_natCast, Int.toNat_natCast])
          have HGl := Lib.hid (fun hmk w h => refGlues10_any v l a b s k hs hk hsk hkl hmk hlen w h)
          subst hk
          have hsw : wrap64 (s : Int) = (s : Int) := w64 (by omega) (by omega)
          have HLn := Lib.hid hkl
          have HS2 := Lib.hid hlen
          generalize It.st l s = m at HV HSt HGl
          clear h3
          by_cases hmk : m ≤ k
          · have hmk' : ¬ ((k : Int) < (m : Int)) := by omega
            have HGm := Lib.hid (HGl.out hmk)
            have HV2 : Hid (It.isLine l a (k : Int) = !((l.take k).drop s).any It.forced) := Lib.hid (by rw [HV.out, decide_eq_true hmk, Bool.true_and])
            have hmkN : ¬ (k < m) := by omega
            clear HV HGl hmk
            obtain ⟨⟨p, cp, rfl, hcap⟩, hm, _⟩ := h
            obtain ⟨b1, o1, d1, e1, r1⟩ := HI1.out.2.2 (by omega)
            obtain ⟨rfl, rfl⟩ : p = some ⟨b1, o1, none⟩ ∧ cp = d1 := by injection e1 with a1 a2 a3; exact ⟨a1, a3⟩
            have Hr1 := Lib.hid r1
            obtain ⟨n, hn⟩ : ∃ n, n = l.length := ⟨_, rfl⟩
            have Hn := Lib.hid hn
            have HIx := Lib.hid HI1.out
            rw [← hn] at HLa HLb HSt HGm HI1 ⊢
            have hkn : (k : Int) < (n : Int) := by omega
            have hza : n ≤ 9223372036854775807 := by omega
            clear hcap hm e1 r1 hkl hbi hb hlen hn
            rcases hor with rfl | hla
            · have Hs0 : Hid (s = 0) := Lib.hid (by omega)
              clear hlo hs
              go_enter Try.func20, Try.ntmps20
              go_wp2_with fail
              rw [← hW1]
              clear hW1
              refine (HLb.out _ HI1.out).mono ?_
              rintro e w1 ⟨rfl, rfl⟩
              go_wp2_with fail
              refine (HSt.out _ HI1.out).mono ?_
              rintro e w2 ⟨rfl, hb2⟩
              have HR2 := Lib.hid (obj_kept hb2 HR1.out)
              have HN2 := Lib.hid (obj_kept hb2 HN1.out)
              have HB2 := Lib.hid (below_step HB1.out hb2)
              have HX2 := Lib.hid hb2
              clear hb2
              go_wp2_with fail
              try simp only [hsw]
              try simp only [decide_eq_false hmkN, Bool.or_false]
              go_loopw [11] (fun iv wr => ∃ j : Nat, s ≤ j ∧ j ≤ k ∧ iv = .int .i64 j ∧ Hid (Below W1.heap.size W1 wr) ∧ Hid (Below w.heap.size w wr) ∧ Hid (wr.heap[w.heap.size]? = some (.cells #[.int .i64 0, .int .i64 0, .int .i64 0, .int .i64 0] 56 (0, 0))) ∧ Hid (wr.heap[w.heap.size + 1]? = some (.cells #[.int .i64 0, .int .i64 0, .int .i64 0, .int .i64 0] 56 (0, 0))) ∧ Hid (((l.take j).drop s).any It.forced = false)) (fun iv _ => k - (intOf iv).toNat)
              case atStart => exact ⟨s, Nat.le_refl _, hsk, by first | go_num | (rw [Hs0.out]; rfl), HX2, HB2, HR2, HN2, Lib.hid (by rw [List.drop_of_length_le (by rw [List.length_take]; omega)]; rfl)⟩
              case round =>
                obtain ⟨j, hsj, hj, rfl, HX, HB, HR, HN, HF⟩ := hrel
                clear HX2 HB2 HR2 HN2
                by_cases hlt : j < k
                · obtain ⟨x, hx⟩ : ∃ x, l[j]? = some x := ⟨_, List.getElem?_eq_getElem (by have := HLn.out; omega)⟩
                  obtain ⟨y0, y1, y2, y3, y4, y5, y6, y7, y8⟩ := it_cells ((Hr1.out j x hx).mono HX.out)
                  have j0 : (0 : Int) ≤ (j : Int) := by omega
                  have jk : (j : Int) < (k : Int) := by omega
                  have jl : (j : Int) < (n : Int) := by omega
                  have HFo := Lib.hid (fun w => refForced_any x w)
                  unfold itV at HFo
                  have HAn := Lib.hid (any_next hx hsj)
                  cases hf : It.forced x with
                  | true =>
                    have HE : Hid (r = none) := Lib.hid (by
                      rw [HQ.out]
                      exact lineOf_no (by rw [HV2.out, any_more hx hsj hlt hf]; rfl))
                    rw [hf] at HFo
                    clear hf hx
                    go_wp2_with fail
                    refine (HFo.out _).mono ?_
                    rintro e w5 ⟨rfl, hb5⟩
                    have HR5 := Lib.hid (obj_kept hb5 HR.out)
                    have HN5 := Lib.hid (obj_kept hb5 HN.out)
                    have HB5 := Lib.hid (below_step HB.out hb5)
                    clear hb5 y0 y1 y2 y3 y4 y5 y6 y7 y8
                    have n0 := Lib.cell_of_heap HN5.out 0
                    have n1 := Lib.cell_of_heap HN5.out 1
                    have n2 := Lib.cell_of_heap HN5.out 2
                    have n3 := Lib.cell_of_heap HN5.out 3
                    have H4 := Lib.hid (four_set HR5.out rfl (.int .i64 0) (.int .i64 0) (.int .i64 0) (.int .i64 0))
                    have HBx := Lib.hid (below_four HB5.out (Nat.le_refl _) (.int .i64 0) (.int .i64 0) (.int .i64 0) (.int .i64 0))
                    have cz0 := Lib.cell_of_heap HR5.out 0
                    have cz1 := Lib.cell_of_heap HR5.out 1
                    have cz2 := Lib.cell_of_heap HR5.out 2
                    have cz3 := Lib.cell_of_heap HR5.out 3
                    have fz0 := Lib.frozen_of_heap HR5.out 0
                    have fz1 := Lib.frozen_of_heap HR5.out 1
                    have fz2 := Lib.frozen_of_heap HR5.out 2
                    have fz3 := Lib.frozen_of_heap HR5.out 3
                    go_wp2
                    obtain ⟨WX, hWX⟩ : ∃ WX, WX = ((((w5.setCell ⟨w.heap.size, 0, none⟩ (.int .i64 0)).setCell ⟨w.heap.size, 1, none⟩ (.int .i64 0)).setCell ⟨w.heap.size, 2, none⟩ (.int .i64 0)).setCell ⟨w.heap.size, 3, none⟩ (.int .i64 0)) := ⟨_, rfl⟩
                    rw [← hWX] at H4 HBx ⊢
                    clear hWX
                    have q0 := Lib.cell_of_heap H4.out 0
                    have q1 := Lib.cell_of_heap H4.out 1
                    have q2 := Lib.cell_of_heap H4.out 2
                    have q3 := Lib.cell_of_heap H4.out 3
                    exact bodyPost_ret (v := .tuple #[.agg #[.int .i64 0, .int .i64 0, .int .i64 0, .int .i64 0], .bool false]) (by simp [results, Try.results20, go_sem, q0, q1, q2, q3]) rfl ⟨by rw [HE.out]; rfl, HBx.out⟩
                  | false =>
                    have HAn2 : Hid (((l.take (j + 1)).drop s).any It.forced = false) := Lib.hid (by rw [HAn.out, HF.out, hf]; rfl)
                    rw [hf] at HFo
                    clear hf hx
                    go_wp2_with fail
                    refine (HFo.out _).mono ?_
                    rintro e w5 ⟨rfl, hb5⟩
                    have HX5 := Lib.hid (below_step HX.out hb5)
                    have HR5 := Lib.hid (obj_kept hb5 HR.out)
                    have HN5 := Lib.hid (obj_kept hb5 HN.out)
                    have HB5 := Lib.hid (below_step HB.out hb5)
                    clear hb5 y0 y1 y2 y3 y4 y5 y6 y7 y8
                    go_wp2
                    go_roundw
                    case rel => exact ⟨j + 1, by omega, by omega, by go_num, HX5, HB5, HR5, HN5, HAn2⟩
                    case measure => simp [intOf]; omega
                · obtain rfl : j = k := by omega
                  have HE0 := Lib.hid (HQ.out.trans (HLO.out (by rw [HV2.out, HF.out]; rfl)))
                  have HIw := Lib.hid (SlcAt.mono HI1.out HX.out)
                  generalize It.gluesN l s j = G at HE0 HGm
                  have HSs := Lib.hid (fun v w h => refSet_any v G t w h)
                  cases hz : It.setOf G t with
                  | none =>
                    have HE := Lib.hid (HE0.out.trans hz)
                    rw [hz] at HSs
                    unfold setV at HSs
              
                    clear hz
                    go_wp2_with fail
                    refine (HGm.out _ HIw.out).mono ?_
                    rintro e w3 ⟨u, rfl, ho3, hb3⟩
                    have HR3 := Lib.hid (obj_kept hb3 HR.out)
                    have HG3 := Lib.hid (OwnR.at ho3 glC_len)
                    have HB3 := Lib.hid (below_step HB.out hb3)
                    clear hb3 ho3
                    go_wp2_with fail
                    refine (HSs.out _ _ HG3.out).mono ?_
                    rintro e w4 ⟨rfl, hb4⟩
                    have HR4 := Lib.hid (obj_kept hb4 HR3.out)
                    have HB4 := Lib.hid (below_step HB3.out hb4)
                    clear hb4
                    have H4 := Lib.hid (four_set HR4.out rfl (.int .i64 0) (.int .i64 0) (.int .i64 0) (.int .i64 0))
                    have HBx := Lib.hid (below_four HB4.out (Nat.le_refl _) (.int .i64 0) (.int .i64 0) (.int .i64 0) (.int .i64 0))
                    have cz0 := Lib.cell_of_heap HR4.out 0
                    have cz1 := Lib.cell_of_heap HR4.out 1
                    have cz2 := Lib.cell_of_heap HR4.out 2
                    have cz3 := Lib.cell_of_heap HR4.out 3
                    have fz0 := Lib.frozen_of_heap HR4.out 0
                    have fz1 := Lib.frozen_of_heap HR4.out 1
                    have fz2 := Lib.frozen_of_heap HR4.out 2
                    have fz3 := Lib.frozen_of_heap HR4.out 3
                    go_wp2
                    obtain ⟨WX, hWX⟩ : ∃ WX, WX = ((((w4.setCell ⟨w.heap.size, 0, none⟩ (.int .i64 0)).setCell ⟨w.heap.size, 1, none⟩ (.int .i64 0)).setCell ⟨w.heap.size, 2, none⟩ (.int .i64 0)).setCell ⟨w.heap.size, 3, none⟩ (.int .i64 0)) := ⟨_, rfl⟩
                    rw [← hWX] at H4 HBx ⊢
                    clear hWX
                    have q0 := Lib.cell_of_heap H4.out 0
                    have q1 := Lib.cell_of_heap H4.out 1
                    have q2 := Lib.cell_of_heap H4.out 2
                    have q3 := Lib.cell_of_heap H4.out 3
                    exact bodyPost_ret (v := .tuple #[.agg #[.int .i64 0, .int .i64 0, .int .i64 0, .int .i64 0], .bool false]) (by simp [results, Try.results20, go_sem, q0, q1, q2, q3]) rfl ⟨by rw [HE.out]; rfl, HBx.out⟩
                  | some S =>
                    have HE := Lib.hid (HE0.out.trans hz)
                    rw [hz] at HSs
                    unfold setV stgV at HSs
                    simp only [] at HSs
                    clear hz
                    go_wp2_with fail
                    refine (HGm.out _ HIw.out).mono ?_
                    rintro e w3 ⟨u, rfl, ho3, hb3⟩
                    have HR3 := Lib.hid (obj_kept hb3 HR.out)
                    have HG3 := Lib.hid (OwnR.at ho3 glC_len)
                    have HB3 := Lib.hid (below_step HB.out hb3)
                    clear hb3 ho3
                    go_wp2_with fail
                    refine (HSs.out _ _ HG3.out).mono ?_
                    rintro e w4 ⟨rfl, hb4⟩
                    have HR4 := Lib.hid (obj_kept hb4 HR3.out)
                    have HB4 := Lib.hid (below_step HB3.out hb4)
                    clear hb4
                    have H4 := Lib.hid (four_set HR4.out rfl (.int .i64 S.sg) (.int .i64 S.o) (.int .i64 S.e) (.int .i64 S.bad))
                    have HBx := Lib.hid (below_four HB4.out (Nat.le_refl _) (.int .i64 S.sg) (.int .i64 S.o) (.int .i64 S.e) (.int .i64 S.bad))
                    have cz0 := Lib.cell_of_heap HR4.out 0
                    have cz1 := Lib.cell_of_heap HR4.out 1
                    have cz2 := Lib.cell_of_heap HR4.out 2
                    have cz3 := Lib.cell_of_heap HR4.out 3
                    have fz0 := Lib.frozen_of_heap HR4.out 0
                    have fz1 := Lib.frozen_of_heap HR4.out 1
                    have fz2 := Lib.frozen_of_heap HR4.out 2
                    have fz3 := Lib.frozen_of_heap HR4.out 3
                    go_wp2
                    obtain ⟨WX, hWX⟩ : ∃ WX, WX = ((((w4.setCell ⟨w.heap.size, 0, none⟩ (.int .i64 S.sg)).setCell ⟨w.heap.size, 1, none⟩ (.int .i64 S.o)).setCell ⟨w.heap.size, 2, none⟩ (.int .i64 S.e)).setCell ⟨w.heap.size, 3, none⟩ (.int .i64 S.bad)) := ⟨_, rfl⟩
                    rw [← hWX] at H4 HBx ⊢
                    clear hWX
                    have q0 := Lib.cell_of_heap H4.out 0
                    have q1 := Lib.cell_of_heap H4.out 1
                    have q2 := Lib.cell_of_heap H4.out 2
                    have q3 := Lib.cell_of_heap H4.out 3
                    exact bodyPost_ret (v := .tuple #[.agg #[.int .i64 S.sg, .int .i64 S.o, .int .i64 S.e, .int .i64 S.bad], .bool true]) (by simp [results, Try.results20, go_sem, q0, q1, q2, q3]) rfl ⟨by rw [HE.out]; rfl, HBx.out⟩
            · have hge := (legal_in hla).1
              rw [hla] at HLa
              have Hs0 : Hid True := Lib.hid trivial
              clear hla
              go_enter Try.func20, Try.ntmps20
              go_wp2_with fail
              rw [← hW1]
              clear hW1
              refine (HLa.out _ HI1.out).mono ?_
              rintro e w1 ⟨rfl, rfl⟩
              go_wp2_with fail
              refine (HLb.out _ HI1.out).mono ?_
              rintro e w1 ⟨rfl, rfl⟩
              go_wp2_with fail
              refine (HSt.out _ HI1.out).mono ?_
              rintro e w2 ⟨rfl, hb2⟩
              have HR2 := Lib.hid (obj_kept hb2 HR1.out)
              have HN2 := Lib.hid (obj_kept hb2 HN1.out)
              have HB2 := Lib.hid (below_step HB1.out hb2)
              have HX2 := Lib.hid hb2
              clear hb2
              go_wp2_with fail
              try simp only [hsw]
              try simp only [decide_eq_false hmkN, Bool.or_false]
              go_loopw [11] (fun iv wr => ∃ j : Nat, s ≤ j ∧ j ≤ k ∧ iv = .int .i64 j ∧ Hid (Below W1.heap.size W1 wr) ∧ Hid (Below w.heap.size w wr) ∧ Hid (wr.heap[w.heap.size]? = some (.cells #[.int .i64 0, .int .i64 0, .int .i64 0, .int .i64 0] 56 (0, 0))) ∧ Hid (wr.heap[w.heap.size + 1]? = some (.cells #[.int .i64 0, .int .i64 0, .int .i64 0, .int .i64 0] 56 (0, 0))) ∧ Hid (((l.take j).drop s).any It.forced = false)) (fun iv _ => k - (intOf iv).toNat)
              case atStart => exact ⟨s, Nat.le_refl _, hsk, by first | go_num | (rw [Hs0.out]; rfl), HX2, HB2, HR2, HN2, Lib.hid (by rw [List.drop_of_length_le (by rw [List.length_take]; omega)]; rfl)⟩
              case round =>
                obtain ⟨j, hsj, hj, rfl, HX, HB, HR, HN, HF⟩ := hrel
                clear HX2 HB2 HR2 HN2
                by_cases hlt : j < k
                · obtain ⟨x, hx⟩ : ∃ x, l[j]? = some x := ⟨_, List.getElem?_eq_getElem (by have := HLn.out; omega)⟩
                  obtain ⟨y0, y1, y2, y3, y4, y5, y6, y7, y8⟩ := it_cells ((Hr1.out j x hx).mono HX.out)
                  have j0 : (0 : Int) ≤ (j : Int) := by omega
                  have jk : (j : Int) < (k : Int) := by omega
                  have jl : (j : Int) < (n : Int) := by omega
                  have HFo := Lib.hid (fun w => refForced_any x w)
                  unfold itV at HFo
                  have HAn := Lib.hid (any_next hx hsj)
                  cases hf : It.forced x with
                  | true =>
                    have HE : Hid (r = none) := Lib.hid (by
                      rw [HQ.out]
                      exact lineOf_no (by rw [HV2.out, any_more hx hsj hlt hf]; rfl))
                    rw [hf] at HFo
                    clear hf hx
                    go_wp2_with fail
                    refine (HFo.out _).mono ?_
                    rintro e w5 ⟨rfl, hb5⟩
                    have HR5 := Lib.hid (obj_kept hb5 HR.out)
                    have HN5 := Lib.hid (obj_kept hb5 HN.out)
                    have HB5 := Lib.hid (below_step HB.out hb5)
                    clear hb5 y0 y1 y2 y3 y4 y5 y6 y7 y8
                    have n0 := Lib.cell_of_heap HN5.out 0
                    have n1 := Lib.cell_of_heap HN5.out 1
                    have n2 := Lib.cell_of_heap HN5.out 2
                    have n3 := Lib.cell_of_heap HN5.out 3
                    have H4 := Lib.hid (four_set HR5.out rfl (.int .i64 0) (.int .i64 0) (.int .i64 0) (.int .i64 0))
                    have HBx := Lib.hid (below_four HB5.out (Nat.le_refl _) (.int .i64 0) (.int .i64 0) (.int .i64 0) (.int .i64 0))
                    have cz0 := Lib.cell_of_heap HR5.out 0
                    have cz1 := Lib.cell_of_heap HR5.out 1
                    have cz2 := Lib.cell_of_heap HR5.out 2
                    have cz3 := Lib.cell_of_heap HR5.out 3
                    have fz0 := Lib.frozen_of_heap HR5.out 0
                    have fz1 := Lib.frozen_of_heap HR5.out 1
                    have fz2 := Lib.frozen_of_heap HR5.out 2
                    have fz3 := Lib.frozen_of_heap HR5.out 3
                    go_wp2
                    obtain ⟨WX, hWX⟩ : ∃ WX, WX = ((((w5.setCell ⟨w.heap.size, 0, none⟩ (.int .i64 0)).setCell ⟨w.heap.size, 1, none⟩ (.int .i64 0)).setCell ⟨w.heap.size, 2, none⟩ (.int .i64 0)).setCell ⟨w.heap.size, 3, none⟩ (.int .i64 0)) := ⟨_, rfl⟩
                    rw [← hWX] at H4 HBx ⊢
                    clear hWX
                    have q0 := Lib.cell_of_heap H4.out 0
                    have q1 := Lib.cell_of_heap H4.out 1
                    have q2 := Lib.cell_of_heap H4.out 2
                    have q3 := Lib.cell_of_heap H4.out 3
                    exact bodyPost_ret (v := .tuple #[.agg #[.int .i64 0, .int .i64 0, .int .i64 0, .int .i64 0], .bool false]) (by simp [results, Try.results20, go_sem, q0, q1, q2, q3]) rfl ⟨by rw [HE.out]; rfl, HBx.out⟩
                  | false =>
                    have HAn2 : Hid (((l.take (j + 1)).drop s).any It.forced = false) := Lib.hid (by rw [HAn.out, HF.out, hf]; rfl)
                    rw [hf] at HFo
                    clear hf hx
                    go_wp2_with fail
                    refine (HFo.out _).mono ?_
                    rintro e w5 ⟨rfl, hb5⟩
                    have HX5 := Lib.hid (below_step HX.out hb5)
                    have HR5 := Lib.hid (obj_kept hb5 HR.out)
                    have HN5 := Lib.hid (obj_kept hb5 HN.out)
                    have HB5 := Lib.hid (below_step HB.out hb5)
                    clear hb5 y0 y1 y2 y3 y4 y5 y6 y7 y8
                    go_wp2
                    go_roundw
                    case rel => exact ⟨j + 1, by omega, by omega, by go_num, HX5, HB5, HR5, HN5, HAn2⟩
                    case measure => simp [intOf]; omega
                · obtain rfl : j = k := by omega
                  have HE0 := Lib.hid (HQ.out.trans (HLO.out (by rw [HV2.out, HF.out]; rfl)))
                  have HIw := Lib.hid (SlcAt.mono HI1.out HX.out)
                  generalize It.gluesN l s j = G at HE0 HGm
                  have HSs := Lib.hid (fun v w h => refSet_any v G t w h)
                  cases hz : It.setOf G t with
                  | none =>
                    have HE := Lib.hid (HE0.out.trans hz)
                    rw [hz] at HSs
                    unfold setV at HSs
              
                    clear hz
                    go_wp2_with fail
                    refine (HGm.out _ HIw.out).mono ?_
                    rintro e w3 ⟨u, rfl, ho3, hb3⟩
                    have HR3 := Lib.hid (obj_kept hb3 HR.out)
                    have HG3 := Lib.hid (OwnR.at ho3 glC_len)
                    have HB3 := Lib.hid (below_step HB.out hb3)
                    clear hb3 ho3
                    go_wp2_with fail
                    refine (HSs.out _ _ HG3.out).mono ?_
                    rintro e w4 ⟨rfl, hb4⟩
                    have HR4 := Lib.hid (obj_kept hb4 HR3.out)
                    have HB4 := Lib.hid (below_step HB3.out hb4)
                    clear hb4
                    have H4 := Lib.hid (four_set HR4.out rfl (.int .i64 0) (.int .i64 0) (.int .i64 0) (.int .i64 0))
                    have HBx := Lib.hid (below_four HB4.out (Nat.le_refl _) (.int .i64 0) (.int .i64 0) (.int .i64 0) (.int .i64 0))
                    have cz0 := Lib.cell_of_heap HR4.out 0
                    have cz1 := Lib.cell_of_heap HR4.out 1
                    have cz2 := Lib.cell_of_heap HR4.out 2
                    have cz3 := Lib.cell_of_heap HR4.out 3
                    have fz0 := Lib.frozen_of_heap HR4.out 0
                    have fz1 := Lib.frozen_of_heap HR4.out 1
                    have fz2 := Lib.frozen_of_heap HR4.out 2
                    have fz3 := Lib.frozen_of_heap HR4.out 3
                    go_wp2
                    obtain ⟨WX, hWX⟩ : ∃ WX, WX = ((((w4.setCell ⟨w.heap.size, 0, none⟩ (.int .i64 0)).setCell ⟨w.heap.size, 1, none⟩ (.int .i64 0)).setCell ⟨w.heap.size, 2, none⟩ (.int .i64 0)).setCell ⟨w.heap.size, 3, none⟩ (.int .i64 0)) := ⟨_, rfl⟩
                    rw [← hWX] at H4 HBx ⊢
                    clear hWX
                    have q0 := Lib.cell_of_heap H4.out 0
                    have q1 := Lib.cell_of_heap H4.out 1
                    have q2 := Lib.cell_of_heap H4.out 2
                    have q3 := Lib.cell_of_heap H4.out 3
                    exact bodyPost_ret (v := .tuple #[.agg #[.int .i64 0, .int .i64 0, .int .i64 0, .int .i64 0], .bool false]) (by simp [results, Try.results20, go_sem, q0, q1, q2, q3]) rfl ⟨by rw [HE.out]; rfl, HBx.out⟩
                  | some S =>
                    have HE := Lib.hid (HE0.out.trans hz)
                    rw [hz] at HSs
                    unfold setV stgV at HSs
                    simp only [] at HSs
                    clear hz
                    go_wp2_with fail
                    refine (HGm.out _ HIw.out).mono ?_
                    rintro e w3 ⟨u, rfl, ho3, hb3⟩
                    have HR3 := Lib.hid (obj_kept hb3 HR.out)
                    have HG3 := Lib.hid (OwnR.at ho3 glC_len)
                    have HB3 := Lib.hid (below_step HB.out hb3)
                    clear hb3 ho3
                    go_wp2_with fail
                    refine (HSs.out _ _ HG3.out).mono ?_
                    rintro e w4 ⟨rfl, hb4⟩
                    have HR4 := Lib.hid (obj_kept hb4 HR3.out)
                    have HB4 := Lib.hid (below_step HB3.out hb4)
                    clear hb4
                    have H4 := Lib.hid (four_set HR4.out rfl (.int .i64 S.sg) (.int .i64 S.o) (.int .i64 S.e) (.int .i64 S.bad))
                    have HBx := Lib.hid (below_four HB4.out (Nat.le_refl _) (.int .i64 S.sg) (.int .i64 S.o) (.int .i64 S.e) (.int .i64 S.bad))
                    have cz0 := Lib.cell_of_heap HR4.out 0
                    have cz1 := Lib.cell_of_heap HR4.out 1
                    have cz2 := Lib.cell_of_heap HR4.out 2
                    have cz3 := Lib.cell_of_heap HR4.out 3
                    have fz0 := Lib.frozen_of_heap HR4.out 0
                    have fz1 := Lib.frozen_of_heap HR4.out 1
                    have fz2 := Lib.frozen_of_heap HR4.out 2
                    have fz3 := Lib.frozen_of_heap HR4.out 3
                    go_wp2
                    obtain ⟨WX, hWX⟩ : ∃ WX, WX = ((((w4.setCell ⟨w.heap.size, 0, none⟩ (.int .i64 S.sg)).setCell ⟨w.heap.size, 1, none⟩ (.int .i64 S.o)).setCell ⟨w.heap.size, 2, none⟩ (.int .i64 S.e)).setCell ⟨w.heap.size, 3, none⟩ (.int .i64 S.bad)) := ⟨_, rfl⟩
                    rw [← hWX] at H4 HBx ⊢
                    clear hWX
                    have q0 := Lib.cell_of_heap H4.out 0
                    have q1 := Lib.cell_of_heap H4.out 1
                    have q2 := Lib.cell_of_heap H4.out 2
                    have q3 := Lib.cell_of_heap H4.out 3
                    exact bodyPost_ret (v := .tuple #[.agg #[.int .i64 S.sg, .int .i64 S.o, .int .i64 S.e, .int .i64 S.bad], .bool true]) (by simp [results, Try.results20, go_sem, q0, q1, q2, q3]) rfl ⟨by rw [HE.out]; rfl, HBx.out⟩
          · have hmk' : (k : Int) < (m : Int) := by omega
            have HE : Hid (r = none) := Lib.hid (by rw [HQ.out]; exact lineOf_no (by rw [HV.out, decide_eq_false hmk, Bool.false_and]))
            clear hbi hb hlen hmk
            rcases hor with rfl | hla
            · obtain rfl : s = 0 := by omega
              go_enter Try.func20, Try.ntmps20
              go_wp2_with fail
              rw [← hW1]
              clear hW1
              refine (HLb.out _ HI1.out).mono ?_
              rintro e w1 ⟨rfl, rfl⟩
              go_wp2_with fail
              refine (HSt.out _ HI1.out).mono ?_
              rintro e w2 ⟨rfl, hb2⟩
              have HR2 := Lib.hid (obj_kept hb2 HR1.out)
              have HN2 := Lib.hid (obj_kept hb2 HN1.out)
              have HB2 := Lib.hid (below_step HB1.out hb2)
              clear hb2
              have n0 := Lib.cell_of_heap HN2.out 0
              have n1 := Lib.cell_of_heap HN2.out 1
              have n2 := Lib.cell_of_heap HN2.out 2
              have n3 := Lib.cell_of_heap HN2.out 3
              have H4 := Lib.hid (four_set HR2.out rfl (.int .i64 0) (.int .i64 0) (.int .i64 0) (.int .i64 0))
              have HBx := Lib.hid (below_four HB2.out (Nat.le_refl _) (.int .i64 0) (.int .i64 0) (.int .i64 0) (.int .i64 0))
              have cz0 := Lib.cell_of_heap HR2.out 0
              have cz1 := Lib.cell_of_heap HR2.out 1
              have cz2 := Lib.cell_of_heap HR2.out 2
              have cz3 := Lib.cell_of_heap HR2.out 3
              have fz0 := Lib.frozen_of_heap HR2.out 0
              have fz1 := Lib.frozen_of_heap HR2.out 1
              have fz2 := Lib.frozen_of_heap HR2.out 2
              have fz3 := Lib.frozen_of_heap HR2.out 3
              go_wp2
              obtain ⟨WX, hWX⟩ : ∃ WX, WX = ((((w2.setCell ⟨w.heap.size, 0, none⟩ (.int .i64 0)).setCell ⟨w.heap.size, 1, none⟩ (.int .i64 0)).setCell ⟨w.heap.size, 2, none⟩ (.int .i64 0)).setCell ⟨w.heap.size, 3, none⟩ (.int .i64 0)) := ⟨_, rfl⟩
              rw [← hWX] at H4 HBx ⊢
              clear hWX
              have q0 := Lib.cell_of_heap H4.out 0
              have q1 := Lib.cell_of_heap H4.out 1
              have q2 := Lib.cell_of_heap H4.out 2
              have q3 := Lib.cell_of_heap H4.out 3
              exact bodyPost_ret (v := .tuple #[.agg #[.int .i64 0, .int .i64 0, .int .i64 0, .int .i64 0], .bool false]) (by simp [results, Try.results20, go_sem, q0, q1, q2, q3]) rfl ⟨by rw [HE.out]; rfl, HBx.out⟩
            · have hge := (legal_in hla).1
              rw [hla] at HLa
              clear hla
              go_enter Try.func20, Try.ntmps20
              go_wp2_with fail
              rw [← hW1]
              clear hW1
              refine (HLa.out _ HI1.out).mono ?_
              rintro e w1 ⟨rfl, rfl⟩
              go_wp2_with fail
              refine (HLb.out _ HI1.out).mono ?_
              rintro e w1 ⟨rfl, rfl⟩
              go_wp2_with fail
              refine (HSt.out _ HI1.out).mono ?_
              rintro e w2 ⟨rfl, hb2⟩
              have HR2 := Lib.hid (obj_kept hb2 HR1.out)
              have HN2 := Lib.hid (obj_kept hb2 HN1.out)
              have HB2 := Lib.hid (below_step HB1.out hb2)
              clear hb2
              have n0 := Lib.cell_of_heap HN2.out 0
              have n1 := Lib.cell_of_heap HN2.out 1
              have n2 := Lib.cell_of_heap HN2.out 2
              have n3 := Lib.cell_of_heap HN2.out 3
              have H4 := Lib.hid (four_set HR2.out rfl (.int .i64 0) (.int .i64 0) (.int .i64 0) (.int .i64 0))
              have HBx := Lib.hid (below_four HB2.out (Nat.le_refl _) (.int .i64 0) (.int .i64 0) (.int .i64 0) (.int .i64 0))
              have cz0 := Lib.cell_of_heap HR2.out 0
              have cz1 := Lib.cell_of_heap HR2.out 1
              have cz2 := Lib.cell_of_heap HR2.out 2
              have cz3 := Lib.cell_of_heap HR2.out 3
              have fz0 := Lib.frozen_of_heap HR2.out 0
              have fz1 := Lib.frozen_of_heap HR2.out 1
              have fz2 := Lib.frozen_of_heap HR2.out 2
              have fz3 := Lib.frozen_of_heap HR2.out 3
              go_wp2
              obtain ⟨WX, hWX⟩ : ∃ WX, WX = ((((w2.setCell ⟨w.heap.size, 0, none⟩ (.int .i64 0)).setCell ⟨w.heap.size, 1, none⟩ (.int .i64 0)).setCell ⟨w.heap.size, 2, none⟩ (.int .i64 0)).setCell ⟨w.heap.size, 3, none⟩ (.int .i64 0)) := ⟨_, rfl⟩
              rw [← hWX] at H4 HBx ⊢
              clear hWX
              have q0 := Lib.cell_of_heap H4.out 0
              have q1 := Lib.cell_of_heap H4.out 1
              have q2 := Lib.cell_of_heap H4.out 2
              have q3 := Lib.cell_of_heap H4.out 3
              exact bodyPost_ret (v := .tuple #[.agg #[.int .i64 0, .int .i64 0, .int .i64 0, .int .i64 0], .bool false]) (by simp [results, Try.results20, go_sem, q0, q1, q2, q3]) rfl ⟨by rw [HE.out]; rfl, HBx.out⟩
end Go.Proofs.Ythcilpijiindeaa
