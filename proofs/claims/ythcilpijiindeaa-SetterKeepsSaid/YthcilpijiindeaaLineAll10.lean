/-
  The landed Line: how the line from a to b is set.
-/
import Derived.Test.YthcilpijiindeaaLine10
set_option linter.unusedVariables false
set_option linter.unusedSimpArgs false
namespace Go.Proofs.Ythcilpijiindeaa
open Go.RowKit

theorem lineOf_no {l : List It.Itm} {a b t : Int} (h : It.isLine l a b = false) : It.lineOf l a b t = none := by unfold It.lineOf; rw [h]; rfl
theorem lineOf_yes {l : List It.Itm} {a b t : Int} (h : It.isLine l a b = true) : It.lineOf l a b t = It.setOf (It.gluesN l (a + 1).toNat b.toNat) t := by unfold It.lineOf; rw [h]; rfl
set_option maxHeartbeats 4000000 in
set_option maxRecDepth 100000 in
theorem line_any (v : Value) (l : List It.Itm) (a b t : Int) (w : World) (h : ItsAt w v l) (hlen : l.length ≤ 2000) : Calls Try.prog 28 #[v, .int .i64 a, .int .i64 b, .int .i64 t] w (Ret (setV (It.lineOf l a b t)) w) := by
  obtain ⟨r, hr⟩ : ∃ r, r = It.lineOf l a b t := ⟨_, rfl⟩
  have HQ := Lib.hid hr
  rw [← hr]
  clear hr
  obtain ⟨W1, hW1⟩ : ∃ W1, W1 = w.alloc (.cells #[.int .i64 0, .int .i64 0, .int .i64 0, .int .i64 0] 56) := ⟨_, rfl⟩
  have HR1 := Lib.hid (obj_new w _ rfl #[.int .i64 0, .int .i64 0, .int .i64 0, .int .i64 0] 56)
  have HB1 := Lib.hid (below_alloc w (.cells #[.int .i64 0, .int .i64 0, .int .i64 0, .int .i64 0] 56))
  rw [← hW1] at HR1 HB1
  have HI1 := Lib.hid (SlcAt.mono h HB1.out)
  have HIs := Lib.hid (isLine_any v l a b W1 HI1.out)
  cases hq : It.isLine l a b with
  | false =>
    have HE : Hid (r = none) := Lib.hid (HQ.out.trans (lineOf_no hq))
    rw [hq] at HIs
    clear hq h
    go_enter Try.func28, Try.ntmps28
    go_wp2_with fail
    rw [← hW1]
    clear hW1
    refine HIs.out.mono ?_
    rintro e w2 ⟨rfl, hb2⟩
    have HR2 := Lib.hid (obj_kept hb2 HR1.out)
    have HB2 := Lib.hid (below_step HB1.out hb2)
    clear hb2
    have H4 := Lib.hid (four_set HR2.out rfl (.int .i64 0) (.int .i64 0) (.int .i64 0) (.int .i64 0))
    have HBx := Lib.hid (below_four HB2.out (Nat.le_refl _) (.int .i64 0) (.int .i64 0) (.int .i64 0) (.int .i64 0))
    have cz0 := Lib.cell_of_heap HR2.out 0
    have cz1 := Lib.cell_of_heap HR2.out 1
    have cz2 := Lib.cell_of_heap HR2.out 2
    have cz3 := Lib.cell_of_heap HR2.out 3
    have fz0 := Lib.frozen_of_heap HR2.out 0
    have fz1 := Lib.frozen_of_heap HR2.out 1
    have fz2 := Lib.frozen_of_heap HR2.out 2
    have fz3 := Lib.frozen_of_heap HR2.out 3
    go_wp2
    obtain ⟨WX, hWX⟩ : ∃ WX, WX = ((((w2.setCell ⟨w.heap.size, 0, none⟩ (.int .i64 0)).setCell ⟨w.heap.size, 1, none⟩ (.int .i64 0)).setCell ⟨w.heap.size, 2, none⟩ (.int .i64 0)).setCell ⟨w.heap.size, 3, none⟩ (.int .i64 0)) := ⟨_, rfl⟩
    rw [← hWX] at H4 HBx ⊢
    clear hWX
    have q0 := Lib.cell_of_heap H4.out 0
    have q1 := Lib.cell_of_heap H4.out 1
    have q2 := Lib.cell_of_heap H4.out 2
    have q3 := Lib.cell_of_heap H4.out 3
    exact bodyPost_ret (v := .tuple #[.agg #[.int .i64 0, .int .i64 0, .int .i64 0, .int .i64 0], .bool false]) (by simp [results, Try.results28, go_sem, q0, q1, q2, q3]) rfl ⟨by rw [HE.out]; rfl, HBx.out⟩
  | true =>
    have HE0 := Lib.hid (HQ.out.trans (lineOf_yes hq))
    rw [hq] at HIs
    obtain ⟨ha, hab, hb0, hbl, _⟩ := It.isLine_lt hq
    obtain ⟨s, hs⟩ : ∃ s : Nat, a + 1 = (s : Int) := ⟨(a + 1).toNat, by omega⟩
    obtain ⟨k, hk⟩ : ∃ k : Nat, b = (k : Int) := ⟨b.toNat, by omega⟩
    rw [hs, hk, Int.toNat_natCast, Int.toNat_natCast] at HE0
    have HGl := Lib.hid (fun w h => glues_any v l a b s k hs hk (by omega) (by omega) hlen w h)
    generalize It.gluesN l s k = G at HE0 HGl
    have HS := Lib.hid (fun v w h => set_any v G t w h)
    clear hs hk ha hab hb0 hbl hq h
    cases hz : It.setOf G t with
    | none =>
      have HE := Lib.hid (HE0.out.trans hz)
      rw [hz] at HS
      unfold setV at HS
      clear hz
      go_enter Try.func28, Try.ntmps28
      go_wp2_with fail
      rw [← hW1]
      clear hW1
      refine HIs.out.mono ?_
      rintro e w2 ⟨rfl, hb2⟩
      have HR2 := Lib.hid (obj_kept hb2 HR1.out)
      have HI2 := Lib.hid (SlcAt.mono HI1.out hb2)
      have HB2 := Lib.hid (below_step HB1.out hb2)
      clear hb2
      go_wp2_with fail
      refine (HGl.out _ HI2.out).mono ?_
      rintro e w3 ⟨u, rfl, ho3, hb3⟩
      have HR3 := Lib.hid (obj_kept hb3 HR2.out)
      have HG3 := Lib.hid (OwnR.at ho3 glC_len)
      have HB3 := Lib.hid (below_step HB2.out hb3)
      clear hb3 ho3
      go_wp2_with fail
      refine (HS.out _ _ HG3.out).mono ?_
      rintro e w4 ⟨rfl, hb4⟩
      have HR4 := Lib.hid (obj_kept hb4 HR3.out)
      have HB4 := Lib.hid (below_step HB3.out hb4)
      clear hb4
      have H4 := Lib.hid (four_set HR4.out rfl (.int .i64 0) (.int .i64 0) (.int .i64 0) (.int .i64 0))
      have HBx := Lib.hid (below_four HB4.out (Nat.le_refl _) (.int .i64 0) (.int .i64 0) (.int .i64 0) (.int .i64 0))
      have cz0 := Lib.cell_of_heap HR4.out 0
      have cz1 := Lib.cell_of_heap HR4.out 1
      have cz2 := Lib.cell_of_heap HR4.out 2
      have cz3 := Lib.cell_of_heap HR4.out 3
      have fz0 := Lib.frozen_of_heap HR4.out 0
      have fz1 := Lib.frozen_of_heap HR4.out 1
      have fz2 := Lib.frozen_of_heap HR4.out 2
      have fz3 := Lib.frozen_of_heap HR4.out 3
      go_wp2
      obtain ⟨WX, hWX⟩ : ∃ WX, WX = ((((w4.setCell ⟨w.heap.size, 0, none⟩ (.int .i64 0)).setCell ⟨w.heap.size, 1, none⟩ (.int .i64 0)).setCell ⟨w.heap.size, 2, none⟩ (.int .i64 0)).setCell ⟨w.heap.size, 3, none⟩ (.int .i64 0)) := ⟨_, rfl⟩
      rw [← hWX] at H4 HBx ⊢
      clear hWX
      have q0 := Lib.cell_of_heap H4.out 0
      have q1 := Lib.cell_of_heap H4.out 1
      have q2 := Lib.cell_of_heap H4.out 2
      have q3 := Lib.cell_of_heap H4.out 3
      exact bodyPost_ret (v := .tuple #[.agg #[.int .i64 0, .int .i64 0, .int .i64 0, .int .i64 0], .bool false]) (by simp [results, Try.results28, go_sem, q0, q1, q2, q3]) rfl ⟨by rw [HE.out]; rfl, HBx.out⟩
    | some S =>
      have HE := Lib.hid (HE0.out.trans hz)
      rw [hz] at HS
      unfold setV stgV at HS
      simp only [] at HS
      clear hz
      go_enter Try.func28, Try.ntmps28
      go_wp2_with fail
      rw [← hW1]
      clear hW1
      refine HIs.out.mono ?_
      rintro e w2 ⟨rfl, hb2⟩
      have HR2 := Lib.hid (obj_kept hb2 HR1.out)
      have HI2 := Lib.hid (SlcAt.mono HI1.out hb2)
      have HB2 := Lib.hid (below_step HB1.out hb2)
      clear hb2
      go_wp2_with fail
      refine (HGl.out _ HI2.out).mono ?_
      rintro e w3 ⟨u, rfl, ho3, hb3⟩
      have HR3 := Lib.hid (obj_kept hb3 HR2.out)
      have HG3 := Lib.hid (OwnR.at ho3 glC_len)
      have HB3 := Lib.hid (below_step HB2.out hb3)
      clear hb3 ho3
      go_wp2_with fail
      refine (HS.out _ _ HG3.out).mono ?_
      rintro e w4 ⟨rfl, hb4⟩
      have HR4 := Lib.hid (obj_kept hb4 HR3.out)
      have HB4 := Lib.hid (below_step HB3.out hb4)
      clear hb4
      have H4 := Lib.hid (four_set HR4.out rfl (.int .i64 S.sg) (.int .i64 S.o) (.int .i64 S.e) (.int .i64 S.bad))
      have HBx := Lib.hid (below_four HB4.out (Nat.le_refl _) (.int .i64 S.sg) (.int .i64 S.o) (.int .i64 S.e) (.int .i64 S.bad))
      have cz0 := Lib.cell_of_heap HR4.out 0
      have cz1 := Lib.cell_of_heap HR4.out 1
      have cz2 := Lib.cell_of_heap HR4.out 2
      have cz3 := Lib.cell_of_heap HR4.out 3
      have fz0 := Lib.frozen_of_heap HR4.out 0
      have fz1 := Lib.frozen_of_heap HR4.out 1
      have fz2 := Lib.frozen_of_heap HR4.out 2
      have fz3 := Lib.frozen_of_heap HR4.out 3
      go_wp2
      obtain ⟨WX, hWX⟩ : ∃ WX, WX = ((((w4.setCell ⟨w.heap.size, 0, none⟩ (.int .i64 S.sg)).setCell ⟨w.heap.size, 1, none⟩ (.int .i64 S.o)).setCell ⟨w.heap.size, 2, none⟩ (.int .i64 S.e)).setCell ⟨w.heap.size, 3, none⟩ (.int .i64 S.bad)) := ⟨_, rfl⟩
      rw [← hWX] at H4 HBx ⊢
      clear hWX
      have q0 := Lib.cell_of_heap H4.out 0
      have q1 := Lib.cell_of_heap H4.out 1
      have q2 := Lib.cell_of_heap H4.out 2
      have q3 := Lib.cell_of_heap H4.out 3
      exact bodyPost_ret (v := .tuple #[.agg #[.int .i64 S.sg, .int .i64 S.o, .int .i64 S.e, .int .i64 S.bad], .bool true]) (by simp [results, Try.results28, go_sem, q0, q1, q2, q3]) rfl ⟨by rw [HE.out]; rfl, HBx.out⟩
end Go.Proofs.Ythcilpijiindeaa
