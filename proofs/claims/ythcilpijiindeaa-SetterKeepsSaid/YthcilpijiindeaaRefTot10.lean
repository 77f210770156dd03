/-
  The reference's sum of a list of glue.
-/
import Derived.Test.YthcilpijiindeaaRefBad10
import Derived.Test.YthcilpijiindeaaSetAll10
import Derived.Test.YthcilpijiindeaaRefMay9
set_option linter.unusedVariables false
set_option linter.unusedSimpArgs false
namespace Go.Proofs.Ythcilpijiindeaa
open Go.RowKit

structure RTot (w0 : World) (wr : World) (a k o0 o1 o2 o3 : Int) : Prop where
  h0 : wr.heap[w0.heap.size]? = some (.cells #[.int .i64 0, .int .i64 0, .int .i64 0, .int .i64 0, .int .i64 0, .int .i64 0] 87 (0, 0))
  h1 : wr.heap[w0.heap.size + 1]? = some (.cells #[.int .i64 a, .int .i64 k, .int .i64 o0, .int .i64 o1, .int .i64 o2, .int .i64 o3] 87 (0, 0))
  hb : Below w0.heap.size w0 wr
theorem RTot.mono {w0 wr w' : World} {a k o0 o1 o2 o3 : Int} (h : RTot w0 wr a k o0 o1 o2 o3) (hb : Below wr.heap.size wr w') : RTot w0 w' a k o0 o1 o2 o3 :=
  ⟨obj_kept hb h.h0, obj_kept hb h.h1, below_step h.hb hb⟩
theorem RTot.set0 {w0 wr : World} {a k o0 o1 o2 o3 : Int} (h : RTot w0 wr a k o0 o1 o2 o3) (y : Int) : RTot w0 (wr.setCell ⟨w0.heap.size + 1, 0, none⟩ (.int .i64 y)) y k o0 o1 o2 o3 :=
  ⟨obj_set h.h0 (by omega), heap_setCell_same _ _ _ _ _ _ h.h1, h.hb.setCell (p := ⟨w0.heap.size + 1, 0, none⟩) (Nat.le_add_right _ _) _⟩
theorem RTot.set1 {w0 wr : World} {a k o0 o1 o2 o3 : Int} (h : RTot w0 wr a k o0 o1 o2 o3) (y : Int) : RTot w0 (wr.setCell ⟨w0.heap.size + 1, 1, none⟩ (.int .i64 y)) a y o0 o1 o2 o3 :=
  ⟨obj_set h.h0 (by omega), heap_setCell_same _ _ _ _ _ _ h.h1, h.hb.setCell (p := ⟨w0.heap.size + 1, 1, none⟩) (Nat.le_add_right _ _) _⟩
theorem RTot.set2 {w0 wr : World} {a k o0 o1 o2 o3 : Int} (h : RTot w0 wr a k o0 o1 o2 o3) (y : Int) : RTot w0 (wr.setCell ⟨w0.heap.size + 1, 2, none⟩ (.int .i64 y)) a k y o1 o2 o3 :=
  ⟨obj_set h.h0 (by omega), heap_setCell_same _ _ _ _ _ _ h.h1, h.hb.setCell (p := ⟨w0.heap.size + 1, 2, none⟩) (Nat.le_add_right _ _) _⟩
theorem RTot.set3 {w0 wr : World} {a k o0 o1 o2 o3 : Int} (h : RTot w0 wr a k o0 o1 o2 o3) (y : Int) : RTot w0 (wr.setCell ⟨w0.heap.size + 1, 3, none⟩ (.int .i64 y)) a k o0 y o2 o3 :=
  ⟨obj_set h.h0 (by omega), heap_setCell_same _ _ _ _ _ _ h.h1, h.hb.setCell (p := ⟨w0.heap.size + 1, 3, none⟩) (Nat.le_add_right _ _) _⟩
theorem RTot.set4 {w0 wr : World} {a k o0 o1 o2 o3 : Int} (h : RTot w0 wr a k o0 o1 o2 o3) (y : Int) : RTot w0 (wr.setCell ⟨w0.heap.size + 1, 4, none⟩ (.int .i64 y)) a k o0 o1 y o3 :=
  ⟨obj_set h.h0 (by omega), heap_setCell_same _ _ _ _ _ _ h.h1, h.hb.setCell (p := ⟨w0.heap.size + 1, 4, none⟩) (Nat.le_add_right _ _) _⟩
theorem RTot.set5 {w0 wr : World} {a k o0 o1 o2 o3 : Int} (h : RTot w0 wr a k o0 o1 o2 o3) (y : Int) : RTot w0 (wr.setCell ⟨w0.heap.size + 1, 5, none⟩ (.int .i64 y)) a k o0 o1 o2 y :=
  ⟨obj_set h.h0 (by omega), heap_setCell_same _ _ _ _ _ _ h.h1, h.hb.setCell (p := ⟨w0.heap.size + 1, 5, none⟩) (Nat.le_add_right _ _) _⟩

set_option maxHeartbeats 8000000 in
set_option maxRecDepth 100000 in
theorem refTotal_any (v : Value) (l : List It.Gl) (w : World) (h : GlsAt w v l) : Calls Try.prog 54 #[v] w (Ret (totV l) w) := by
  have HA := Lib.hid h
  obtain ⟨⟨p, cp, rfl, hcap⟩, hm, _⟩ := h
  have hza : l.length ≤ 9223372036854775807 := by unfold maxLen at hm; omega
  obtain ⟨n, hn⟩ : ∃ n, n = l.length := ⟨_, rfl⟩
  have Hn := Lib.hid hn
  obtain ⟨W1, hW1⟩ : ∃ W1, W1 = (w.alloc (.cells #[.int .i64 0, .int .i64 0, .int .i64 0, .int .i64 0, .int .i64 0, .int .i64 0] 87)).alloc (.cells #[.int .i64 0, .int .i64 0, .int .i64 0, .int .i64 0, .int .i64 0, .int .i64 0] 87) := ⟨_, rfl⟩
  have HT1 : Hid (RTot w W1 0 0 0 0 0 0) := Lib.hid (by
    have b1 := below_alloc w (.cells #[.int .i64 0, .int .i64 0, .int .i64 0, .int .i64 0, .int .i64 0, .int .i64 0] 87)
    have b2 := below_alloc (w.alloc (.cells #[.int .i64 0, .int .i64 0, .int .i64 0, .int .i64 0, .int .i64 0, .int .i64 0] 87)) (.cells #[.int .i64 0, .int .i64 0, .int .i64 0, .int .i64 0, .int .i64 0, .int .i64 0] 87)
    rw [hW1]
    exact ⟨obj_kept b2 (obj_new w _ rfl _ _), obj_new _ (w.heap.size + 1) (World.size_alloc _ _) _ _, below_step b1 b2⟩)
  have HM := Lib.hid (refGlMay_any (.slice p l.length cp) l W1 (SlcAt.mono HA.out HT1.out.hb))
  rw [← hn] at HM hza ⊢
  clear hn hm hcap
  cases hq : It.glMay l with
  | false =>
    have HE : Hid (It.glMay l = false) := Lib.hid hq
    rw [hq] at HM
    go_enter Try.func54, Try.ntmps54
    go_wp2_with fail
    rw [← hW1]
    clear hW1
    refine HM.out.mono ?_
    rintro e w2 ⟨rfl, hb2⟩
    have HT2 := Lib.hid (HT1.out.mono hb2)
    clear hb2
    have H6 := Lib.hid (six_set HT2.out.h0 rfl (.int .i64 0) (.int .i64 0) (.int .i64 0) (.int .i64 0) (.int .i64 0) (.int .i64 0))
    have HBx := Lib.hid (below_six HT2.out.hb (Nat.le_refl _) (.int .i64 0) (.int .i64 0) (.int .i64 0) (.int .i64 0) (.int .i64 0) (.int .i64 0))
    have sc0 := Lib.cell_of_heap HT2.out.h1 0
    have sc1 := Lib.cell_of_heap HT2.out.h1 1
    have sc2 := Lib.cell_of_heap HT2.out.h1 2
    have sc3 := Lib.cell_of_heap HT2.out.h1 3
    have sc4 := Lib.cell_of_heap HT2.out.h1 4
    have sc5 := Lib.cell_of_heap HT2.out.h1 5
    have cz0 := Lib.cell_of_heap HT2.out.h0 0
    have fz0 := Lib.frozen_of_heap HT2.out.h0 0
    have cz1 := Lib.cell_of_heap HT2.out.h0 1
    have fz1 := Lib.frozen_of_heap HT2.out.h0 1
    have cz2 := Lib.cell_of_heap HT2.out.h0 2
    have fz2 := Lib.frozen_of_heap HT2.out.h0 2
    have cz3 := Lib.cell_of_heap HT2.out.h0 3
    have fz3 := Lib.frozen_of_heap HT2.out.h0 3
    have cz4 := Lib.cell_of_heap HT2.out.h0 4
    have fz4 := Lib.frozen_of_heap HT2.out.h0 4
    have cz5 := Lib.cell_of_heap HT2.out.h0 5
    have fz5 := Lib.frozen_of_heap HT2.out.h0 5
    go_wp2
    obtain ⟨WX, hWX⟩ : ∃ WX, WX = ((((((w2.setCell ⟨w.heap.size, 0, none⟩ (.int .i64 0)).setCell ⟨w.heap.size, 1, none⟩ (.int .i64 0)).setCell ⟨w.heap.size, 2, none⟩ (.int .i64 0)).setCell ⟨w.heap.size, 3, none⟩ (.int .i64 0)).setCell ⟨w.heap.size, 4, none⟩ (.int .i64 0)).setCell ⟨w.heap.size, 5, none⟩ (.int .i64 0)) := ⟨_, rfl⟩
    rw [← hWX] at H6 HBx ⊢
    clear hWX
    have q0 := Lib.cell_of_heap H6.out 0
    have q1 := Lib.cell_of_heap H6.out 1
    have q2 := Lib.cell_of_heap H6.out 2
    have q3 := Lib.cell_of_heap H6.out 3
    have q4 := Lib.cell_of_heap H6.out 4
    have q5 := Lib.cell_of_heap H6.out 5
    exact bodyPost_ret (v := .tuple #[.agg zeroS, .bool false]) (by unfold zeroS; simp [results, Try.results54, go_sem, q0, q1, q2, q3, q4, q5]) rfl ⟨by unfold totV; rw [HE.out]; rfl, HBx.out⟩
  | true =>
    have HE : Hid (It.glMay l = true) := Lib.hid hq
    rw [hq] at HM
    go_enter Try.func54, Try.ntmps54
    go_wp2_with fail
    rw [← hW1]
    clear hW1
    refine HM.out.mono ?_
    rintro e w2 ⟨rfl, hb2⟩
    have HT2 := Lib.hid (HT1.out.mono hb2)
    clear hb2
    go_wp2_with fail
    go_loopw [5] (fun iv wr => ∃ k : Nat, k ≤ n ∧ iv = .int .i64 k ∧ Hid (RTot w wr (It.sumW (l.take k)) (It.sumK (l.take k)) (It.sumO 0 (l.take k)) (It.sumO 1 (l.take k)) (It.sumO 2 (l.take k)) (It.sumO 3 (l.take k)))) (fun iv _ => n - (intOf iv).toNat)
    case atStart => exact ⟨0, Nat.zero_le _, rfl, HT2⟩
    case round =>
      obtain ⟨k, hk, rfl, HK⟩ := hrel
      clear HT2
      by_cases hlt : k < n
      · obtain ⟨b1, o1, d1, e1, r1⟩ := HA.out.2.2 (by rw [← Hn.out]; omega)
        obtain ⟨rfl, rfl⟩ : p = some ⟨b1, o1, none⟩ ∧ cp = d1 := by injection e1 with a1 a2 a3; exact ⟨a1, a3⟩
        obtain ⟨⟨xw, xt, xk, xo⟩, hx⟩ : ∃ x, l[k]? = some x := ⟨_, List.getElem?_eq_getElem (by rw [← Hn.out]; exact hlt)⟩
        have Hr1 := Lib.hid (r1 k _ hx)
        have k0 : (0 : Int) ≤ (k : Int) := by omega
        have kl : (k : Int) < (n : Int) := by omega
        have hall := (It.glMay_yes HE.out).2.1
        have hok : It.glOk ⟨xw, xt, xk, xo⟩ = true := List.all_eq_true.1 hall _ (List.mem_of_getElem? hx)
        obtain ⟨go, gw, gt, gk⟩ := It.glOk_yes hok
        simp only [] at go gw gt gk
        have hmk := It.glMay_take HE.out k
        have hsm := It.sumsOk_yes (It.glMay_yes hmk).2.2
        have hsb := It.sums_bound (l.take k) (It.glMay_yes hmk).2.1
        have hWw : IntKind.i64.wrap (It.sumW (l.take k) + xw) = It.sumW (l.take k) + xw := wr64 (by omega) (by omega)
        have hWk : IntKind.i64.wrap (It.sumK (l.take k) + xk) = It.sumK (l.take k) + xk := wr64 (by omega) (by omega)
        have hoo := hsb.2.2.2.2
        have HWo : Hid (∀ i, IntKind.i64.wrap (It.sumO i (l.take k) + xt) = It.sumO i (l.take k) + xt) := Lib.hid (fun i => by have := hoo i; exact wr64 (by omega) (by omega))
        have HNx : Hid (It.sumK (l.take (k + 1)) = It.sumK (l.take k) + xk ∧ It.sumW (l.take (k + 1)) = It.sumW (l.take k) + xw ∧ ∀ i, It.sumO i (l.take (k + 1)) = It.sumO i (l.take k) + if xo = i then xt else 0) := Lib.hid (by
          rw [It.take_snoc hx, It.sumK_app, It.sumW_app]
          refine ⟨by simp [It.sumK], by simp [It.sumW], fun i => by rw [It.sumO_app]; simp [It.sumO]⟩)
        obtain ⟨go0, go3⟩ := go
        have hor : xo = 0 ∨ xo = 1 ∨ xo = 2 ∨ xo = 3 := by omega
        clear r1 e1 hx hall hok gw gt gk hmk hsm hsb hoo go0 go3
        obtain ⟨y0, y1, y2, y3⟩ := gl_cells (Hr1.out.mono HK.out.hb)
        simp only [] at y0 y1 y2 y3
        have u0 := Lib.cell_of_heap HK.out.h1 0
        have uf := Lib.frozen_of_heap HK.out.h1 0
        have HK5 := Lib.hid ((HK.out.set0 (It.sumW (l.take k) + xw)).mono (below_drew9 _))
        go_upto_region 7 with fail
        go_region
        obtain ⟨W5, hW5⟩ : ∃ W, W = (wr.setCell ⟨w.heap.size + 1, 0, none⟩ (.int .i64 (It.sumW (l.take k) + xw))).drew := ⟨_, rfl⟩
        rw [← hW5] at HK5
        go_upto_region 8 with fail
        rw [← hW5]
        clear hW5 y0 y1 y2 y3 u0 uf hWw
        obtain ⟨y0, y1, y2, y3⟩ := gl_cells (Hr1.out.mono HK5.out.hb)
        simp only [] at y0 y1 y2 y3
        have u0 := Lib.cell_of_heap HK5.out.h1 1
        have uf := Lib.frozen_of_heap HK5.out.h1 1
        have HK6 := Lib.hid ((HK5.out.set1 (It.sumK (l.take k) + xk)).mono (below_drew9 _))
        go_region
        obtain ⟨W6, hW6⟩ : ∃ W, W = (W5.setCell ⟨w.heap.size + 1, 1, none⟩ (.int .i64 (It.sumK (l.take k) + xk))).drew := ⟨_, rfl⟩
        rw [← hW6] at HK6
        go_upto_region 9 with fail
        rw [← hW6]
        clear hW6 y0 y1 y2 y3 u0 uf hWk
        obtain ⟨y0, y1, y2, y3⟩ := gl_cells (Hr1.out.mono HK6.out.hb)
        simp only [] at y0 y1 y2 y3
        rcases hor with rfl | rfl | rfl | rfl
        · have u0 := Lib.cell_of_heap HK6.out.h1 2
          have uf := Lib.frozen_of_heap HK6.out.h1 2
          have hwO := HWo.out 0
          have hbt : bits BinOp.and IntKind.i64 0 3 = 0 := by decide
          have HK7 := Lib.hid ((HK6.out.set2 (It.sumO 0 (l.take k) + xt)).mono (below_drew9 _))
          have e0 := (HNx.out.2.2 0)
          have e1 := (HNx.out.2.2 1)
          have e2 := (HNx.out.2.2 2)
          have e3 := (HNx.out.2.2 3)
          have HK7' : Hid (RTot w (W6.setCell ⟨w.heap.size + 1, 2, none⟩ (.int .i64 (It.sumO 0 (l.take k) + xt))).drew (It.sumW (l.take (k + 1))) (It.sumK (l.take (k + 1))) (It.sumO 0 (l.take (k + 1))) (It.sumO 1 (l.take (k + 1))) (It.sumO 2 (l.take (k + 1))) (It.sumO 3 (l.take (k + 1)))) := Lib.hid (by
            rw [e0, e1, e2, e3, HNx.out.1, HNx.out.2.1]
            simpa using HK7.out)
          clear e0 e1 e2 e3
          go_region
          go_wp2
          go_roundw
          case rel => exact ⟨k + 1, by omega, by go_num, HK7'⟩
          case measure => simp [intOf]; omega
        · have u0 := Lib.cell_of_heap HK6.out.h1 3
          have uf := Lib.frozen_of_heap HK6.out.h1 3
          have hwO := HWo.out 1
          have hbt : bits BinOp.and IntKind.i64 1 3 = 1 := by decide
          have HK7 := Lib.hid ((HK6.out.set3 (It.sumO 1 (l.take k) + xt)).mono (below_drew9 _))
          have e0 := (HNx.out.2.2 0)
          have e1 := (HNx.out.2.2 1)
          have e2 := (HNx.out.2.2 2)
          have e3 := (HNx.out.2.2 3)
          have HK7' : Hid (RTot w (W6.setCell ⟨w.heap.size + 1, 3, none⟩ (.int .i64 (It.sumO 1 (l.take k) + xt))).drew (It.sumW (l.take (k + 1))) (It.sumK (l.take (k + 1))) (It.sumO 0 (l.take (k + 1))) (It.sumO 1 (l.take (k + 1))) (It.sumO 2 (l.take (k + 1))) (It.sumO 3 (l.take (k + 1)))) := Lib.hid (by
            rw [e0, e1, e2, e3, HNx.out.1, HNx.out.2.1]
            simpa using HK7.out)
          clear e0 e1 e2 e3
          go_region
          go_wp2
          go_roundw
          case rel => exact ⟨k + 1, by omega, by go_num, HK7'⟩
          case measure => simp [intOf]; omega
        · have u0 := Lib.cell_of_heap HK6.out.h1 4
          have uf := Lib.frozen_of_heap HK6.out.h1 4
          have hwO := HWo.out 2
          have hbt : bits BinOp.and IntKind.i64 2 3 = 2 := by decide
          have HK7 := Lib.hid ((HK6.out.set4 (It.sumO 2 (l.take k) + xt)).mono (below_drew9 _))
          have e0 := (HNx.out.2.2 0)
          have e1 := (HNx.out.2.2 1)
          have e2 := (HNx.out.2.2 2)
          have e3 := (HNx.out.2.2 3)
          have HK7' : Hid (RTot w (W6.setCell ⟨w.heap.size + 1, 4, none⟩ (.int .i64 (It.sumO 2 (l.take k) + xt))).drew (It.sumW (l.take (k + 1))) (It.sumK (l.take (k + 1))) (It.sumO 0 (l.take (k + 1))) (It.sumO 1 (l.take (k + 1))) (It.sumO 2 (l.take (k + 1))) (It.sumO 3 (l.take (k + 1)))) := Lib.hid (by
            rw [e0, e1, e2, e3, HNx.out.1, HNx.out.2.1]
            simpa using HK7.out)
          clear e0 e1 e2 e3
          go_region
          go_wp2
          go_roundw
          case rel => exact ⟨k + 1, by omega, by go_num, HK7'⟩
          case measure => simp [intOf]; omega
        · have u0 := Lib.cell_of_heap HK6.out.h1 5
          have uf := Lib.frozen_of_heap HK6.out.h1 5
          have hwO := HWo.out 3
          have hbt : bits BinOp.and IntKind.i64 3 3 = 3 := by decide
          have HK7 := Lib.hid ((HK6.out.set5 (It.sumO 3 (l.take k) + xt)).mono (below_drew9 _))
          have e0 := (HNx.out.2.2 0)
          have e1 := (HNx.out.2.2 1)
          have e2 := (HNx.out.2.2 2)
          have e3 := (HNx.out.2.2 3)
          have HK7' : Hid (RTot w (W6.setCell ⟨w.heap.size + 1, 5, none⟩ (.int .i64 (It.sumO 3 (l.take k) + xt))).drew (It.sumW (l.take (k + 1))) (It.sumK (l.take (k + 1))) (It.sumO 0 (l.take (k + 1))) (It.sumO 1 (l.take (k + 1))) (It.sumO 2 (l.take (k + 1))) (It.sumO 3 (l.take (k + 1)))) := Lib.hid (by
            rw [e0, e1, e2, e3, HNx.out.1, HNx.out.2.1]
            simpa using HK7.out)
          clear e0 e1 e2 e3
          go_region
          go_wp2
          go_roundw
          case rel => exact ⟨k + 1, by omega, by go_num, HK7'⟩
          case measure => simp [intOf]; omega
      · have e9 : l.take k = l := List.take_of_length_le (by rw [← Hn.out]; omega)
        rw [e9] at HK
        clear e9
        have H6 := Lib.hid (six_set HK.out.h0 rfl (.int .i64 (It.sumW l)) (.int .i64 (It.sumK l)) (.int .i64 (It.sumO 0 l)) (.int .i64 (It.sumO 1 l)) (.int .i64 (It.sumO 2 l)) (.int .i64 (It.sumO 3 l)))
        have HBx := Lib.hid (below_six HK.out.hb (Nat.le_refl _) (.int .i64 (It.sumW l)) (.int .i64 (It.sumK l)) (.int .i64 (It.sumO 0 l)) (.int .i64 (It.sumO 1 l)) (.int .i64 (It.sumO 2 l)) (.int .i64 (It.sumO 3 l)))
        have sc0 := Lib.cell_of_heap HK.out.h1 0
        have sc1 := Lib.cell_of_heap HK.out.h1 1
        have sc2 := Lib.cell_of_heap HK.out.h1 2
        have sc3 := Lib.cell_of_heap HK.out.h1 3
        have sc4 := Lib.cell_of_heap HK.out.h1 4
        have sc5 := Lib.cell_of_heap HK.out.h1 5
        have cz0 := Lib.cell_of_heap HK.out.h0 0
        have fz0 := Lib.frozen_of_heap HK.out.h0 0
        have cz1 := Lib.cell_of_heap HK.out.h0 1
        have fz1 := Lib.frozen_of_heap HK.out.h0 1
        have cz2 := Lib.cell_of_heap HK.out.h0 2
        have fz2 := Lib.frozen_of_heap HK.out.h0 2
        have cz3 := Lib.cell_of_heap HK.out.h0 3
        have fz3 := Lib.frozen_of_heap HK.out.h0 3
        have cz4 := Lib.cell_of_heap HK.out.h0 4
        have fz4 := Lib.frozen_of_heap HK.out.h0 4
        have cz5 := Lib.cell_of_heap HK.out.h0 5
        have fz5 := Lib.frozen_of_heap HK.out.h0 5
        go_wp2
        obtain ⟨WX, hWX⟩ : ∃ WX, WX = ((((((wr.setCell ⟨w.heap.size, 0, none⟩ (.int .i64 (It.sumW l))).setCell ⟨w.heap.size, 1, none⟩ (.int .i64 (It.sumK l))).setCell ⟨w.heap.size, 2, none⟩ (.int .i64 (It.sumO 0 l))).setCell ⟨w.heap.size, 3, none⟩ (.int .i64 (It.sumO 1 l))).setCell ⟨w.heap.size, 4, none⟩ (.int .i64 (It.sumO 2 l))).setCell ⟨w.heap.size, 5, none⟩ (.int .i64 (It.sumO 3 l))) := ⟨_, rfl⟩
        rw [← hWX] at H6 HBx ⊢
        clear hWX
        have q0 := Lib.cell_of_heap H6.out 0
        have q1 := Lib.cell_of_heap H6.out 1
        have q2 := Lib.cell_of_heap H6.out 2
        have q3 := Lib.cell_of_heap H6.out 3
        have q4 := Lib.cell_of_heap H6.out 4
        have q5 := Lib.cell_of_heap H6.out 5
        exact bodyPost_ret (v := .tuple #[.agg (sumC l), .bool true]) (by unfold sumC; simp [results, Try.results54, go_sem, q0, q1, q2, q3, q4, q5]) rfl ⟨by unfold totV; rw [HE.out]; rfl, HBx.out⟩
end Go.Proofs.Ythcilpijiindeaa
