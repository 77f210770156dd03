/-
  The landed glue.Total and glue.May: what a list of glue sums up to, if it may be.
-/
import Derived.Test.YthcilpijiindeaaGlue9
set_option linter.unusedVariables false
set_option linter.unusedSimpArgs false
namespace Go.Proofs.Ythcilpijiindeaa
open Go.RowKit

theorem addB_of {a b : Int} (ha : Sc.fits a = true) (hb : Sc.fits b = true) : Sc.addB a b = Sc.fits (a + b) ∧ (Sc.fits (a + b) = true → Sc.addV a b = a + b) := by
  have h : Sc.addB a b = Sc.fits (a + b) := by unfold Sc.addB; rw [ha, hb]; rfl
  exact ⟨h, fun e => by unfold Sc.addV; rw [h, e]; rfl⟩

theorem wr64 {x : Int} (h0 : -9223372036854775808 ≤ x) (h1 : x ≤ 9223372036854775807) : IntKind.i64.wrap x = x := by
  unfold IntKind.wrap
  simp [IntKind.signed, IntKind.bits]
  omega
set_option maxHeartbeats 8000000 in
set_option maxRecDepth 100000 in
theorem total_any (v : Value) (l : List It.Gl) (w : World) (h : GlsAt w v l) : Calls Try.prog 45 #[v] w (Ret (totV l) w) := by
  have HA := Lib.hid h
  obtain ⟨⟨a, cp, rfl, hcap⟩, hm, _⟩ := h
  have hza : l.length ≤ 9223372036854775807 := by unfold maxLen at hm; omega
  obtain ⟨n, hn⟩ : ∃ n, n = l.length := ⟨_, rfl⟩
  have Hn := Lib.hid hn
  rw [← hn] at hza ⊢
  clear hn hm hcap
  by_cases hlen : n ≤ 2000
  · have g1 : ¬ ((2000 : Int) < (n : Int)) := by omega
    have HL := Lib.hid hlen
    clear hlen
    obtain ⟨W1, hW1⟩ : ∃ W1, W1 = (((w.alloc (.cells zeroS 87)).alloc (.cells zeroS 87)).alloc (.cells #[.int .i64 0] 2)).alloc (.cells #[.int .i64 0] 2) := ⟨_, rfl⟩
    have hT : TotAt w W1 0 0 0 0 0 0 0 0 := by
      have e1 := obj_new w _ rfl zeroS 87
      have b1 := below_alloc (w.alloc (.cells zeroS 87)) (.cells zeroS 87)
      have e2 := obj_new (w.alloc (.cells zeroS 87)) (w.heap.size + 1) (World.size_alloc _ _) zeroS 87
      have b2 := below_alloc ((w.alloc (.cells zeroS 87)).alloc (.cells zeroS 87)) (.cells #[.int .i64 0] 2)
      have e3 := obj_new ((w.alloc (.cells zeroS 87)).alloc (.cells zeroS 87)) (w.heap.size + 2) (by rw [World.size_alloc, World.size_alloc]) #[.int .i64 0] 2
      have b3 := below_alloc (((w.alloc (.cells zeroS 87)).alloc (.cells zeroS 87)).alloc (.cells #[.int .i64 0] 2)) (.cells #[.int .i64 0] 2)
      have e4 := obj_new (((w.alloc (.cells zeroS 87)).alloc (.cells zeroS 87)).alloc (.cells #[.int .i64 0] 2)) (w.heap.size + 3) (by rw [World.size_alloc, World.size_alloc, World.size_alloc]) #[.int .i64 0] 2
      rw [hW1]
      exact ⟨obj_kept b3 (obj_kept b2 (obj_kept b1 e1)), obj_kept b3 (obj_kept b2 e2), obj_kept b3 e3, e4, below_step (below_alloc _ _) (below_step b1 (below_step b2 b3))⟩
    have HT := Lib.hid hT
    clear hT
    unfold zeroS at hW1
    go_enter Try.func45, Try.ntmps45
    go_wp2_with fail
    rw [← hW1]
    clear hW1
    go_loopw [15] (fun iv wr => ∃ k : Nat, k ≤ n ∧ iv = .int .i64 k ∧ Hid (TotAt w wr (It.sumW (l.take k)) (It.sumK (l.take k)) (It.sumO 0 (l.take k)) (It.sumO 1 (l.take k)) (It.sumO 2 (l.take k)) (It.sumO 3 (l.take k)) (It.sumZ (l.take k)) (It.sumT (l.take k))) ∧ Hid (It.glMay (l.take k) = true)) (fun iv _ => n - (intOf iv).toNat)
    case atStart => exact ⟨0, Nat.zero_le _, rfl, HT, Lib.hid It.glMay_nil⟩
    case round =>
      obtain ⟨k, hk, rfl, HK, HM⟩ := hrel
      clear HT
      by_cases hlt : k < n
      · obtain ⟨b1, o1, d1, e1, r1⟩ := HA.out.2.2 (by rw [← Hn.out]; omega)
        obtain ⟨rfl, rfl⟩ : a = some ⟨b1, o1, none⟩ ∧ cp = d1 := by injection e1 with a1 a2 a3; exact ⟨a1, a3⟩
        obtain ⟨x, hx⟩ : ∃ x, l[k]? = some x := ⟨_, List.getElem?_eq_getElem (by rw [← Hn.out]; exact hlt)⟩
        obtain ⟨y0, y1, y2, y3⟩ := gl_cells ((r1 k x hx).mono HK.out.hb)
        have k0 : (0 : Int) ≤ (k : Int) := by omega
        have kl : (k : Int) < (n : Int) := by omega
        have HN := Lib.hid (It.glMay_next hx (by rw [← Hn.out]; exact HL.out) HM.out)
        have HX := Lib.hid hx
        obtain ⟨W2, hW2⟩ : ∃ W2, W2 = wr.alloc (.cells #[.int .i64 x.w, .int .i64 x.st, .int .i64 x.sk, .int .i64 x.o] 38) := ⟨_, rfl⟩
        have HT2 := Lib.hid (HK.out.mono (below_alloc wr (.cells #[.int .i64 x.w, .int .i64 x.st, .int .i64 x.sk, .int .i64 x.o] 38)))
        have HG2 := Lib.hid (obj_new wr _ rfl #[.int .i64 x.w, .int .i64 x.st, .int .i64 x.sk, .int .i64 x.o] 38)
        rw [← hW2] at HT2 HG2
        have HI := Lib.hid (fun w => isGlue_any x w)
        unfold glV at HI
        clear r1 e1 hx
        cases hq : It.glOk x with
        | false =>
          have HE : Hid (It.glMay l = false) := Lib.hid (It.glMay_stop (k := k + 1) (by rw [HN.out, hq]; rfl))
          rw [hq] at HI
          clear hq
          go_wp2_with fail
          rw [← hW2]
          clear hW2
          refine (HI.out _).mono ?_
          rintro e w3 ⟨rfl, hb3⟩
          have HT3 := Lib.hid (HT2.out.mono hb3)
          clear hb3
          have H6 := Lib.hid (six_set HT3.out.h0 rfl (.int .i64 0) (.int .i64 0) (.int .i64 0) (.int .i64 0) (.int .i64 0) (.int .i64 0))
          have HBx := Lib.hid (below_six HT3.out.hb (Nat.le_refl _) (.int .i64 0) (.int .i64 0) (.int .i64 0) (.int .i64 0) (.int .i64 0) (.int .i64 0))
          have cz0 := Lib.cell_of_heap HT3.out.h0 0
          have cz1 := Lib.cell_of_heap HT3.out.h0 1
          have cz2 := Lib.cell_of_heap HT3.out.h0 2
          have cz3 := Lib.cell_of_heap HT3.out.h0 3
          have cz4 := Lib.cell_of_heap HT3.out.h0 4
          have cz5 := Lib.cell_of_heap HT3.out.h0 5
          have fz0 := Lib.frozen_of_heap HT3.out.h0 0
          have fz1 := Lib.frozen_of_heap HT3.out.h0 1
          have fz2 := Lib.frozen_of_heap HT3.out.h0 2
          have fz3 := Lib.frozen_of_heap HT3.out.h0 3
          have fz4 := Lib.frozen_of_heap HT3.out.h0 4
          have fz5 := Lib.frozen_of_heap HT3.out.h0 5
          go_wp2
          have eV : totV l = .tuple #[.agg zeroS, .bool false] := by unfold totV; rw [HE.out]; rfl
          rw [eV]
          obtain ⟨WX, hWX⟩ : ∃ WX, WX = ((((((w3.setCell ⟨w.heap.size, 0, none⟩ (.int .i64 0)).setCell ⟨w.heap.size, 1, none⟩ (.int .i64 0)).setCell ⟨w.heap.size, 2, none⟩ (.int .i64 0)).setCell ⟨w.heap.size, 3, none⟩ (.int .i64 0)).setCell ⟨w.heap.size, 4, none⟩ (.int .i64 0)).setCell ⟨w.heap.size, 5, none⟩ (.int .i64 0)) := ⟨_, rfl⟩
          rw [← hWX] at H6 HBx ⊢
          clear hWX
          have q0 := Lib.cell_of_heap H6.out 0
          have q1 := Lib.cell_of_heap H6.out 1
          have q2 := Lib.cell_of_heap H6.out 2
          have q3 := Lib.cell_of_heap H6.out 3
          have q4 := Lib.cell_of_heap H6.out 4
          have q5 := Lib.cell_of_heap H6.out 5
          exact bodyPost_ret (v := .tuple #[.agg zeroS, .bool false]) (by unfold zeroS; simp [results, Try.results45, go_sem, q0, q1, q2, q3, q4, q5]) rfl ⟨rfl, HBx.out⟩
        | true =>
          obtain ⟨go, gw, gt, gk⟩ := It.glOk_yes hq
          have HGo := Lib.hid go
          have hsm := It.sumsOk_yes (It.glMay_yes HM.out).2.2
          have hsb := It.sums_bound (l.take k) (It.glMay_yes HM.out).2.1
          have hfz : Sc.fits (It.sumZ (l.take k)) = true := Sc.fits_of (by omega) (by omega)
          have hft : Sc.fits (It.sumT (l.take k)) = true := Sc.fits_of (by omega) (by omega)
          have hfk : Sc.fits (It.sumK (l.take k)) = true := Sc.fits_of (by omega) (by omega)
          have hzz := It.size_nonneg x.w
          have hzl := It.size_le gw
          have aZ := addB_of hfz (Sc.fits_of (n := It.size x.w) (by omega) hzl)
          have aT := addB_of hft (Sc.fits_of (n := x.st) (by omega) gt.2)
          have aK := addB_of hfk (Sc.fits_of (n := x.sk) (by omega) gk.2)
          have HSZ := Lib.hid (fun w => glSize_any x.w gw w)
          have HWw : Hid (IntKind.i64.wrap (It.sumW (l.take k) + x.w) = It.sumW (l.take k) + x.w) := Lib.hid (wr64 (by omega) (by omega))
          have hoo := hsb.2.2.2.2
          have HWo : Hid (∀ i, IntKind.i64.wrap (It.sumO i (l.take k) + x.st) = It.sumO i (l.take k) + x.st) := Lib.hid (fun i => by have := hoo i; exact wr64 (by omega) (by omega))
          rw [hq] at HI
          have HN2 : Hid (It.glMay (l.take (k + 1)) = (Sc.fits (It.sumZ (l.take k) + It.size x.w) && Sc.fits (It.sumT (l.take k) + x.st) && Sc.fits (It.sumK (l.take k) + x.sk))) := Lib.hid (by rw [HN.out, hq]; rfl)
          have HSt : Hid (It.glMay (l.take (k + 1)) = false → It.glMay l = false) := Lib.hid It.glMay_stop
          have HNx : Hid (It.sumZ (l.take (k + 1)) = It.sumZ (l.take k) + It.size x.w ∧ It.sumT (l.take (k + 1)) = It.sumT (l.take k) + x.st ∧ It.sumK (l.take (k + 1)) = It.sumK (l.take k) + x.sk ∧ It.sumW (l.take (k + 1)) = It.sumW (l.take k) + x.w ∧ ∀ i, It.sumO i (l.take (k + 1)) = It.sumO i (l.take k) + if x.o = i then x.st else 0) := Lib.hid (by
            rw [It.take_snoc HX.out, It.sumZ_app, It.sumT_app, It.sumK_app, It.sumW_app]
            refine ⟨by simp [It.sumZ], by simp [It.sumT], by simp [It.sumK], by simp [It.sumW], fun i => by rw [It.sumO_app]; simp [It.sumO]⟩)
          have HZ := Lib.hid (fun wx h1 h2 => grow_any (w.heap.size + 1 + 1) 0 (It.sumZ (l.take k)) (It.size x.w) wx h1 h2)
          have HTt := Lib.hid (fun wx h1 h2 => grow_any (w.heap.size + 1 + 1 + 1) 0 (It.sumT (l.take k)) x.st wx h1 h2)
          have HKk := Lib.hid (fun wx h1 h2 => grow_any (w.heap.size + 1) 1 (It.sumK (l.take k)) x.sk wx h1 h2)
          rw [aZ.1] at HZ
          rw [aT.1] at HTt
          rw [aK.1] at HKk
          have VZ := Lib.hid aZ.2
          have VT := Lib.hid aT.2
          have VK := Lib.hid aK.2
          clear hq go gw gt gk hsm hsb hfz hft hfk hzz hzl hoo HN aZ aT aK
          generalize Sc.addV (It.sumZ (l.take k)) (It.size x.w) = nz at *
          generalize Sc.addV (It.sumT (l.take k)) x.st = nt at *
          generalize Sc.addV (It.sumK (l.take k)) x.sk = nk at *
          generalize Sc.fits (It.sumZ (l.take k) + It.size x.w) = bz at *
          generalize Sc.fits (It.sumT (l.take k) + x.st) = bt at *
          generalize Sc.fits (It.sumK (l.take k) + x.sk) = bk at *
          generalize It.size x.w = zx at *
          go_wp2_with fail
          rw [← hW2]
          clear hW2
          refine (HI.out _).mono ?_
          rintro e w3 ⟨rfl, hb3⟩
          have HT3 := Lib.hid (HT2.out.mono hb3)
          have HG3 := Lib.hid (obj_kept hb3 HG2.out)
          clear hb3
          have gc0 := Lib.cell_of_heap HG3.out 0
          have gc1 := Lib.cell_of_heap HG3.out 1
          have gc2 := Lib.cell_of_heap HG3.out 2
          go_wp2_with fail
          refine (HSZ.out _).mono ?_
          rintro e w4 ⟨rfl, rfl⟩
          cases bz with
          | false =>
            have HE : Hid (It.glMay l = false) := Lib.hid (HSt.out (by rw [HN2.out]; rfl))
            go_wp2_with fail
            refine (HZ.out _ (Lib.cell_of_heap HT3.out.h2 0) (Lib.frozen_of_heap HT3.out.h2 0)).mono ?_
            rintro e w4 ⟨rfl, hw4⟩
            have HT4 := Lib.hid (HT3.out.setZ nz)
            rw [← hw4] at HT4
            clear hw4 gc0 gc1 gc2
            have H6 := Lib.hid (six_set HT4.out.h0 rfl (.int .i64 0) (.int .i64 0) (.int .i64 0) (.int .i64 0) (.int .i64 0) (.int .i64 0))
            have HBx := Lib.hid (below_six HT4.out.hb (Nat.le_refl _) (.int .i64 0) (.int .i64 0) (.int .i64 0) (.int .i64 0) (.int .i64 0) (.int .i64 0))
            have cz0 := Lib.cell_of_heap HT4.out.h0 0
            have cz1 := Lib.cell_of_heap HT4.out.h0 1
            have cz2 := Lib.cell_of_heap HT4.out.h0 2
            have cz3 := Lib.cell_of_heap HT4.out.h0 3
            have cz4 := Lib.cell_of_heap HT4.out.h0 4
            have cz5 := Lib.cell_of_heap HT4.out.h0 5
            have fz0 := Lib.frozen_of_heap HT4.out.h0 0
            have fz1 := Lib.frozen_of_heap HT4.out.h0 1
            have fz2 := Lib.frozen_of_heap HT4.out.h0 2
            have fz3 := Lib.frozen_of_heap HT4.out.h0 3
            have fz4 := Lib.frozen_of_heap HT4.out.h0 4
            have fz5 := Lib.frozen_of_heap HT4.out.h0 5
            go_wp2
            have eV : totV l = .tuple #[.agg zeroS, .bool false] := by unfold totV; rw [HE.out]; rfl
            rw [eV]
            obtain ⟨WX, hWX⟩ : ∃ WX, WX = ((((((w4.setCell ⟨w.heap.size, 0, none⟩ (.int .i64 0)).setCell ⟨w.heap.size, 1, none⟩ (.int .i64 0)).setCell ⟨w.heap.size, 2, none⟩ (.int .i64 0)).setCell ⟨w.heap.size, 3, none⟩ (.int .i64 0)).setCell ⟨w.heap.size, 4, none⟩ (.int .i64 0)).setCell ⟨w.heap.size, 5, none⟩ (.int .i64 0)) := ⟨_, rfl⟩
            rw [← hWX] at H6 HBx ⊢
            clear hWX
            have q0 := Lib.cell_of_heap H6.out 0
            have q1 := Lib.cell_of_heap H6.out 1
            have q2 := Lib.cell_of_heap H6.out 2
            have q3 := Lib.cell_of_heap H6.out 3
            have q4 := Lib.cell_of_heap H6.out 4
            have q5 := Lib.cell_of_heap H6.out 5
            exact bodyPost_ret (v := .tuple #[.agg zeroS, .bool false]) (by unfold zeroS; simp [results, Try.results45, go_sem, q0, q1, q2, q3, q4, q5]) rfl ⟨rfl, HBx.out⟩
          | true =>
            go_wp2_with fail
            refine (HZ.out _ (Lib.cell_of_heap HT3.out.h2 0) (Lib.frozen_of_heap HT3.out.h2 0)).mono ?_
            rintro e w4 ⟨rfl, hw4⟩
            have HT4 := Lib.hid (HT3.out.setZ nz)
            have HG4 := Lib.hid (obj_set (p := w.heap.size + 1 + 1) (i := 0) (v := .int .i64 nz) HG3.out (Nat.ne_of_gt (lt_of_obj HK.out.h2)))
            rw [← hw4] at HT4 HG4
            clear hw4 gc0 gc1 gc2
            have gc1 := Lib.cell_of_heap HG4.out 1
            cases bt with
            | false =>
              have HE : Hid (It.glMay l = false) := Lib.hid (HSt.out (by rw [HN2.out]; rfl))
              go_wp2_with fail
              refine (HTt.out _ (Lib.cell_of_heap HT4.out.h3 0) (Lib.frozen_of_heap HT4.out.h3 0)).mono ?_
              rintro e w5 ⟨rfl, hw5⟩
              have HT5 := Lib.hid (HT4.out.setT nt)
              rw [← hw5] at HT5
              clear hw5 gc1
              have H6 := Lib.hid (six_set HT5.out.h0 rfl (.int .i64 0) (.int .i64 0) (.int .i64 0) (.int .i64 0) (.int .i64 0) (.int .i64 0))
              have HBx := Lib.hid (below_six HT5.out.hb (Nat.le_refl _) (.int .i64 0) (.int .i64 0) (.int .i64 0) (.int .i64 0) (.int .i64 0) (.int .i64 0))
              have cz0 := Lib.cell_of_heap HT5.out.h0 0
              have cz1 := Lib.cell_of_heap HT5.out.h0 1
              have cz2 := Lib.cell_of_heap HT5.out.h0 2
              have cz3 := Lib.cell_of_heap HT5.out.h0 3
              have cz4 := Lib.cell_of_heap HT5.out.h0 4
              have cz5 := Lib.cell_of_heap HT5.out.h0 5
              have fz0 := Lib.frozen_of_heap HT5.out.h0 0
              have fz1 := Lib.frozen_of_heap HT5.out.h0 1
              have fz2 := Lib.frozen_of_heap HT5.out.h0 2
              have fz3 := Lib.frozen_of_heap HT5.out.h0 3
              have fz4 := Lib.frozen_of_heap HT5.out.h0 4
              have fz5 := Lib.frozen_of_heap HT5.out.h0 5
              go_wp2
              have eV : totV l = .tuple #[.agg zeroS, .bool false] := by unfold totV; rw [HE.out]; rfl
              rw [eV]
              obtain ⟨WX, hWX⟩ : ∃ WX, WX = ((((((w5.setCell ⟨w.heap.size, 0, none⟩ (.int .i64 0)).setCell ⟨w.heap.size, 1, none⟩ (.int .i64 0)).setCell ⟨w.heap.size, 2, none⟩ (.int .i64 0)).setCell ⟨w.heap.size, 3, none⟩ (.int .i64 0)).setCell ⟨w.heap.size, 4, none⟩ (.int .i64 0)).setCell ⟨w.heap.size, 5, none⟩ (.int .i64 0)) := ⟨_, rfl⟩
              rw [← hWX] at H6 HBx ⊢
              clear hWX
              have q0 := Lib.cell_of_heap H6.out 0
              have q1 := Lib.cell_of_heap H6.out 1
              have q2 := Lib.cell_of_heap H6.out 2
              have q3 := Lib.cell_of_heap H6.out 3
              have q4 := Lib.cell_of_heap H6.out 4
              have q5 := Lib.cell_of_heap H6.out 5
              exact bodyPost_ret (v := .tuple #[.agg zeroS, .bool false]) (by unfold zeroS; simp [results, Try.results45, go_sem, q0, q1, q2, q3, q4, q5]) rfl ⟨rfl, HBx.out⟩
            | true =>
              go_wp2_with fail
              refine (HTt.out _ (Lib.cell_of_heap HT4.out.h3 0) (Lib.frozen_of_heap HT4.out.h3 0)).mono ?_
              rintro e w5 ⟨rfl, hw5⟩
              have HT5 := Lib.hid (HT4.out.setT nt)
              have HG5 := Lib.hid (obj_set (p := w.heap.size + 1 + 1 + 1) (i := 0) (v := .int .i64 nt) HG4.out (Nat.ne_of_gt (lt_of_obj HK.out.h3)))
              rw [← hw5] at HT5 HG5
              clear hw5 gc1
              have gc2 := Lib.cell_of_heap HG5.out 2
              cases bk with
              | false =>
                have HE : Hid (It.glMay l = false) := Lib.hid (HSt.out (by rw [HN2.out]; rfl))
                go_wp2_with fail
                refine (HKk.out _ (Lib.cell_of_heap HT5.out.h1 1) (Lib.frozen_of_heap HT5.out.h1 1)).mono ?_
                rintro e w6 ⟨rfl, hw6⟩
                have HT6 := Lib.hid (HT5.out.setK nk)
                rw [← hw6] at HT6
                clear hw6 gc2
                have H6 := Lib.hid (six_set HT6.out.h0 rfl (.int .i64 0) (.int .i64 0) (.int .i64 0) (.int .i64 0) (.int .i64 0) (.int .i64 0))
                have HBx := Lib.hid (below_six HT6.out.hb (Nat.le_refl _) (.int .i64 0) (.int .i64 0) (.int .i64 0) (.int .i64 0) (.int .i64 0) (.int .i64 0))
                have cz0 := Lib.cell_of_heap HT6.out.h0 0
                have cz1 := Lib.cell_of_heap HT6.out.h0 1
                have cz2 := Lib.cell_of_heap HT6.out.h0 2
                have cz3 := Lib.cell_of_heap HT6.out.h0 3
                have cz4 := Lib.cell_of_heap HT6.out.h0 4
                have cz5 := Lib.cell_of_heap HT6.out.h0 5
                have fz0 := Lib.frozen_of_heap HT6.out.h0 0
                have fz1 := Lib.frozen_of_heap HT6.out.h0 1
                have fz2 := Lib.frozen_of_heap HT6.out.h0 2
                have fz3 := Lib.frozen_of_heap HT6.out.h0 3
                have fz4 := Lib.frozen_of_heap HT6.out.h0 4
                have fz5 := Lib.frozen_of_heap HT6.out.h0 5
                go_wp2
                have eV : totV l = .tuple #[.agg zeroS, .bool false] := by unfold totV; rw [HE.out]; rfl
                rw [eV]
                obtain ⟨WX, hWX⟩ : ∃ WX, WX = ((((((w6.setCell ⟨w.heap.size, 0, none⟩ (.int .i64 0)).setCell ⟨w.heap.size, 1, none⟩ (.int .i64 0)).setCell ⟨w.heap.size, 2, none⟩ (.int .i64 0)).setCell ⟨w.heap.size, 3, none⟩ (.int .i64 0)).setCell ⟨w.heap.size, 4, none⟩ (.int .i64 0)).setCell ⟨w.heap.size, 5, none⟩ (.int .i64 0)) := ⟨_, rfl⟩
                rw [← hWX] at H6 HBx ⊢
                clear hWX
                have q0 := Lib.cell_of_heap H6.out 0
                have q1 := Lib.cell_of_heap H6.out 1
                have q2 := Lib.cell_of_heap H6.out 2
                have q3 := Lib.cell_of_heap H6.out 3
                have q4 := Lib.cell_of_heap H6.out 4
                have q5 := Lib.cell_of_heap H6.out 5
                exact bodyPost_ret (v := .tuple #[.agg zeroS, .bool false]) (by unfold zeroS; simp [results, Try.results45, go_sem, q0, q1, q2, q3, q4, q5]) rfl ⟨rfl, HBx.out⟩
              | true =>
                go_wp2_with fail
                refine (HKk.out _ (Lib.cell_of_heap HT5.out.h1 1) (Lib.frozen_of_heap HT5.out.h1 1)).mono ?_
                rintro e w6 ⟨rfl, hw6⟩
                have HT6 := Lib.hid (HT5.out.setK nk)
                have HG6 := Lib.hid (obj_set (p := w.heap.size + 1) (i := 1) (v := .int .i64 nk) HG5.out (Nat.ne_of_gt (lt_of_obj HK.out.h1)))
                rw [← hw6] at HT6 HG6
                clear hw6 gc2
                rw [VZ.out (by trivial), VT.out (by trivial), VK.out (by trivial)] at HT6
                have gc0 := Lib.cell_of_heap HG6.out 0
                have sc0 := Lib.cell_of_heap HT6.out.h1 0
                have sf0 := Lib.frozen_of_heap HT6.out.h1 0
                have hwW := HWw.out
                obtain ⟨W7, hW7⟩ : ∃ W7, W7 = w6.setCell ⟨w.heap.size + 1, 0, none⟩ (.int .i64 (It.sumW (l.take k) + x.w)) := ⟨_, rfl⟩
                have HT7 := Lib.hid (HT6.out.setW (It.sumW (l.take k) + x.w))
                have HG7 := Lib.hid (obj_set (p := w.heap.size + 1) (i := 0) (v := .int .i64 (It.sumW (l.take k) + x.w)) HG6.out (Nat.ne_of_gt (lt_of_obj HK.out.h1)))
                rw [← hW7] at HT7 HG7
                go_upto_region 11 with fail
                rw [← hW7]
                clear hW7 gc0 sc0 sf0 hwW
                have gd1 := Lib.cell_of_heap HG7.out 1
                have gd3 := Lib.cell_of_heap HG7.out 3
                have HM2 : Hid (It.glMay (l.take (k + 1)) = true) := Lib.hid (by rw [HN2.out]; rfl)
                obtain ⟨go0, go3⟩ := HGo.out
                have hcase : x.o = 0 ∨ x.o = 1 ∨ x.o = 2 ∨ x.o = 3 := by omega
                clear go0 go3
                rcases hcase with ho | ho | ho | ho
                · rw [ho] at gd3
                  have u0 := Lib.cell_of_heap HT7.out.h1 2
                  have uf := Lib.frozen_of_heap HT7.out.h1 2
                  have hwO := HWo.out 0
                  have HT9 := Lib.hid ((HT7.out.mono (below_drew9 W7)).set0 (It.sumO 0 (l.take k) + x.st))
                  have e0 := (HNx.out.2.2.2.2 0)
                  have e1 := (HNx.out.2.2.2.2 1)
                  have e2 := (HNx.out.2.2.2.2 2)
                  have e3 := (HNx.out.2.2.2.2 3)
                  rw [ho] at e0 e1 e2 e3
                  have HT9' : Hid (TotAt w (W7.drew.setCell ⟨w.heap.size + 1, 2, none⟩ (.int .i64 (It.sumO 0 (l.take k) + x.st))) (It.sumW (l.take (k + 1))) (It.sumK (l.take (k + 1))) (It.sumO 0 (l.take (k + 1))) (It.sumO 1 (l.take (k + 1))) (It.sumO 2 (l.take (k + 1))) (It.sumO 3 (l.take (k + 1))) (It.sumZ (l.take (k + 1))) (It.sumT (l.take (k + 1)))) := Lib.hid (by
                    rw [e0, e1, e2, e3, HNx.out.1, HNx.out.2.1, HNx.out.2.2.1, HNx.out.2.2.2.1]
                    simpa using HT9.out)
                  clear e0 e1 e2 e3 ho
                  go_region
                  go_wp2
                  go_roundw
                  case rel => exact ⟨k + 1, by omega, by go_num, HT9', HM2⟩
                  case measure => simp [intOf]; omega
                · rw [ho] at gd3
                  have u0 := Lib.cell_of_heap HT7.out.h1 3
                  have uf := Lib.frozen_of_heap HT7.out.h1 3
                  have hwO := HWo.out 1
                  have HT9 := Lib.hid ((HT7.out.mono (below_drew9 W7)).set1 (It.sumO 1 (l.take k) + x.st))
                  have e0 := (HNx.out.2.2.2.2 0)
                  have e1 := (HNx.out.2.2.2.2 1)
                  have e2 := (HNx.out.2.2.2.2 2)
                  have e3 := (HNx.out.2.2.2.2 3)
                  rw [ho] at e0 e1 e2 e3
                  have HT9' : Hid (TotAt w (W7.drew.setCell ⟨w.heap.size + 1, 3, none⟩ (.int .i64 (It.sumO 1 (l.take k) + x.st))) (It.sumW (l.take (k + 1))) (It.sumK (l.take (k + 1))) (It.sumO 0 (l.take (k + 1))) (It.sumO 1 (l.take (k + 1))) (It.sumO 2 (l.take (k + 1))) (It.sumO 3 (l.take (k + 1))) (It.sumZ (l.take (k + 1))) (It.sumT (l.take (k + 1)))) := Lib.hid (by
                    rw [e0, e1, e2, e3, HNx.out.1, HNx.out.2.1, HNx.out.2.2.1, HNx.out.2.2.2.1]
                    simpa using HT9.out)
                  clear e0 e1 e2 e3 ho
                  go_region
                  go_wp2
                  go_roundw
                  case rel => exact ⟨k + 1, by omega, by go_num, HT9', HM2⟩
                  case measure => simp [intOf]; omega
                · rw [ho] at gd3
                  have u0 := Lib.cell_of_heap HT7.out.h1 4
                  have uf := Lib.frozen_of_heap HT7.out.h1 4
                  have hwO := HWo.out 2
                  have HT9 := Lib.hid ((HT7.out.mono (below_drew9 W7)).set2 (It.sumO 2 (l.take k) + x.st))
                  have e0 := (HNx.out.2.2.2.2 0)
                  have e1 := (HNx.out.2.2.2.2 1)
                  have e2 := (HNx.out.2.2.2.2 2)
                  have e3 := (HNx.out.2.2.2.2 3)
                  rw [ho] at e0 e1 e2 e3
                  have HT9' : Hid (TotAt w (W7.drew.setCell ⟨w.heap.size + 1, 4, none⟩ (.int .i64 (It.sumO 2 (l.take k) + x.st))) (It.sumW (l.take (k + 1))) (It.sumK (l.take (k + 1))) (It.sumO 0 (l.take (k + 1))) (It.sumO 1 (l.take (k + 1))) (It.sumO 2 (l.take (k + 1))) (It.sumO 3 (l.take (k + 1))) (It.sumZ (l.take (k + 1))) (It.sumT (l.take (k + 1)))) := Lib.hid (by
                    rw [e0, e1, e2, e3, HNx.out.1, HNx.out.2.1, HNx.out.2.2.1, HNx.out.2.2.2.1]
                    simpa using HT9.out)
                  clear e0 e1 e2 e3 ho
                  go_region
                  go_wp2
                  go_roundw
                  case rel => exact ⟨k + 1, by omega, by go_num, HT9', HM2⟩
                  case measure => simp [intOf]; omega
                · rw [ho] at gd3
                  have u0 := Lib.cell_of_heap HT7.out.h1 5
                  have uf := Lib.frozen_of_heap HT7.out.h1 5
                  have hwO := HWo.out 3
                  have HT9 := Lib.hid ((HT7.out.mono (below_drew9 W7)).set3 (It.sumO 3 (l.take k) + x.st))
                  have e0 := (HNx.out.2.2.2.2 0)
                  have e1 := (HNx.out.2.2.2.2 1)
                  have e2 := (HNx.out.2.2.2.2 2)
                  have e3 := (HNx.out.2.2.2.2 3)
                  rw [ho] at e0 e1 e2 e3
                  have HT9' : Hid (TotAt w (W7.drew.setCell ⟨w.heap.size + 1, 5, none⟩ (.int .i64 (It.sumO 3 (l.take k) + x.st))) (It.sumW (l.take (k + 1))) (It.sumK (l.take (k + 1))) (It.sumO 0 (l.take (k + 1))) (It.sumO 1 (l.take (k + 1))) (It.sumO 2 (l.take (k + 1))) (It.sumO 3 (l.take (k + 1))) (It.sumZ (l.take (k + 1))) (It.sumT (l.take (k + 1)))) := Lib.hid (by
                    rw [e0, e1, e2, e3, HNx.out.1, HNx.out.2.1, HNx.out.2.2.1, HNx.out.2.2.2.1]
                    simpa using HT9.out)
                  clear e0 e1 e2 e3 ho
                  go_region
                  go_wp2
                  go_roundw
                  case rel => exact ⟨k + 1, by omega, by go_num, HT9', HM2⟩
                  case measure => simp [intOf]; omega
      · have HE : Hid (It.glMay l = true ∧ l.take k = l) := Lib.hid (by
          have e : l.take k = l := List.take_of_length_le (by rw [← Hn.out]; omega)
          exact ⟨by rw [← e]; exact HM.out, e⟩)
        rw [HE.out.2] at HK
        have sc0 := Lib.cell_of_heap HK.out.h1 0
        have sc1 := Lib.cell_of_heap HK.out.h1 1
        have sc2 := Lib.cell_of_heap HK.out.h1 2
        have sc3 := Lib.cell_of_heap HK.out.h1 3
        have sc4 := Lib.cell_of_heap HK.out.h1 4
        have sc5 := Lib.cell_of_heap HK.out.h1 5
        have cz0 := Lib.cell_of_heap HK.out.h0 0
        have cz1 := Lib.cell_of_heap HK.out.h0 1
        have cz2 := Lib.cell_of_heap HK.out.h0 2
        have cz3 := Lib.cell_of_heap HK.out.h0 3
        have cz4 := Lib.cell_of_heap HK.out.h0 4
        have cz5 := Lib.cell_of_heap HK.out.h0 5
        have fz0 := Lib.frozen_of_heap HK.out.h0 0
        have fz1 := Lib.frozen_of_heap HK.out.h0 1
        have fz2 := Lib.frozen_of_heap HK.out.h0 2
        have fz3 := Lib.frozen_of_heap HK.out.h0 3
        have fz4 := Lib.frozen_of_heap HK.out.h0 4
        have fz5 := Lib.frozen_of_heap HK.out.h0 5
        have H6 := Lib.hid (six_set HK.out.h0 rfl (.int .i64 (It.sumW l)) (.int .i64 (It.sumK l)) (.int .i64 (It.sumO 0 l)) (.int .i64 (It.sumO 1 l)) (.int .i64 (It.sumO 2 l)) (.int .i64 (It.sumO 3 l)))
        have HBx := Lib.hid (below_six HK.out.hb (Nat.le_refl _) (.int .i64 (It.sumW l)) (.int .i64 (It.sumK l)) (.int .i64 (It.sumO 0 l)) (.int .i64 (It.sumO 1 l)) (.int .i64 (It.sumO 2 l)) (.int .i64 (It.sumO 3 l)))
        go_wp2
        have eV : totV l = .tuple #[.agg (sumC l), .bool true] := by unfold totV; rw [HE.out.1]; rfl
        rw [eV]
        obtain ⟨WX, hWX⟩ : ∃ WX, WX = ((((((wr.setCell ⟨w.heap.size, 0, none⟩ (.int .i64 (It.sumW l))).setCell ⟨w.heap.size, 1, none⟩ (.int .i64 (It.sumK l))).setCell ⟨w.heap.size, 2, none⟩ (.int .i64 (It.sumO 0 l))).setCell ⟨w.heap.size, 3, none⟩ (.int .i64 (It.sumO 1 l))).setCell ⟨w.heap.size, 4, none⟩ (.int .i64 (It.sumO 2 l))).setCell ⟨w.heap.size, 5, none⟩ (.int .i64 (It.sumO 3 l))) := ⟨_, rfl⟩
        rw [← hWX] at H6 HBx ⊢
        clear hWX
        have q0 := Lib.cell_of_heap H6.out 0
        have q1 := Lib.cell_of_heap H6.out 1
        have q2 := Lib.cell_of_heap H6.out 2
        have q3 := Lib.cell_of_heap H6.out 3
        have q4 := Lib.cell_of_heap H6.out 4
        have q5 := Lib.cell_of_heap H6.out 5
        exact bodyPost_ret (v := .tuple #[.agg (sumC l), .bool true]) (by unfold sumC; simp [results, Try.results45, go_sem, q0, q1, q2, q3, q4, q5]) rfl ⟨rfl, HBx.out⟩
  · have g1 : (2000 : Int) < (n : Int) := by omega
    have HE : Hid (It.glMay l = false) := Lib.hid (by unfold It.glMay; rw [decide_eq_false (by rw [← Hn.out]; exact hlen)]; rfl)
    clear hlen
    have HB := Lib.hid (below_alloc w (.cells zeroS 87))
    unfold zeroS at HB
    go_enter Try.func45, Try.ntmps45
    go_wp2
    have eV : totV l = .tuple #[.agg zeroS, .bool false] := by unfold totV; rw [HE.out]; rfl
    rw [eV]
    exact bodyPost_ret (v := .tuple #[.agg zeroS, .bool false]) (by unfold zeroS; simp [results, Try.results45, go_sem]) rfl ⟨rfl, HB.out⟩
end Go.Proofs.Ythcilpijiindeaa
