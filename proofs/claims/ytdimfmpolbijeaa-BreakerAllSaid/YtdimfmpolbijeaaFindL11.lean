/-
  The landed findLines: all lines from one break.
-/
import Derived.Test.YtdimfmpolbijeaaTab11
set_option linter.unusedVariables false
set_option linter.unusedSimpArgs false
namespace Go.Proofs.Ytdimfmpolbijeaa
open Go.RowKit

set_option maxHeartbeats 1000000 in
set_option maxRecDepth 100000 in
theorem brForced_any (x : It.Itm) (w : World) : Calls Try.prog 40 #[itV x] w (Ret (.bool (It.forced x)) w) := by
  have HB := Lib.hid (below_alloc w (.cells #[.int .i64 x.k, .int .i64 x.g.w, .int .i64 x.g.st, .int .i64 x.g.sk, .int .i64 x.g.o, .int .i64 x.p, .bool x.f, .int .i64 x.n, .int .i64 x.q] 47))
  unfold itV
  by_cases h : x.k = 2
  · have HE := Lib.hid (forced_if h)
    rw [h] at HB ⊢
    go_enter Try.func40, Try.ntmps40
    go_wp2
    go_ret
    rw [HE.out]
    exact ⟨rfl, HB.out⟩
  · have HE := Lib.hid (forced_no h)
    go_enter Try.func40, Try.ntmps40
    go_wp2
    go_ret
    rw [HE.out]
    exact ⟨rfl, HB.out⟩
theorem ParW.offS {v : Value} {n : Nat} {t tol : Int} {w0 : World} {ip bp S : Nat} {F : Nat → Nat → It.Pln} {w : World} {cs : Array Value} (h : ParW v n t tol w0 ip bp F w) (hS : w.heap[S]? = some (.cells cs 80 (0, 0))) : S ≠ ip ∧ S ≠ bp := by
  obtain ⟨sv, l, h1, h2⟩ := h.ho
  obtain ⟨ps, p1, p2, p3⟩ := h.hp
  constructor
  · intro e
    subst e
    rw [h1] at hS
    injection hS with hS
    injection hS with _ hT
    exact absurd hT (by decide)
  · intro e
    subst e
    rw [p1] at hS
    injection hS with hS
    injection hS with _ hT
    exact absurd hT (by decide)
theorem ParW.grownS {v : Value} {n : Nat} {t tol : Int} {w0 : World} {ip bp S : Nat} {F : Nat → Nat → It.Pln} {w w' : World} {cs : Array Value} (h : ParW v n t tol w0 ip bp F w) (hg : w.grownBy w' (some S)) (hS : w.heap[S]? = some (.cells cs 80 (0, 0))) (hS0 : w0.heap.size ≤ S := by omega) : ParW v n t tol w0 ip bp F w' := by
  obtain ⟨sv, l, h1, h2⟩ := h.ho
  obtain ⟨ps, p1, p2, p3⟩ := h.hp
  have e1 : ip ≠ S := fun e => by
    subst e
    rw [h1] at hS
    injection hS with hS
    injection hS with _ hT
    exact absurd hT (by decide)
  have e2 : bp ≠ S := fun e => by
    subst e
    rw [p1] at hS
    injection hS with hS
    injection hS with _ hT
    exact absurd hT (by decide)
  refine ⟨⟨sv, l, obj_far h1 hg (fun e => e1 (Option.some.inj e)), ?_⟩, ⟨ps, obj_far p1 hg (fun e => e2 (Option.some.inj e)), p2, p3⟩, h.hb.grown hg h.hb.size (fun j hj => by cases hj; exact hS0), h.h0⟩
  exact World.ownsRow.kept h2 hg (.inr fun e => own_off9 h2 hS (by decide) e.symm)

set_option maxHeartbeats 16000000 in
set_option maxRecDepth 100000 in
theorem findLines_any (v : Value) (l : List It.Itm) (t tol : Int) (w0 : World) (ip bp : Nat) (a : Int) (s : Nat) (w : World) (hI : ItsAt w0 v l) (hmay : It.may l = true) (hs : a + 1 = (s : Int)) (ha : a = -1 ∨ It.legal l a = true) (hsn : s < l.length) (hP : ParW v l.length t tol w0 ip bp (tabR l t tol s (fun _ => none)) w) :
    Calls Try.prog 27 #[.pointer (some ⟨ip, 0, none⟩), .int .i64 a] w fun e w' => e = .returned (.tuple #[]) ∧ ParW v l.length t tol w0 ip bp (tabR l t tol s (fun q => It.way l t tol s q)) w' := by
  have hlen := (It.may_yes hmay).1
  obtain ⟨i0, hi0⟩ : ∃ i0, i0 = It.st l s := ⟨_, rfl⟩
  have hsb0 := st_bound l s (by omega)
  rw [← hi0] at hsb0
  have hB1 := below_alloc w (.cells zeroS 80)
  have HP1 := Lib.hid (hP.below hB1)
  have HS1 : Hid ((w.alloc (.cells zeroS 80)).heap[w.heap.size]? = some (.cells (smC (It.sumG (It.glB l i0 i0))) 80 (0, 0))) := Lib.hid (by rw [It.glB_start]; exact obj_new w _ rfl zeroS 80)
  have hbz := hP.hb.size
  obtain ⟨W1, hW1⟩ : ∃ W1, W1 = w.alloc (.cells zeroS 80) := ⟨_, rfl⟩
  rw [← hW1] at HP1 HS1
  obtain ⟨S, hS⟩ : ∃ S, S = w.heap.size := ⟨_, rfl⟩
  rw [← hS] at HS1 hbz
  have HF0 : Hid (((l.take i0).drop s).any It.forced = false) := Lib.hid (by rw [hi0]; exact noforced_start l s)
  have HR0 : Hid (rowM l t tol s (i0 - s) = fun _ => none) := Lib.hid (rowM_start (fun b h1 h2 => It.cost_early (a := (s : Int) - 1) (s := s) (by omega) (by omega) t tol))
  have HMay := Lib.hid hmay
  have HA := Lib.hid hI
  have Hi0 := Lib.hid hi0
  have Hha := Lib.hid ha
  have HSt := Lib.hid (fun w h => start_any v l a s hs (by omega) w h)
  rw [← hi0] at HSt
  have HLg := Lib.hid (fun w h b => legal_any v l b w h)
  have HTry := Lib.hid (fun b w h1 h2 h3 => tryLine_any v l t tol w0 ip bp (tabR l t tol s (rowM l t tol s (b - s))) a s b (It.sumG (It.glB l i0 b)) w hI h1 h2 h3)
  have HsN := Lib.hid hsn
  have Hs := Lib.hid hs
  obtain ⟨⟨p, cp, rfl, hcap⟩, hm, _⟩ := hI
  obtain ⟨b1, o1, d1, e1, r1⟩ := HA.out.2.2 (by omega)
  obtain ⟨rfl, rfl⟩ : p = some ⟨b1, o1, none⟩ ∧ cp = d1 := by injection e1 with a1 a2 a3; exact ⟨a1, a3⟩
  have HR := Lib.hid r1
  obtain ⟨n, hn⟩ : ∃ n, n = l.length := ⟨_, rfl⟩
  have Hn := Lib.hid hn
  rw [← hn] at HP1 hlen hsb0 HSt HLg HTry HsN ⊢
  clear r1 e1 hcap hm hP hmay ha hsn hi0 hB1 hn
  have hsi := hsb0.1
  have z0 : W1.cell? ⟨ip, 0, none⟩ = some (.slice (some ⟨b1, o1, none⟩) n cp) := HP1.out.cells.1
  have HI1 := Lib.hid (SlcAt.mono HA.out HP1.out.hb)
  rw [← Hn.out] at HI1
  unfold zeroS at hW1
  go_enter Try.func27, Try.ntmps27
  go_upto_region 1 with fail
  rw [← hW1, ← hS]
  clear hW1 hS
  go_wp2_with fail
  refine (HSt.out _ HI1.out).mono ?_
  rintro e w2 ⟨rfl, hb2⟩
  have HP2 := Lib.hid (HP1.out.below hb2)
  have HS2 := Lib.hid (obj_kept hb2 HS1.out)
  clear hb2 z0 HI1 HP1 HS1
  go_wp2_with fail
  go_loopw [5] (fun bv wr => ∃ b : Nat, i0 ≤ b ∧ b ≤ n ∧ bv = .int .i64 b ∧ Hid (ParW (.slice (some ⟨b1, o1, none⟩) n cp) n t tol w0 ip bp (tabR l t tol s (rowM l t tol s (b - s))) wr) ∧ Hid (wr.heap[S]? = some (.cells (smC (It.sumG (It.glB l i0 b))) 80 (0, 0))) ∧ Hid (((l.take b).drop s).any It.forced = false)) (fun bv _ => n - (intOf bv).toNat)
  case atStart => exact ⟨i0, Nat.le_refl _, hsb0.2, rfl, Lib.hid (by rw [HR0.out]; exact HP2.out), HS2, HF0⟩
  case round =>
    obtain ⟨b, hib, hbn, rfl, HPr, HSr, HF⟩ := hrel
    clear HP2 HS2 HF0 HR0
    by_cases hlt : b < n
    · have HbN : Hid (b < l.length) := Lib.hid (by rw [← Hn.out]; exact hlt)
      obtain ⟨x, hx⟩ : ∃ x, l[b]? = some x := ⟨_, List.getElem?_eq_getElem HbN.out⟩
      have Hx := Lib.hid hx
      have hsb : s ≤ b := by omega
      have hbs : b + 1 - s = b - s + 1 := by omega
      have k0 : (0 : Int) ≤ (b : Int) := by omega
      have kl : (b : Int) < (n : Int) := by omega
      have HFo := Lib.hid (fun w => brForced_any x w)
      have HBn := Lib.hid (glB_small HMay.out (i := i0) (b := b + 1) (by have := HbN.out; omega)).2
      have HSm := Lib.hid (glB_small HMay.out (i := i0) (b := b) (by have := HbN.out; omega)).1
      have HGo : Hid (x.k = 2 ∨ It.glOk x.g = true) := Lib.hid (.inr (List.all_eq_true.1 (It.glMay_yes (It.may_yes HMay.out).2.2).2.1 x.g (List.mem_map.2 ⟨x, List.mem_of_getElem? hx, rfl⟩)))
      have HAd := Lib.hid (fun w h => add_any11 S (It.sumG (It.glB l i0 b)) x HSm.out HGo.out w h)
      have HSn := Lib.hid (sumG_next HMay.out hx hib)
      have HWd : Hid (∀ D, D = It.sumW (It.glB l i0 (b + 1)) - It.sumK (It.glB l i0 (b + 1)) → t < D → rowM l t tol s (b - s + 1) = fun q : Nat => It.way l t tol s q) := Lib.hid (fun D hD hlt => rowM_rest (by rw [← Hn.out]; exact HsN.out) (by have := HbN.out; omega) (fun c hc => It.cost_wide HMay.out (a := (s : Int) - 1) (s := s) (m := b + 1) (by omega) (by omega) (by rw [← Hi0.out]; omega) (by omega) t tol (by rw [← Hi0.out]; omega)))
      rw [Hn.out] at HsN
      unfold itV at HFo HAd
      clear hx
      have z0 : wr.cell? ⟨ip, 0, none⟩ = some (.slice (some ⟨b1, o1, none⟩) n cp) := HPr.out.cells.1
      have HIr := Lib.hid (SlcAt.mono HA.out HPr.out.hb)
      rw [← Hn.out] at HIr
      cases hlg : It.legal l (b : Int) with
      | true =>
        have HOk : Hid (LineOk l a s b) := Lib.hid ⟨HMay.out, Hs.out, Hha.out, HbN.out, hlg, hsb, by rw [← Hi0.out]; exact hib, HF.out⟩
        have HT := Lib.hid (fun w => HTry.out b w HOk.out (by rw [Hi0.out]) (tab_range HMay.out HbN.out hsb))
        have HTF : Hid (∀ k q, k ≤ n → q < 4 → tryF l t tol a s b (tabR l t tol s (rowM l t tol s (b - s))) k q = tabR l t tol s (rowM l t tol s (b - s + 1)) k q) := Lib.hid (by
          have := tryF_tab (l := l) (t := t) (tol := tol) (m := b - s) Hs.out HMay.out
          rw [show s + (b - s) = b by omega, ← Hn.out] at this
          exact this)
        have c0 : wr.cell? ⟨S, 0, none⟩ = some (.int .i64 (It.sumG (It.glB l i0 b)).w) := Lib.cell_of_heap HSr.out 0
        have c1 : wr.cell? ⟨S, 1, none⟩ = some (.int .i64 (It.sumG (It.glB l i0 b)).k) := Lib.cell_of_heap HSr.out 1
        have c2 : wr.cell? ⟨S, 2, none⟩ = some (.int .i64 (It.sumG (It.glB l i0 b)).o0) := Lib.cell_of_heap HSr.out 2
        have c3 : wr.cell? ⟨S, 3, none⟩ = some (.int .i64 (It.sumG (It.glB l i0 b)).o1) := Lib.cell_of_heap HSr.out 3
        have c4 : wr.cell? ⟨S, 4, none⟩ = some (.int .i64 (It.sumG (It.glB l i0 b)).o2) := Lib.cell_of_heap HSr.out 4
        have c5 : wr.cell? ⟨S, 5, none⟩ = some (.int .i64 (It.sumG (It.glB l i0 b)).o3) := Lib.cell_of_heap HSr.out 5
        unfold smC at HT
        have HLr := Lib.hid (HLg.out _ HIr.out (b : Int))
        rw [hlg] at HLr
        clear hlg
        go_wp2_with fail
        refine HLr.out.mono ?_
        rintro e wg ⟨rfl, rfl⟩
        go_wp2_with fail
        refine (HT.out _ HPr.out).mono ?_
        rintro e wt ⟨rfl, hpt, hkt⟩
        have HPt := Lib.hid (hpt.congr HTF.out)
        have HSt2 : Hid (wt.heap[S]? = some (.cells (smC (It.sumG (It.glB l i0 b))) 80 (0, 0))) := Lib.hid (hkt S _ _ _ (HPr.out.offS HSr.out).1 (HPr.out.offS HSr.out).2 (by decide) HSr.out)
        clear hpt hkt c0 c1 c2 c3 c4 c5 z0
        skip
        obtain ⟨x0, x1, x2, x3, x4, x5, x6, x7, x8⟩ := it_cells ((HR.out b x Hx.out).mono HPt.out.hb)
        have z0 : wt.cell? ⟨ip, 0, none⟩ = some (.slice (some ⟨b1, o1, none⟩) n cp) := HPt.out.cells.1
        skip
        go_wp2_with fail
        refine (HFo.out _).mono ?_
        rintro e wf ⟨rfl, hbf⟩
        have HPf := Lib.hid (HPt.out.below hbf)
        have HSf := Lib.hid (obj_kept hbf HSt2.out)
        clear hbf x0 x1 x2 x3 x4 x5 x6 x7 x8 z0
        cases hq : It.forced x with
        | true =>
          have HE : Hid (rowM l t tol s (b - s + 1) = fun q : Nat => It.way l t tol s q) := Lib.hid (rowM_rest HsN.out (by have := HbN.out; omega) (fun c hc => It.cost_forced (a := (s : Int) - 1) (s := s) (by omega) Hx.out hq hsb (by omega) t tol))
          clear hq
          go_wp2
          (try simp only [Exit.inBlock, Exit.then])
          refine bodyPost_ret (results_none rfl _ _ _) rfl ?_
          exact ⟨rfl, by rw [← HE.out]; exact HPf.out⟩
        | false =>
          have HNF : Hid (((l.take (b + 1)).drop s).any It.forced = false) := Lib.hid (noforced_next Hx.out hsb HF.out hq)
          obtain ⟨x0, x1, x2, x3, x4, x5, x6, x7, x8⟩ := it_cells ((HR.out b x Hx.out).mono HPf.out.hb)
          have z0 : wf.cell? ⟨ip, 0, none⟩ = some (.slice (some ⟨b1, o1, none⟩) n cp) := HPf.out.cells.1
          clear hq
          go_wp2_with fail
          refine (HAd.out wf HSf.out).mono ?_
          rintro e wa ⟨rfl, hsa, hga⟩
          have HPa := Lib.hid (HPf.out.grownS hga HSf.out)
          have HSa : Hid (wa.heap[S]? = some (.cells (smC (It.sumG (It.glB l i0 (b + 1)))) 80 (0, 0))) := Lib.hid (by rw [← HSn.out]; exact hsa)
          clear hsa hga x0 x1 x2 x3 x4 x5 x6 x7 x8 z0
          have z1 : wa.cell? ⟨ip, 1, none⟩ = some (.int .i64 t) := HPa.out.cells.2.1
          have y0 : wa.cell? ⟨S, 0, none⟩ = some (.int .i64 (It.sumW (It.glB l i0 (b + 1)))) := Lib.cell_of_heap HSa.out 0
          have y1 : wa.cell? ⟨S, 1, none⟩ = some (.int .i64 (It.sumK (It.glB l i0 (b + 1)))) := Lib.cell_of_heap HSa.out 1
          obtain ⟨D, hD⟩ : ∃ D, D = It.sumW (It.glB l i0 (b + 1)) - It.sumK (It.glB l i0 (b + 1)) := ⟨_, rfl⟩
          have hDw : IntKind.i64.wrap (It.sumW (It.glB l i0 (b + 1)) - It.sumK (It.glB l i0 (b + 1))) = D := by have := HBn.out; rw [hD]; exact It.wr_in (by omega) (by omega)
          have HWD := Lib.hid (HWd.out D hD)
          clear hD
          generalize It.sumW (It.glB l i0 (b + 1)) = SW at y0 hDw
          generalize It.sumK (It.glB l i0 (b + 1)) = SK at y1 hDw
          by_cases hwd : t < D
          · have HE : Hid (rowM l t tol s (b - s + 1) = fun q : Nat => It.way l t tol s q) := Lib.hid (HWD.out hwd)
            go_wp2_with fail
            go_quiet (fail)
            go_wp2
            (try simp only [Exit.inBlock, Exit.then])
            refine bodyPost_ret (results_none rfl _ _ _) rfl ?_
            exact ⟨rfl, by rw [← HE.out]; exact HPa.out.below (below_drew _ _)⟩
          · go_wp2_with fail
            go_quiet (fail)
            have HPd := Lib.hid (HPa.out.below (below_drew wa nq))
            have HSd := Lib.hid (obj_kept (below_drew wa nq) HSa.out)
            go_wp2
            go_roundw
            case rel => exact ⟨b + 1, by omega, by omega, by go_num, by rw [hbs]; exact HPd, HSd, HNF⟩
            case measure => simp [intOf]; omega
      | false =>
        have HE : Hid (rowM l t tol s (b - s + 1) = rowM l t tol s (b - s)) := Lib.hid (rowM_none (It.cost_illegal (by rw [show s + (b - s) = b by omega]; exact hlg) _ t tol))
        have HPt : Hid (ParW (.slice (some ⟨b1, o1, none⟩) n cp) n t tol w0 ip bp (tabR l t tol s (rowM l t tol s (b - s + 1))) wr) := Lib.hid (by rw [HE.out]; exact HPr.out)
        have HLr := Lib.hid (HLg.out _ HIr.out (b : Int))
        rw [hlg] at HLr
        clear hlg
        go_wp2_with fail
        refine HLr.out.mono ?_
        rintro e wg ⟨rfl, rfl⟩
        clear z0
        skip
        obtain ⟨x0, x1, x2, x3, x4, x5, x6, x7, x8⟩ := it_cells ((HR.out b x Hx.out).mono HPt.out.hb)
        have z0 : wr.cell? ⟨ip, 0, none⟩ = some (.slice (some ⟨b1, o1, none⟩) n cp) := HPt.out.cells.1
        skip
        go_wp2_with fail
        refine (HFo.out _).mono ?_
        rintro e wf ⟨rfl, hbf⟩
        have HPf := Lib.hid (HPt.out.below hbf)
        have HSf := Lib.hid (obj_kept hbf HSr.out)
        clear hbf x0 x1 x2 x3 x4 x5 x6 x7 x8 z0
        cases hq : It.forced x with
        | true =>
          have HE : Hid (rowM l t tol s (b - s + 1) = fun q : Nat => It.way l t tol s q) := Lib.hid (rowM_rest HsN.out (by have := HbN.out; omega) (fun c hc => It.cost_forced (a := (s : Int) - 1) (s := s) (by omega) Hx.out hq hsb (by omega) t tol))
          clear hq
          go_wp2
          (try simp only [Exit.inBlock, Exit.then])
          refine bodyPost_ret (results_none rfl _ _ _) rfl ?_
          exact ⟨rfl, by rw [← HE.out]; exact HPf.out⟩
        | false =>
          have HNF : Hid (((l.take (b + 1)).drop s).any It.forced = false) := Lib.hid (noforced_next Hx.out hsb HF.out hq)
          obtain ⟨x0, x1, x2, x3, x4, x5, x6, x7, x8⟩ := it_cells ((HR.out b x Hx.out).mono HPf.out.hb)
          have z0 : wf.cell? ⟨ip, 0, none⟩ = some (.slice (some ⟨b1, o1, none⟩) n cp) := HPf.out.cells.1
          clear hq
          go_wp2_with fail
          refine (HAd.out wf HSf.out).mono ?_
          rintro e wa ⟨rfl, hsa, hga⟩
          have HPa := Lib.hid (HPf.out.grownS hga HSf.out)
          have HSa : Hid (wa.heap[S]? = some (.cells (smC (It.sumG (It.glB l i0 (b + 1)))) 80 (0, 0))) := Lib.hid (by rw [← HSn.out]; exact hsa)
          clear hsa hga x0 x1 x2 x3 x4 x5 x6 x7 x8 z0
          have z1 : wa.cell? ⟨ip, 1, none⟩ = some (.int .i64 t) := HPa.out.cells.2.1
          have y0 : wa.cell? ⟨S, 0, none⟩ = some (.int .i64 (It.sumW (It.glB l i0 (b + 1)))) := Lib.cell_of_heap HSa.out 0
          have y1 : wa.cell? ⟨S, 1, none⟩ = some (.int .i64 (It.sumK (It.glB l i0 (b + 1)))) := Lib.cell_of_heap HSa.out 1
          obtain ⟨D, hD⟩ : ∃ D, D = It.sumW (It.glB l i0 (b + 1)) - It.sumK (It.glB l i0 (b + 1)) := ⟨_, rfl⟩
          have hDw : IntKind.i64.wrap (It.sumW (It.glB l i0 (b + 1)) - It.sumK (It.glB l i0 (b + 1))) = D := by have := HBn.out; rw [hD]; exact It.wr_in (by omega) (by omega)
          have HWD := Lib.hid (HWd.out D hD)
          clear hD
          generalize It.sumW (It.glB l i0 (b + 1)) = SW at y0 hDw
          generalize It.sumK (It.glB l i0 (b + 1)) = SK at y1 hDw
          by_cases hwd : t < D
          · have HE : Hid (rowM l t tol s (b - s + 1) = fun q : Nat => It.way l t tol s q) := Lib.hid (HWD.out hwd)
            go_wp2_with fail
            go_quiet (fail)
            go_wp2
            (try simp only [Exit.inBlock, Exit.then])
            refine bodyPost_ret (results_none rfl _ _ _) rfl ?_
            exact ⟨rfl, by rw [← HE.out]; exact HPa.out.below (below_drew _ _)⟩
          · go_wp2_with fail
            go_quiet (fail)
            have HPd := Lib.hid (HPa.out.below (below_drew wa nq))
            have HSd := Lib.hid (obj_kept (below_drew wa nq) HSa.out)
            go_wp2
            go_roundw
            case rel => exact ⟨b + 1, by omega, by omega, by go_num, by rw [hbs]; exact HPd, HSd, HNF⟩
            case measure => simp [intOf]; omega
    · have hE : b = n := by omega
      have HE : Hid (rowM l t tol s (b - s) = fun q : Nat => It.way l t tol s q) := Lib.hid (rowM_rest (by rw [← Hn.out]; exact HsN.out) (by rw [← Hn.out]; have := HsN.out; omega) (fun c hc => It.cost_illegal (legal_far (by rw [← Hn.out]; have := HsN.out; omega)) _ t tol))
      have z0 : wr.cell? ⟨ip, 0, none⟩ = some (.slice (some ⟨b1, o1, none⟩) n cp) := HPr.out.cells.1
      go_wp2
      go_end0
      exact ⟨rfl, by rw [← HE.out]; exact HPr.out⟩
end Go.Proofs.Ytdimfmpolbijeaa
