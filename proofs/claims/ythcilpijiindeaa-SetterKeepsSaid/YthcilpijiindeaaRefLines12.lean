/-
  The reference's Lines.
-/
import Derived.Test.YthcilpijiindeaaRefLine12
import Derived.Test.YthcilpijiindeaaLines12
set_option linter.unusedVariables false
set_option linter.unusedSimpArgs false
namespace Go.Proofs.Ythcilpijiindeaa
open Go.RowKit

theorem ownL_low {B C : Nat} {v : Value} {l : List It.Lin} {w : World} (hC : C ≤ B) (h : OwnL B v l w) : OwnL C v l w := by
  obtain ⟨rs, h1, h2, h3⟩ := h
  exact ⟨rs, own_low h1 hC, h2, fun i r x hr hx => (h3 i r x hr hx).low hC⟩
set_option maxHeartbeats 8000000 in
set_option maxRecDepth 100000 in
theorem refLines_own (v vb : Value) (l : List It.Itm) (bs : List Int) (t : Int) (w : World) (hI : ItsAt w v l) (hN : NumsAt w vb bs) (hb : bs.length ≤ 100000) : Calls Try.prog 9 #[v, vb, .int .i64 t] w (LinesPostO (It.setR l bs t) w) := by
  have HM := Lib.hid (fun w h => refItMay_any v l w h)
  have HA := Lib.hid hI
  have HNb := Lib.hid (nums_ints hN)
  have HSe := Lib.hid (fun a b w (hlen : l.length ≤ 2000) h => refLine_any v l a b t w h hlen)
  have HSr := Lib.hid (fun a b s w (hlen : l.length ≤ 2000) hr h hz => refLine12_any v l a b t s w h hlen hr hz)
  obtain ⟨⟨p, cp, rfl, hcap⟩, hm, _⟩ := hI
  obtain ⟨⟨pb, cb, rfl, hcapb⟩, hmb, _⟩ := hN
  have hzl : l.length ≤ 9223372036854775807 := by unfold maxLen at hm; omega
  obtain ⟨P, hP⟩ : ∃ P, P = w.heap.size := ⟨_, rfl⟩
  obtain ⟨W1, hW1⟩ : ∃ W1, W1 = w.alloc (.cells #[.int .i64 0, .int .i64 0] 28) := ⟨_, rfl⟩
  have hb1 := below_alloc w (.cells #[.int .i64 0, .int .i64 0] 28)
  have HX1 := Lib.hid (obj_new w _ rfl #[.int .i64 0, .int .i64 0] 28)
  rw [← hW1] at hb1 HX1
  rw [← hP] at HX1
  have HB1 := Lib.hid hb1
  have HA1 := Lib.hid (SlcAt.mono HA.out hb1)
  obtain ⟨R, hR⟩ : ∃ R, R = It.setR l bs t := ⟨_, rfl⟩
  have HR := Lib.hid hR
  rw [← hR]
  clear hR
  obtain ⟨n, hn⟩ : ∃ n, n = l.length := ⟨_, rfl⟩
  obtain ⟨nb, hnb⟩ : ∃ n, n = bs.length := ⟨_, rfl⟩
  have Hn := Lib.hid hn
  have Hnb := Lib.hid hnb
  have HPw := Lib.hid hP
  rw [← hn] at HM HSe HSr HA HA1 hzl ⊢
  rw [← hnb] at HNb hb ⊢
  clear hb1 hcap hm hcapb hmb hn hnb
  cases hmay : It.may l with
  | false =>
    have HE : Hid (R = ([], 90, 0)) := Lib.hid (by rw [HR.out]; unfold It.setR; rw [if_pos hmay])
    rw [hmay] at HM
    clear hmay
    go_enter Try.func9, Try.ntmps9
    go_upto_region 1 with fail
    rw [← hW1, ← hP]
    clear hW1 hP
    go_wp2_with fail
    refine (HM.out _ HA1.out).mono ?_
    rintro e w2 ⟨rfl, hb2⟩
    have HX2 := Lib.hid (obj_kept hb2 HX1.out)
    have HB2 := Lib.hid (below_step HB1.out hb2)
    clear hb2
    have q0 : w2.cell? ⟨P, 0, none⟩ = some (.int .i64 0) := Lib.cell_of_heap HX2.out 0
    have q1 : w2.cell? ⟨P, 1, none⟩ = some (.int .i64 0) := Lib.cell_of_heap HX2.out 1
    have f0 := Lib.frozen_of_heap HX2.out 0
    have f1 := Lib.frozen_of_heap HX2.out 1
    have H2 := Lib.hid (putF_obj HX2.out 90 0)
    have HG := Lib.hid (putF_grown w2 P 90 0)
    unfold putF at H2 HG
    go_wp2
    obtain ⟨WX, hWX⟩ : ∃ WX, WX = (w2.setCell ⟨P, 0, none⟩ (.int .i64 90)).setCell ⟨P, 1, none⟩ (.int .i64 0) := ⟨_, rfl⟩
    rw [← hWX] at H2 HG ⊢
    clear hWX q0 q1
    have q0 := Lib.cell_of_heap H2.out 0
    have q1 := Lib.cell_of_heap H2.out 1
    rw [HE.out]
    exact bodyPost_ret (v := .tuple #[.slice none 0 0, .agg #[.int .i64 90, .int .i64 0]]) (by simp [results, Try.results9, go_sem, q0, q1]) rfl ⟨_, rfl, ownL_nil _ _, HB2.out.grown HG.out HB2.out.size (fun j hj => by cases hj; rw [HPw.out]; exact Nat.le_refl _)⟩
  | true =>
    have HE : Hid (It.goL l t (-1) 0 [] (bs.drop 0) = R) := Lib.hid (by rw [HR.out, List.drop_zero]; unfold It.setR; rw [if_neg (by rw [hmay]; decide)])
    have hlen := (It.may_yes hmay).1
    rw [hmay] at HM
    rw [← Hn.out] at hlen
    have hright := (It.may_yes hmay).2.1
    have HSl := Lib.hid (fun a b w h => HSe.out a b w hlen h)
    have HSq := Lib.hid (fun a b s w h hz => HSr.out a b s w hlen hright h hz)
    clear hmay HSe HSr hright
    go_enter Try.func9, Try.ntmps9
    go_upto_region 1 with fail
    rw [← hW1, ← hP]
    clear hW1 hP
    go_wp2_with fail
    refine (HM.out _ HA1.out).mono ?_
    rintro e w2 ⟨rfl, hb2⟩
    have HX2 := Lib.hid (obj_kept hb2 HX1.out)
    have HB2 := Lib.hid (below_step HB1.out hb2)
    clear hb2
    have HO3 := Lib.hid (ownL_low HB2.out.size (ownL_empty w2))
    have HX3 := Lib.hid (obj_kept (below_alloc w2 (.cells #[] 44)) HX2.out)
    have HB3 := Lib.hid (below_step HB2.out (below_alloc w2 (.cells #[] 44)))
    go_wp2_with fail
    go_loopw [8, 9, 10] (fun lv av kv wr => ∃ k : Nat, k ≤ nb ∧ kv = .int .i64 k ∧ ∃ (a : Int) (ls : List It.Lin), av = .int .i64 a ∧ Hid (It.goL l t a k ls (bs.drop k) = R) ∧ Hid (ls.length = k) ∧ Hid (OwnL w.heap.size lv ls wr) ∧ Hid (wr.heap[P]? = some (.cells #[.int .i64 0, .int .i64 0] 28 (0, 0))) ∧ Hid (Below w.heap.size w wr)) (fun _ _ kv _ => nb - (intOf kv).toNat)
    case atStart => exact ⟨0, Nat.zero_le _, rfl, -1, [], rfl, HE, rfl, HO3, HX3, HB3⟩
    case round =>
      obtain ⟨k, hk, rfl, a, ls, rfl, HG, HL, HO, HX, HB⟩ := hrel
      clear HE HX2 HB2 HA1 HX1 HB1 HO3 HX3 HB3
      by_cases hlt : k < nb
      · obtain ⟨b1, o1, d1, e1, r1⟩ := HNb.out.2.2 (by rw [← Hnb.out]; omega)
        rw [← Hnb.out] at e1
        obtain ⟨rfl, rfl⟩ : pb = some ⟨b1, o1, none⟩ ∧ cb = d1 := by injection e1 with a1 a2 a3; exact ⟨a1, a3⟩
        obtain ⟨b, hbk⟩ : ∃ b, bs[k]? = some b := ⟨_, List.getElem?_eq_getElem (by rw [← Hnb.out]; exact hlt)⟩
        have y0 := cell_below HB.out (r1 k b hbk)
        have Y0 := Lib.hid (r1 k b hbk)
        have k0 : (0 : Int) ≤ (k : Int) := by omega
        have kl : (k : Int) < (nb : Int) := by omega
        have HD := Lib.hid (It.drop_at hbk)
        clear e1 r1 hbk
        have HSx := Lib.hid (HSl.out a b wr (SlcAt.mono HA.out HB.out))
        cases hx : It.lineOf l a b t with
        | none =>
          have HE : Hid (R = ([], 120, (k : Int))) := Lib.hid (by rw [← HG.out, HD.out]; unfold It.goL; rw [linV_none hx])
          rw [hx] at HSx
          unfold setV at HSx
          simp only [] at HSx
          clear hx
          go_wp2_with fail
          refine HSx.out.mono ?_
          rintro e w3 ⟨rfl, hb3⟩
          have HX4 := Lib.hid (obj_kept (below_step hb3 (below_alloc w3 (.cells #[.int .i64 0, .int .i64 0, .int .i64 0, .int .i64 0] 56))) HX.out)
          have HB4 := Lib.hid (below_step HB.out (below_step hb3 (below_alloc w3 (.cells #[.int .i64 0, .int .i64 0, .int .i64 0, .int .i64 0] 56))))
          obtain ⟨W4, hW4⟩ : ∃ W, W = w3.alloc (.cells #[.int .i64 0, .int .i64 0, .int .i64 0, .int .i64 0] 56) := ⟨_, rfl⟩
          rw [← hW4] at HX4 HB4
          clear hb3
          go_upto_region 9 with fail
          rw [← hW4]
          clear hW4
          have q0 : W4.cell? ⟨P, 0, none⟩ = some (.int .i64 0) := Lib.cell_of_heap HX4.out 0
          have q1 : W4.cell? ⟨P, 1, none⟩ = some (.int .i64 0) := Lib.cell_of_heap HX4.out 1
          have f0 := Lib.frozen_of_heap HX4.out 0
          have f1 := Lib.frozen_of_heap HX4.out 1
          have H2 := Lib.hid (putF_obj HX4.out 120 (k : Int))
          have HGg := Lib.hid (putF_grown W4 P 120 (k : Int))
          unfold putF at H2 HGg
          go_wp2
          obtain ⟨WX, hWX⟩ : ∃ WX, WX = (W4.setCell ⟨P, 0, none⟩ (.int .i64 120)).setCell ⟨P, 1, none⟩ (.int .i64 (k : Int)) := ⟨_, rfl⟩
          rw [← hWX] at H2 HGg ⊢
          clear hWX q0 q1
          have q0 := Lib.cell_of_heap H2.out 0
          have q1 := Lib.cell_of_heap H2.out 1
          rw [HE.out]
          exact bodyPost_ret (v := .tuple #[.slice none 0 0, .agg #[.int .i64 120, .int .i64 (k : Int)]]) (by simp [results, Try.results9, go_sem, q0, q1]) rfl ⟨_, rfl, ownL_nil _ _, HB4.out.grown HGg.out HB4.out.size (fun j hj => by cases hj; rw [HPw.out]; exact Nat.le_refl _)⟩
        | some s =>
          have HE : Hid (It.goL l t b (k + 1) (ls ++ [It.linS l a b s]) (bs.drop (k + 1)) = R) := Lib.hid (by rw [← HG.out, HD.out]; conv => rhs; unfold It.goL; rw [linV_of hx])
          have HSy := Lib.hid (fun wx h => HSq.out a b s wx h hx)
          rw [hx] at HSx
          unfold setV stgV at HSx
          simp only [] at HSx
          clear hx
          generalize It.linS l a b s = x at HE HSy
          go_wp2_with fail
          refine HSx.out.mono ?_
          rintro e w3 ⟨rfl, hb3⟩
          have HXs := Lib.hid (obj_kept (below_step hb3 (below_alloc w3 (.cells #[.int .i64 s.sg, .int .i64 s.o, .int .i64 s.e, .int .i64 s.bad] 56))) HX.out)
          have HBs := Lib.hid (below_step HB.out (below_step hb3 (below_alloc w3 (.cells #[.int .i64 s.sg, .int .i64 s.o, .int .i64 s.e, .int .i64 s.bad] 56))))
          have HOs := Lib.hid (OwnL.mono HO.out (below_step hb3 (below_alloc w3 (.cells #[.int .i64 s.sg, .int .i64 s.o, .int .i64 s.e, .int .i64 s.bad] 56))))
          obtain ⟨WS, hWS⟩ : ∃ W, W = w3.alloc (.cells #[.int .i64 s.sg, .int .i64 s.o, .int .i64 s.e, .int .i64 s.bad] 56) := ⟨_, rfl⟩
          rw [← hWS] at HXs HBs HOs
          clear hb3
          go_upto_region 9 with fail
          rw [← hWS]
          clear hWS
          have y1 := cell_below HBs.out Y0.out
          go_wp2_with fail
          refine (HSy.out _ (SlcAt.mono HA.out HBs.out)).mono ?_
          rintro e W4 ⟨r, rfl, hr, hb4⟩
          unfold lrV
          have HX4 := Lib.hid (obj_kept hb4 HXs.out)
          have HB4 := Lib.hid (below_step HBs.out hb4)
          have HO4 := Lib.hid (OwnL.mono HOs.out hb4)
          have HR4 := Lib.hid (hr.low HBs.out.size)
          clear hb4 hr
          obtain ⟨rs, ho1, ho2, ho3⟩ := HO4.out
          have hbe := below_alloc W4 (.cells #[.int .i64 r.fr, .int .i64 r.en, .slice r.a r.n r.c, .bool r.hy, .int .i64 r.x, .int .i64 r.bad] 44)
          have HRe := Lib.hid (HR4.out.mono hbe)
          have HXe := Lib.hid (obj_kept hbe HX4.out)
          have HBe := Lib.hid (below_step HB4.out hbe)
          have HO1 := Lib.hid (OwnR.mono ho1 hbe)
          have HO2 := Lib.hid ho2
          have HO3 := Lib.hid (fun i r x hr hx => (ho3 i r x hr hx).mono hbe)
          have HNe := Lib.hid (slc_new lrC_len W4 _ rfl [r] 44 (by simp) #[.int .i64 r.fr, .int .i64 r.en, .slice r.a r.n r.c, .bool r.hy, .int .i64 r.x, .int .i64 r.bad] rfl)
          have hrl : rs.length = k := by rw [ho2, HL.out]
          have hze := HBe.out.size
          clear hbe ho1 ho2 ho3
          go_wp2_with (at_builtin; refine wpList_append_slc Try.underlying25 infoLn rfl (by decide) lrC_len lrC_cell rfl _ _ rfl w.heap.size _ _ rs [r] rfl HO1.out rfl HNe.out (by rw [hrl]; simp; omega) (by rw [hrl]; unfold maxLen; simp; omega) hze ?_; intro v9 w9 h9 hg9; have HO9 := Lib.hid (OwnL.app HO1.out HO2.out HO3.out HRe.out h9 hg9);  have HX9 := Lib.hid (obj_far HXe.out hg9 (own_off9 HO1.out HXe.out (by decide))); have HB9 := Lib.hid (below_app HBe.out hg9 HO1.out hze); have y9 := cell_below HB9.out Y0.out; clear h9 hg9)
          go_roundw
          case rel => exact ⟨k + 1, by omega, by go_num, b, ls ++ [x], rfl, HE, Lib.hid (by rw [List.length_append, HL.out]; rfl), HO9, HX9, HB9⟩
          case measure => simp [intOf]; omega
      · obtain rfl : k = nb := by omega
        have HD : Hid (bs.drop k = []) := Lib.hid (List.drop_of_length_le (by rw [← Hnb.out]; exact Nat.le_refl _))
        have HE : Hid ((if k = 0 ∨ a ≠ (n : Int) - 1 then (([], 120, (k : Int)) : List It.Lin × Int × Int) else (ls, 0, 0)) = R) := Lib.hid (by rw [← HG.out, HD.out, Hn.out]; rfl)
        have hw1 : wrap64 ((n : Int) - 1) = (n : Int) - 1 := w64 (by omega) (by omega)
        have q0 : wr.cell? ⟨P, 0, none⟩ = some (.int .i64 0) := Lib.cell_of_heap HX.out 0
        have q1 : wr.cell? ⟨P, 1, none⟩ = some (.int .i64 0) := Lib.cell_of_heap HX.out 1
        have f0 := Lib.frozen_of_heap HX.out 0
        have f1 := Lib.frozen_of_heap HX.out 1
        obtain ⟨av, cv, rfl⟩ := ownL_form HO.out
        by_cases h0 : k = 0
        · subst h0
          have HE2 : Hid (R = ([], 120, 0)) := Lib.hid (by rw [← HE.out, if_pos (.inl rfl)]; rfl)
          have H2 := Lib.hid (putF_obj HX.out 120 0)
          have HGg := Lib.hid (putF_grown wr P 120 0)
          unfold putF at H2 HGg
          go_wp2
          obtain ⟨WX, hWX⟩ : ∃ WX, WX = (wr.setCell ⟨P, 0, none⟩ (.int .i64 120)).setCell ⟨P, 1, none⟩ (.int .i64 0) := ⟨_, rfl⟩
          rw [← hWX] at H2 HGg ⊢
          clear hWX q0 q1
          have q0 := Lib.cell_of_heap H2.out 0
          have q1 := Lib.cell_of_heap H2.out 1
          rw [HE2.out]
          exact bodyPost_ret (v := .tuple #[.slice none 0 0, .agg #[.int .i64 120, .int .i64 0]]) (by simp [results, Try.results9, go_sem, q0, q1]) rfl ⟨_, rfl, ownL_nil _ _, HB.out.grown HGg.out HB.out.size (fun j hj => by cases hj; rw [HPw.out]; exact Nat.le_refl _)⟩
        · have hk0 : ¬ ((k : Int) = 0) := by omega
          by_cases ha : a = (n : Int) - 1
          · have HE2 : Hid (R = (ls, 0, 0)) := Lib.hid (by rw [← HE.out, if_neg (by omega)])
            have H2 := Lib.hid (putF_obj HX.out 0 0)
            have HGg := Lib.hid (putF_grown wr P 0 0)
            have HLf := Lib.hid (ownL_far HO.out HGg.out ⟨_, _, HX.out⟩)
            unfold putF at H2 HGg HLf
            go_wp2
            obtain ⟨WX, hWX⟩ : ∃ WX, WX = (wr.setCell ⟨P, 0, none⟩ (.int .i64 0)).setCell ⟨P, 1, none⟩ (.int .i64 0) := ⟨_, rfl⟩
            rw [← hWX] at H2 HGg HLf ⊢
            clear hWX q0 q1
            have q0 := Lib.cell_of_heap H2.out 0
            have q1 := Lib.cell_of_heap H2.out 1
            rw [HE2.out]
            exact bodyPost_ret (v := .tuple #[.slice av ls.length cv, .agg #[.int .i64 0, .int .i64 0]]) (by simp [results, Try.results9, go_sem, q0, q1]) rfl ⟨_, rfl, HLf.out, HB.out.grown HGg.out HB.out.size (fun j hj => by cases hj; rw [HPw.out]; exact Nat.le_refl _)⟩
          · have HE2 : Hid (R = ([], 120, (k : Int))) := Lib.hid (by rw [← HE.out, if_pos (.inr ha)])
            have hne : (a != (n : Int) - 1) = true := by simpa using ha
            have hkb : ((k : Int) == 0) = false := by simpa using h0
            have H2 := Lib.hid (putF_obj HX.out 120 (k : Int))
            have HGg := Lib.hid (putF_grown wr P 120 (k : Int))
            unfold putF at H2 HGg
            go_wp2
            obtain ⟨WX, hWX⟩ : ∃ WX, WX = (wr.setCell ⟨P, 0, none⟩ (.int .i64 120)).setCell ⟨P, 1, none⟩ (.int .i64 (k : Int)) := ⟨_, rfl⟩
            rw [← hWX] at H2 HGg ⊢
            clear hWX q0 q1
            have q0 := Lib.cell_of_heap H2.out 0
            have q1 := Lib.cell_of_heap H2.out 1
            rw [HE2.out]
            exact bodyPost_ret (v := .tuple #[.slice none 0 0, .agg #[.int .i64 120, .int .i64 (k : Int)]]) (by simp [results, Try.results9, go_sem, q0, q1]) rfl ⟨_, rfl, ownL_nil _ _, HB.out.grown HGg.out HB.out.size (fun j hj => by cases hj; rw [HPw.out]; exact Nat.le_refl _)⟩
theorem refLines_any (v vb : Value) (l : List It.Itm) (bs : List Int) (t : Int) (w : World) (hI : ItsAt w v l) (hN : NumsAt w vb bs) (hb : bs.length ≤ 100000) : Calls Try.prog 9 #[v, vb, .int .i64 t] w (LinesPost (It.setR l bs t) w) := (refLines_own v vb l bs t w hI hN hb).mono fun _ _ h => h.post
end Go.Proofs.Ythcilpijiindeaa
