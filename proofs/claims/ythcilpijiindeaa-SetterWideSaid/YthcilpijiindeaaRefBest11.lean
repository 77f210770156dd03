/-
  The reference's Best: the best breaks, by definition.
-/
import Derived.Test.YthcilpijiindeaaWaysM12
import Derived.Test.YthcilpijiindeaaRefCost10
set_option linter.unusedVariables false
set_option linter.unusedSimpArgs false
namespace Go.Proofs.Ythcilpijiindeaa
open Go.RowKit

theorem refbest_no {l : List It.Itm} {t tol : Int} (h : It.may l = false ∨ l.length = 0) : bestW l t tol = none := by
  unfold bestW
  rw [if_neg]
  intro e
  rcases h with h | h
  · rw [h] at e; cases e.1
  · omega
theorem band3 (m : Nat) (h : m < 4) : bits BinOp.and IntKind.i64 (m : Int) 3 = (m : Int) := by
  obtain rfl | rfl | rfl | rfl : m = 0 ∨ m = 1 ∨ m = 2 ∨ m = 3 := by omega
  all_goals decide
/-- what a way's record holds -/
def WayIs (B X : Nat) (r : It.Way) (w : World) : Prop := ∃ a m c, w.heap[X]? = some (.cells #[.bool r.isSome, .int .i64 (bz r), .slice a m c] 80 (0, 0)) ∧ OwnN B (.slice a m c) (bl r) w
theorem way_last (l : List It.Itm) (t tol : Int) {b : Nat} (q : Int) (h : b + 1 = l.length) : It.way l t tol (b + 1) q = some (0, 0, []) := by rw [h]; exact It.way_end l t tol q

set_option maxHeartbeats 16000000 in
set_option maxRecDepth 100000 in
theorem refBest_any (v : Value) (l : List It.Itm) (t tol : Int) (w : World) (hI : ItsAt w v l) : Calls Try.prog 25 #[v, .int .i64 t, .int .i64 tol] w (BestPost (bestW l t tol) w) := by
  have HA := Lib.hid hI
  have HM := Lib.hid (fun w h => refItMay_any v l w h)
  obtain ⟨⟨p, cp, rfl, hcap⟩, hm, _⟩ := hI
  have hza : l.length ≤ 9223372036854775807 := by unfold maxLen at hm; omega
  cases hmay : It.may l with
  | false =>
    have hE := refbest_no (t := t) (tol := tol) (.inl hmay)
    rw [hE]
    rw [hmay] at HM
    obtain ⟨n, hn⟩ : ∃ n, n = l.length := ⟨_, rfl⟩
    have hA' := HA.out
    rw [← hn] at HM hza hA' ⊢
    have HA' := Lib.hid hA'
    clear hn hmay hE hcap hm hA'
    unfold BestPost bz bl
    go_enter Try.func25, Try.ntmps25
    go_wp2_with fail
    refine (HM.out _ HA'.out).mono ?_
    rintro e w1 ⟨rfl, hb1⟩
    have HB1 := Lib.hid hb1
    clear hb1
    go_wp2
    go_ret3
    exact ⟨_, rfl, ownR_nil _ _ _ _ _, HB1.out⟩
  | true =>
    rw [hmay] at HM
    by_cases h0 : l.length = 0
    · have hE := refbest_no (t := t) (tol := tol) (.inr h0)
      rw [hE]
      rw [h0] at HM ⊢
      have hA' := HA.out
      rw [h0] at hA'
      have HA' := Lib.hid hA'
      clear hmay hE hcap hm hA'
      unfold BestPost bz bl
      go_enter Try.func25, Try.ntmps25
      go_wp2_with fail
      refine (HM.out _ HA'.out).mono ?_
      rintro e w1 ⟨rfl, hb1⟩
      have HB1 := Lib.hid hb1
      clear hb1
      go_wp2
      go_ret3
      exact ⟨_, rfl, ownR_nil _ _ _ _ _, HB1.out⟩
    · have hE : bestW l t tol = It.way l t tol 0 2 := by unfold bestW; rw [if_pos ⟨hmay, by omega⟩]
      rw [hE]
      have hlen := (It.may_yes hmay).1
      have HMay := Lib.hid hmay
      have hln : 0 < l.length := by omega
      have HLg := Lib.hid (fun w h b => refLegal_any (.slice p l.length cp) l b w h)
      have HCo := Lib.hid (fun a b w h => refCost_any (.slice p l.length cp) l a b t tol w h hlen)
      have HSt := Lib.hid (refM_start l t tol)
      obtain ⟨n, hn⟩ : ∃ n, n = l.length := ⟨_, rfl⟩
      have Hn := Lib.hid hn
      rw [← hn] at HM HLg HCo HSt hza hlen hln ⊢
      have hA' := HA.out
      rw [← hn] at hA'
      have HA' := Lib.hid hA'
      have hn0 : ((n : Int) == 0) = false := by simp; omega
      have hn1 : ¬ (n : Int) = 0 := by omega
      clear h0 hmay hE hcap hm hA' hn
      go_enter Try.func25, Try.ntmps25
      go_wp2_with fail
      refine (HM.out _ HA'.out).mono ?_
      rintro e w1 ⟨rfl, hb1⟩
      have HB1 := Lib.hid hb1
      clear hb1
      obtain ⟨i0, hi0, hz0, hz1, hz2⟩ := info_parts infoWy11
      obtain ⟨W4, hrun, hown4, hg4⟩ := run_make_full (P := Try.prog) w1 w.heap.size 76 81 i0 _ 12 Try.underlying76 hi0 hz0 hz1 .i64 .i64 (n + 1) (by rw [hz2]; omega) (by unfold maxLen; omega) HB1.out.size
      have hrun' : (Instr.makeSlice 76 (.int .i64 ((n : Int) + 1)) (.int .i64 ((n : Int) + 1))).run Try.prog w1 = .ok (.slice (some ⟨w1.heap.size, 0, none⟩) (n + 1) (n + 1)) W4 := hrun
      have HW4 : Hid (WaysAt w.heap.size w1.heap.size n (refM l t tol (n + 1)) W4) := Lib.hid ((WaysAt.made hown4).congr (by have := HSt.out; rw [Hn.out]; rw [Hn.out] at this; exact this))
      have HB4 : Hid (Below w.heap.size w W4) := Lib.hid (HB1.out.grown (row := none) hg4 HB1.out.size (fun q h => by cases h))
      have hbw : w.heap.size ≤ w1.heap.size := HB1.out.size
      clear hown4 hg4 hrun hi0 hz0 hz1 hz2
      obtain ⟨bw, hbp⟩ : ∃ bw, bw = w1.heap.size := ⟨_, rfl⟩
      rw [← hbp] at hrun' HW4 hbw
      go_upto_region 5 with fail
      rw [← hbp]
      clear hrun' hbp
      go_wp2_with fail
      go_loopw [11] (fun av wr => ∃ (a : Int) (m : Nat), a + 2 = (m : Int) ∧ m ≤ n + 1 ∧ av = .int .i64 a ∧ Hid (WaysAt w.heap.size bw n (refM l t tol m) wr) ∧ Hid (Below w.heap.size w wr)) (fun av _ => (intOf av + 2).toNat)
      case atStart => exact ⟨(n : Int) - 1, n + 1, by omega, Nat.le_refl _, by go_num, HW4, HB4⟩
      case round =>
        obtain ⟨a, m, ham, hmn, rfl, HWr, HBr⟩ := hrel
        clear HW4 HB4
        have haw : IntKind.i64.wrap (a - 1) = a - 1 := It.wr_in (by omega) (by omega)
        by_cases hge : -1 ≤ a
        · obtain ⟨s, rfl⟩ : ∃ s, m = s + 1 := ⟨m - 1, by omega⟩
          have hsn : s ≤ n := by omega
          have has : a + 1 = (s : Int) := by omega
          by_cases hlg : 0 ≤ a ∧ It.legal l a = false
          · have HIr := Lib.hid (SlcAt.mono HA'.out HBr.out)
            have HLr := Lib.hid (HLg.out wr HIr.out a)
            rw [hlg.2] at HLr
            have h0a := hlg.1
            have HW7 : Hid (WaysAt w.heap.size bw n (refM l t tol s) wr) := Lib.hid (by
              have e : It.legal l ((s : Int) - 1) = false := by rw [show (s : Int) - 1 = a by omega]; exact hlg.2
              rw [← refM_skip e (by omega)]
              exact HWr.out)
            clear hlg
            go_wp2_with fail
            refine HLr.out.mono ?_
            rintro e wg ⟨rfl, rfl⟩
            go_wp2
            go_roundw
            case rel => exact ⟨a - 1, s, by omega, by omega, by go_num, HW7, HBr⟩
            case measure => simp [intOf]; omega
          · by_cases h0a : 0 ≤ a
            · have hlt : It.legal l a = true := by
                cases e : It.legal l a with
                | true => rfl
                | false => exact absurd ⟨h0a, e⟩ hlg
              have HIr := Lib.hid (SlcAt.mono HA'.out HBr.out)
              have HLr := Lib.hid (HLg.out wr HIr.out a)
              rw [hlt] at HLr
              clear hlg hlt
              go_wp2_with fail
              refine HLr.out.mono ?_
              rintro e wg ⟨rfl, rfl⟩
              go_wp2_with fail
              go_loopw [12] (fun bv wr => ∃ b : Nat, s ≤ b ∧ b ≤ n ∧ bv = .int .i64 b ∧ Hid (WaysAt w.heap.size bw n (refR l t tol s (rowM l t tol s (b - s))) wr) ∧ Hid (Below w.heap.size w wr)) (fun bv _ => n - (intOf bv).toNat)
              case atStart => exact ⟨s, Nat.le_refl _, hsn, by rw [← has], Lib.hid (by rw [Nat.sub_self, rowM_zero, ← refM_row]; exact HWr.out), HBr⟩
              case round =>
                obtain ⟨b, hsb, hbn, rfl, HWb, HBb⟩ := hrel
                clear HWr HBr
                by_cases hlt : b < n
                · have hbs : b + 1 - s = b - s + 1 := by omega
                  have k0 : (0 : Int) ≤ (b : Int) := by omega
                  have HIb := Lib.hid (SlcAt.mono HA'.out HBb.out)
                  have HCb := Lib.hid (HCo.out a (b : Int) wr HIb.out)
                  cases hc : It.costOf l a (b : Int) t tol with
                  | none =>
                    have HWn : Hid (WaysAt w.heap.size bw n (refR l t tol s (rowM l t tol s (b - s + 1))) wr) := Lib.hid (by
                      rw [rowM_none (by rw [show (s : Int) - 1 = a by omega, show s + (b - s) = b by omega]; exact hc)]
                      exact HWb.out)
                    rw [hc] at HCb
                    unfold costV at HCb
                    clear hc
                    go_wp2_with fail
                    refine HCb.out.mono ?_
                    rintro e w2 ⟨rfl, hb2⟩
                    have HW2 := Lib.hid (HWn.out.below hb2)
                    have HB2 := Lib.hid (below_step HBb.out hb2)
                    clear hb2
                    go_wp2
                    go_roundw
                    case rel => exact ⟨b + 1, by omega, by omega, by go_num, Lib.hid (by rw [hbs]; exact HW2.out), HB2⟩
                    case measure => simp [intOf]; omega
                  | some dc =>
                    obtain ⟨d, c⟩ := dc
                    obtain ⟨hdr, hc0, hc3⟩ := It.cost_range HMay.out hc
                    obtain ⟨mc, rfl⟩ : ∃ mc : Nat, c = (mc : Int) := ⟨c.toNat, by omega⟩
                    have hm4 : mc < 4 := by omega
                    have Hc := Lib.hid hc
                    have hband := band3 mc hm4
                    have m0 : (0 : Int) ≤ (mc : Int) := by omega
                    have m4 : (mc : Int) < 4 := by omega
                    have kb0 : (0 : Int) ≤ (b : Int) + 1 := by omega
                    have kbl : (b : Int) + 1 < (n : Int) + 1 := by omega
                    rw [hc] at HCb
                    unfold costV at HCb
                    simp only [] at HCb
                    clear hc
                    go_wp2_with fail
                    refine HCb.out.mono ?_
                    rintro e w2 ⟨rfl, hb2⟩
                    have HW2 := Lib.hid (HWb.out.below hb2)
                    have HB2 := Lib.hid (below_step HBb.out hb2)
                    clear hb2 HWb HBb
                    obtain ⟨pa, pm, pc, g0, g1, g2, g3⟩ := HW2.out.rec (k := b + 1) (q := mc) (by omega) hm4
                    have yrange : ∀ {y}, It.way l t tol (b + 1) (mc : Int) = some y → -700000000000 ≤ y.1 ∧ y.1 ≤ 700000000000 := fun {y} h => by
                      have := It.way_range HMay.out t tol (l.length - (b + 1)) (b + 1) mc y (by rw [← Hn.out]; omega) h
                      rw [← Hn.out] at this
                      omega
                    by_cases hlast : b + 1 = n
                    · have eR : refR l t tol s (rowM l t tol s (b - s)) (b + 1) mc = none := by unfold refR; rw [if_pos (by rw [← Hn.out]; exact hlast)]
                      rw [eR] at g0 g1
                      simp only [Option.isSome, bz] at g0 g1
                      obtain ⟨y, hy⟩ : ∃ y : Int × Int × List Int, y = (0, 0, []) := ⟨_, rfl⟩
                      have Hy : Hid (It.way l t tol (b + 1) (mc : Int) = some y) := Lib.hid (by rw [hy]; exact way_last l t tol _ (by rw [← Hn.out]; exact hlast))
                      have HLen : Hid (y.2.2.length ≤ 4000) := Lib.hid (by rw [hy]; simp)
                      have hb3 := below_alloc w2 (.cells #[.bool true, .int .i64 0, .slice none 0 0] 80)
                      have HWz := Lib.hid (HW2.out.below hb3)
                      have HXz : Hid ((w2.alloc (.cells #[.bool true, .int .i64 0, .slice none 0 0] 80)).heap[w2.heap.size]? = some (.cells #[.bool true, .int .i64 y.1, .slice none 0 0] 80 (0, 0))) := Lib.hid (by rw [hy]; exact obj_new w2 _ rfl _ _)
                      have HOz : Hid (OwnN w.heap.size (.slice none 0 0) y.2.2 (w2.alloc (.cells #[.bool true, .int .i64 0, .slice none 0 0] 80))) := Lib.hid (by rw [hy]; exact ownR_nil _ _ _ _ _)
                      have HBz := Lib.hid (below_step HB2.out hb3)
                      have hbn1 : ((b : Int) == (n : Int) - 1) = true := by simp; omega
                      obtain ⟨Wz, hWz⟩ : ∃ Wz, Wz = w2.alloc (.cells #[.bool true, .int .i64 0, .slice none 0 0] 80) := ⟨_, rfl⟩
                      rw [← hWz] at HWz HXz HOz HBz
                      obtain ⟨X, hX⟩ : ∃ X, X = w2.heap.size := ⟨_, rfl⟩
                      rw [← hX] at HXz
                      obtain ⟨va, hva⟩ : ∃ va : Option Addr, va = none := ⟨_, rfl⟩
                      obtain ⟨vm, hvm⟩ : ∃ vm : Nat, vm = 0 := ⟨_, rfl⟩
                      obtain ⟨vc, hvc⟩ : ∃ vc : Nat, vc = 0 := ⟨_, rfl⟩
                      have HXz' : Hid (Wz.heap[X]? = some (.cells #[.bool true, .int .i64 y.1, .slice va vm vc] 80 (0, 0))) := Lib.hid (by rw [hva, hvm, hvc]; exact HXz.out)
                      have HOz' : Hid (OwnN w.heap.size (.slice va vm vc) y.2.2 Wz) := Lib.hid (by rw [hva, hvm, hvc]; exact HOz.out)
                      clear HXz HOz hva hvm hvc
                      have HXz := HXz'
                      have HOz := HOz'
                      clear HXz' HOz'
                      clear hb3 eR g3 hy hlast
                      have x0 : Wz.cell? ⟨X, 0, none⟩ = some (.bool true) := Lib.cell_of_heap HXz.out 0
                      go_upto_region 17 with fail
                      rw [← hWz, ← hX]
                      clear hWz hX g0 g1 g2
                      have HXf : Hid (∀ q : Nat, It.candW l t tol (It.way l t tol) s q b = some (d + It.apartZ mc q + y.1, (mc : Int), (b : Int) :: y.2.2)) := Lib.hid (fun q => by
                        unfold It.candW
                        rw [show (s : Int) - 1 = a by omega, Hc.out]
                        simp only []
                        rw [Hy.out]; rfl)
                      obtain ⟨R0, hR0⟩ : ∃ R0, R0 = refR l t tol s (rowM l t tol s (b - s)) := ⟨_, rfl⟩
                      obtain ⟨Xf, hXf⟩ : ∃ Xf : Nat → It.Way, Xf = fun q : Nat => It.candW l t tol (It.way l t tol) s q b := ⟨_, rfl⟩
                      have HXq : Hid (∀ q : Nat, Xf q = some (d + It.apartZ mc q + y.1, (mc : Int), (b : Int) :: y.2.2)) := Lib.hid (fun q => by rw [hXf]; exact HXf.out q)
                      have HEnd : Hid (∀ wx, WaysAt w.heap.size bw n (stepW R0 s 4 Xf) wx → WaysAt w.heap.size bw n (refR l t tol s (rowM l t tol s (b - s + 1))) wx) := Lib.hid (fun wx h => h.congr (by
                        have := stepW_row (l := l) (t := t) (tol := tol) (s := s) (m := b - s) (by rw [← Hn.out]; omega)
                        rw [show s + (b - s) = b by omega, ← Hn.out] at this
                        rw [hR0, hXf]
                        exact this))
                      rw [← hR0] at HWz
                      have HRy := Lib.hid (yrange Hy.out)
                      clear HXf hR0 hXf
                      go_wp2_with fail
                      go_loopw [17] (fun cv wr => ∃ j : Nat, j ≤ 4 ∧ cv = .int .i64 j ∧ Hid (WaysAt w.heap.size bw n (stepW R0 s j Xf) wr) ∧ Hid (wr.heap[X]? = some (.cells #[.bool true, .int .i64 y.1, .slice va vm vc] 80 (0, 0))) ∧ Hid (OwnN w.heap.size (.slice va vm vc) y.2.2 wr) ∧ Hid (Below w.heap.size w wr)) (fun cv _ => 4 - (intOf cv).toNat)
                      case atStart => exact ⟨0, Nat.zero_le _, rfl, Lib.hid (by rw [stepW_zero]; exact HWz.out), HXz, HOz, HBz⟩
                      case round =>
                        obtain ⟨j, hj, rfl, HWc, HXc, HOc, HBc⟩ := hrel
                        clear HWz HXz HOz HBz
                        by_cases hj4 : j < 4
                        · have j0 : (0 : Int) ≤ (j : Int) := by omega
                          have jl : (j : Int) < 4 := by omega
                          have x1 : wr.cell? ⟨X, 1, none⟩ = some (.int .i64 y.1) := Lib.cell_of_heap HXc.out 1
                          have HD := Lib.hid (below_drew10 wr)
                          have HAp := Lib.hid (refApart_any (mc : Int) (j : Int) ⟨by omega, by omega⟩ ⟨by omega, by omega⟩ wr.drew)
                          have hz0 := It.apartZ_range (mc : Int) (j : Int)
                          have hyr := HRy.out
                          rw [apart_is] at HAp
                          have hXj := HXq.out j
                          obtain ⟨S, hS⟩ : ∃ S, S = d + It.apartZ mc j + y.1 := ⟨_, rfl⟩
                          have hw1 : IntKind.i64.wrap (d + It.apartZ mc j) = d + It.apartZ mc j := It.wr_in (by omega) (by omega)
                          have hw2 : IntKind.i64.wrap (d + It.apartZ mc j + y.1) = S := by rw [hS]; exact It.wr_in (by omega) (by omega)
                          rw [← hS] at hXj
                          generalize It.apartZ (mc : Int) (j : Int) = z at HAp hz0 hw1 hw2 hS
                          have HXj := Lib.hid hXj
                          have HSz := Lib.hid hS
                          clear hXj hz0 hyr hS
                          go_wp2_with fail
                          go_region_held3 (fun w' => w'.cell? ⟨X, 1, none⟩ = some (.int .i64 y.1)) (first | (exact x1) | go_keep) (((with_reducible refine HAp.out.mono ?_); rintro e w5 ⟨rfl, rfl⟩))
                          have HXX := HD
                          obtain ⟨w5, hw5⟩ : ∃ w5, w5 = wr.drew := ⟨_, rfl⟩
                          rw [← hw5] at HXX ⊢
                          clear hw5 HAp HD
                          have HW5 := Lib.hid (HWc.out.below HXX.out)
                          have HX5 := Lib.hid (obj_kept HXX.out HXc.out)
                          have HO5 := Lib.hid (HOc.out.mono HXX.out)
                          have HB5 := Lib.hid (below_step HBc.out HXX.out)
                          clear x1
                          obtain ⟨oa, om, oc, g0, g1, g2, g3⟩ := HW5.out.rec (k := s) (q := j) hsn hj4
                          rw [stepW_at] at g0 g1 g3
                          have hfz0 := HW5.out.fz (s * 12 + j * 3)
                          have hfz1 := HW5.out.fz (s * 12 + j * 3 + 1)
                          have hfz2 := HW5.out.fz (s * 12 + j * 3 + 2)
                          have k0 : (0 : Int) ≤ (s : Int) := by omega
                          have kl : (s : Int) < (n : Int) + 1 := by omega
                          clear g3
                          have hNo : It.pick (R0 s j) (Xf j) = R0 s j → stepW R0 s (j + 1) Xf = stepW R0 s j Xf := fun h => by
                            rw [stepW_next, h]
                            have := updW_same (stepW R0 s j Xf) s j
                            rw [stepW_at] at this
                            exact this
                          have HNo := Lib.hid hNo
                          have hYes : It.pick (R0 s j) (Xf j) = Xf j → stepW R0 s (j + 1) Xf = updW (stepW R0 s j Xf) s j (some (S, (mc : Int), (b : Int) :: y.2.2)) := fun h => by rw [stepW_next, h, HXj.out]
                          have HYes := Lib.hid hYes
                          clear hNo hYes
                          (try simp only [hw2])
                          cases ho : R0 s j with
                          | none =>
                            rw [ho] at g0 g1
                            have HEq : Hid (stepW R0 s (j + 1) Xf = updW (stepW R0 s j Xf) s j (some (S, (mc : Int), (b : Int) :: y.2.2))) := Lib.hid (HYes.out (by rw [ho, HXj.out]; rfl))
                            simp only [Option.isSome, bz] at g0 g1
                            clear ho
                            have hb6 := below_alloc w5 (.cells #[.bool false, .int .i64 0, .slice oa om oc] 80)
                            have HW6 := Lib.hid (HW5.out.below hb6)
                            have HX6 := Lib.hid (obj_kept hb6 HX5.out)
                            have HO6 := Lib.hid (HO5.out.mono hb6)
                            have HB6 := Lib.hid (below_step HB5.out hb6)
                            obtain ⟨W6, hW6⟩ : ∃ W6, W6 = w5.alloc (.cells #[.bool false, .int .i64 0, .slice oa om oc] 80) := ⟨_, rfl⟩
                            rw [← hW6] at HW6 HX6 HO6 HB6
                            have hb7 := below_alloc W6 (.cells #[.int .i64 b] 3)
                            have HNew : Hid (OwnN W6.heap.size (.slice (some ⟨W6.heap.size, 0, none⟩) 1 1) [(b : Int)] (W6.alloc (.cells #[.int .i64 b] 3))) := Lib.hid (own_new inC_len W6 [(b : Int)] 3 (by simp) #[.int .i64 b] rfl)
                            have HW7 := Lib.hid (HW6.out.below hb7)
                            have HX7 := Lib.hid (obj_kept hb7 HX6.out)
                            have HO7 := Lib.hid (HO6.out.mono hb7)
                            have y2 : W6.cell? ⟨X, 2, none⟩ = some (.slice va vm vc) := Lib.cell_of_heap HX6.out 2
                            have y2' : (W6.alloc (.cells #[.int .i64 b] 3)).cell? ⟨X, 2, none⟩ = some (.slice va vm vc) := Lib.cell_of_heap HX7.out 2
                            have HS7 := Lib.hid (HO7.out.at inC_len)
                            have hz7 : W6.heap.size ≤ (W6.alloc (.cells #[.int .i64 b] 3)).heap.size := by rw [World.size_alloc]; omega
                            have hrl : y.2.2.length ≤ 4000 := HLen.out
                            have HK6 := Lib.hid (below_alloc W6 (.cells #[.int .i64 b] 3))
                            clear hb6 hb7
                            go_upto_region 24 with fail
                            rw [← hW6]
                            clear hW6 g0 g1 g2
                            go_upto_region 25 with (at_builtin; refine wpList_append_slc Try.underlying23 infoInt11 rfl (by decide) inC_len inC_cell rfl _ _ rfl W6.heap.size _ _ [(b : Int)] y.2.2 rfl HNew.out rfl HS7.out (by simp; omega) (by unfold maxLen; simp; omega) hz7 ?_; intro v9 w9 h9 hg9; have HN9 := Lib.hid h9; have HB9 := Lib.hid (HK6.out.grown hg9 HK6.out.size (fun q h => by cases h; exact Nat.le_refl _)); clear hg9 h9)
                            obtain ⟨na, nn, nc, hv9⟩ := own_slice HN9.out
                            subst hv9
                            have HW9 := Lib.hid (HW6.out.below HB9.out)
                            have HX9 := Lib.hid (obj_kept HB9.out HX6.out)
                            have HO9 := Lib.hid (HO6.out.mono HB9.out)
                            have HB10 := Lib.hid (below_step HB6.out HB9.out)
                            have HN10 := Lib.hid (own_le11 HN9.out HB6.out.size)
                            obtain ⟨ua, um, uc, q0, q1, q2, _⟩ := HW9.out.rec (k := s) (q := j) hsn hj4
                            have hfz0 := HW9.out.fz (s * 12 + j * 3)
                            have hfz1 := HW9.out.fz (s * 12 + j * 3 + 1)
                            have hfz2 := HW9.out.fz (s * 12 + j * 3 + 2)
                            have hP := HW9.out.put (k := s) (q := j) hsn hj4 (S, (mc : Int), (b : Int) :: y.2.2) (v := .slice na nn nc) HN10.out
                            have HBX := Lib.hid (((HB10.out.setCell (p := ⟨bw, s * 12 + j * 3, none⟩) hbw (.bool true)).setCell (p := ⟨bw, s * 12 + j * 3 + 1, none⟩) hbw (.int .i64 S)).setCell (p := ⟨bw, s * 12 + j * 3 + 2, none⟩) hbw (.slice na nn nc))
                            obtain ⟨WX, hWX⟩ : ∃ WX, WX = ((w9.setCell ⟨bw, s * 12 + j * 3, none⟩ (.bool true)).setCell ⟨bw, s * 12 + j * 3 + 1, none⟩ (.int .i64 S)).setCell ⟨bw, s * 12 + j * 3 + 2, none⟩ (.slice na nn nc) := ⟨_, rfl⟩
                            have HPX : Hid (WaysAt w.heap.size bw n (stepW R0 s (j + 1) Xf) WX) := Lib.hid (by rw [HEq.out, hWX]; exact hP)
                            have HgX : Hid (w9.grownBy WX (some bw)) := Lib.hid (by rw [hWX]; exact grown_set (grown_set (grown_set (World.grownBy.refl w9 _) _) _) _)
                            have HXX2 := Lib.hid (obj_far HX9.out HgX.out (fun e => HW9.out.off HX9.out (by decide) (Option.some.inj e)))
                            have HOX2 : Hid (OwnN w.heap.size (.slice va vm vc) y.2.2 WX) := Lib.hid (World.ownsRow.kept HO9.out HgX.out (.inr fun e => HW9.out.offN HO9.out e.symm))
                            rw [← hWX] at HBX
                            clear hP y2 y2'
                            go_wp2_with fail
                            rw [← hWX]
                            clear hWX q0 q1 q2
                            go_roundw
                            case rel => exact ⟨j + 1, by omega, by go_num, HPX, HXX2, HOX2, HBX⟩
                            case measure => simp [intOf]; omega
                          | some o =>
                            rw [ho] at g0 g1
                            simp only [Option.isSome, bz] at g0 g1
                            by_cases hlt : S < o.1
                            · have HEq : Hid (stepW R0 s (j + 1) Xf = updW (stepW R0 s j Xf) s j (some (S, (mc : Int), (b : Int) :: y.2.2))) := Lib.hid (HYes.out (by rw [ho, HXj.out]; unfold It.pick; simp only []; rw [if_pos hlt]))
                              clear ho
                              have hb6 := below_alloc w5 (.cells #[.bool true, .int .i64 o.1, .slice oa om oc] 80)
                              have HW6 := Lib.hid (HW5.out.below hb6)
                              have HX6 := Lib.hid (obj_kept hb6 HX5.out)
                              have HO6 := Lib.hid (HO5.out.mono hb6)
                              have HB6 := Lib.hid (below_step HB5.out hb6)
                              obtain ⟨W6, hW6⟩ : ∃ W6, W6 = w5.alloc (.cells #[.bool true, .int .i64 o.1, .slice oa om oc] 80) := ⟨_, rfl⟩
                              rw [← hW6] at HW6 HX6 HO6 HB6
                              have hb7 := below_alloc W6 (.cells #[.int .i64 b] 3)
                              have HNew : Hid (OwnN W6.heap.size (.slice (some ⟨W6.heap.size, 0, none⟩) 1 1) [(b : Int)] (W6.alloc (.cells #[.int .i64 b] 3))) := Lib.hid (own_new inC_len W6 [(b : Int)] 3 (by simp) #[.int .i64 b] rfl)
                              have HW7 := Lib.hid (HW6.out.below hb7)
                              have HX7 := Lib.hid (obj_kept hb7 HX6.out)
                              have HO7 := Lib.hid (HO6.out.mono hb7)
                              have y2 : W6.cell? ⟨X, 2, none⟩ = some (.slice va vm vc) := Lib.cell_of_heap HX6.out 2
                              have y2' : (W6.alloc (.cells #[.int .i64 b] 3)).cell? ⟨X, 2, none⟩ = some (.slice va vm vc) := Lib.cell_of_heap HX7.out 2
                              have HS7 := Lib.hid (HO7.out.at inC_len)
                              have hz7 : W6.heap.size ≤ (W6.alloc (.cells #[.int .i64 b] 3)).heap.size := by rw [World.size_alloc]; omega
                              have hrl : y.2.2.length ≤ 4000 := HLen.out
                              have HK6 := Lib.hid (below_alloc W6 (.cells #[.int .i64 b] 3))
                              clear hb6 hb7
                              go_upto_region 24 with fail
                              rw [← hW6]
                              clear hW6 g0 g1 g2
                              go_upto_region 25 with (at_builtin; refine wpList_append_slc Try.underlying23 infoInt11 rfl (by decide) inC_len inC_cell rfl _ _ rfl W6.heap.size _ _ [(b : Int)] y.2.2 rfl HNew.out rfl HS7.out (by simp; omega) (by unfold maxLen; simp; omega) hz7 ?_; intro v9 w9 h9 hg9; have HN9 := Lib.hid h9; have HB9 := Lib.hid (HK6.out.grown hg9 HK6.out.size (fun q h => by cases h; exact Nat.le_refl _)); clear hg9 h9)
                              obtain ⟨na, nn, nc, hv9⟩ := own_slice HN9.out
                              subst hv9
                              have HW9 := Lib.hid (HW6.out.below HB9.out)
                              have HX9 := Lib.hid (obj_kept HB9.out HX6.out)
                              have HO9 := Lib.hid (HO6.out.mono HB9.out)
                              have HB10 := Lib.hid (below_step HB6.out HB9.out)
                              have HN10 := Lib.hid (own_le11 HN9.out HB6.out.size)
                              obtain ⟨ua, um, uc, q0, q1, q2, _⟩ := HW9.out.rec (k := s) (q := j) hsn hj4
                              have hfz0 := HW9.out.fz (s * 12 + j * 3)
                              have hfz1 := HW9.out.fz (s * 12 + j * 3 + 1)
                              have hfz2 := HW9.out.fz (s * 12 + j * 3 + 2)
                              have hP := HW9.out.put (k := s) (q := j) hsn hj4 (S, (mc : Int), (b : Int) :: y.2.2) (v := .slice na nn nc) HN10.out
                              have HBX := Lib.hid (((HB10.out.setCell (p := ⟨bw, s * 12 + j * 3, none⟩) hbw (.bool true)).setCell (p := ⟨bw, s * 12 + j * 3 + 1, none⟩) hbw (.int .i64 S)).setCell (p := ⟨bw, s * 12 + j * 3 + 2, none⟩) hbw (.slice na nn nc))
                              obtain ⟨WX, hWX⟩ : ∃ WX, WX = ((w9.setCell ⟨bw, s * 12 + j * 3, none⟩ (.bool true)).setCell ⟨bw, s * 12 + j * 3 + 1, none⟩ (.int .i64 S)).setCell ⟨bw, s * 12 + j * 3 + 2, none⟩ (.slice na nn nc) := ⟨_, rfl⟩
                              have HPX : Hid (WaysAt w.heap.size bw n (stepW R0 s (j + 1) Xf) WX) := Lib.hid (by rw [HEq.out, hWX]; exact hP)
                              have HgX : Hid (w9.grownBy WX (some bw)) := Lib.hid (by rw [hWX]; exact grown_set (grown_set (grown_set (World.grownBy.refl w9 _) _) _) _)
                              have HXX2 := Lib.hid (obj_far HX9.out HgX.out (fun e => HW9.out.off HX9.out (by decide) (Option.some.inj e)))
                              have HOX2 : Hid (OwnN w.heap.size (.slice va vm vc) y.2.2 WX) := Lib.hid (World.ownsRow.kept HO9.out HgX.out (.inr fun e => HW9.out.offN HO9.out e.symm))
                              rw [← hWX] at HBX
                              clear hP y2 y2'
                              go_wp2_with fail
                              rw [← hWX]
                              clear hWX q0 q1 q2
                              go_roundw
                              case rel => exact ⟨j + 1, by omega, by go_num, HPX, HXX2, HOX2, HBX⟩
                              case measure => simp [intOf]; omega
                            · have HEq : Hid (stepW R0 s (j + 1) Xf = stepW R0 s j Xf) := Lib.hid (HNo.out (by rw [ho, HXj.out]; unfold It.pick; simp only []; rw [if_neg hlt]))
                              clear ho
                              have hb6 := below_alloc w5 (.cells #[.bool true, .int .i64 o.1, .slice oa om oc] 80)
                              have HW6 := Lib.hid (HW5.out.below hb6)
                              have HX6 := Lib.hid (obj_kept hb6 HX5.out)
                              have HO6 := Lib.hid (HO5.out.mono hb6)
                              have HB6 := Lib.hid (below_step HB5.out hb6)
                              clear hb6
                              go_wp2
                              go_roundw
                              case rel => exact ⟨j + 1, by omega, by go_num, Lib.hid (by rw [HEq.out]; exact HW6.out), HX6, HO6, HB6⟩
                              case measure => simp [intOf]; omega
                        · obtain rfl : j = 4 := by omega
                          have HWe := Lib.hid (HEnd.out _ HWc.out)
                          go_wp2
                          go_roundw
                          case rel => exact ⟨b + 1, by omega, by omega, by go_num, Lib.hid (by rw [hbs]; exact HWe.out), HBc⟩
                          case measure => simp [intOf]; omega
                    · have eR : refR l t tol s (rowM l t tol s (b - s)) (b + 1) mc = It.way l t tol (b + 1) mc := by unfold refR; rw [if_neg (by rw [← Hn.out]; exact hlast), if_pos (by omega)]
                      rw [eR] at g0 g1 g3
                      have hbn1 : ((b : Int) == (n : Int) - 1) = false := by simp; omega
                      have hbnI : ¬ (b : Int) = (n : Int) - 1 := by omega
                      cases hy : It.way l t tol (b + 1) (mc : Int) with
                      | none =>
                        rw [hy] at g0 g1
                        simp only [Option.isSome, bz] at g0 g1
                        have HWn : Hid (WaysAt w.heap.size bw n (refR l t tol s (rowM l t tol s (b - s + 1))) w2) := Lib.hid (by
                          have e : rowM l t tol s (b - s + 1) = rowM l t tol s (b - s) := by
                            funext q
                            unfold rowM
                            simp only [It.accW]
                            have : It.candW l t tol (It.way l t tol) s q (s + (b - s)) = none := by
                              rw [show s + (b - s) = b by omega]
                              unfold It.candW
                              rw [show (s : Int) - 1 = a by omega, Hc.out]
                              simp only []
                              rw [hy]; rfl
                            rw [this]; rfl
                          rw [e]
                          exact HW2.out)
                        have hb3 := below_alloc w2 (.cells #[.bool false, .int .i64 0, .slice pa pm pc] 80)
                        have HW3 := Lib.hid (HWn.out.below hb3)
                        have HB3 := Lib.hid (below_step HB2.out hb3)
                        clear hb3 eR g3 hy
                        go_wp2
                        go_roundw
                        case rel => exact ⟨b + 1, by omega, by omega, by go_num, Lib.hid (by rw [hbs]; exact HW3.out), HB3⟩
                        case measure => simp [intOf]; omega
                      | some y =>
                        rw [hy] at g0 g1 g3
                        simp only [Option.isSome, bz, bl] at g0 g1 g3
                        have Hy := Lib.hid hy
                        have HLen : Hid (y.2.2.length ≤ 4000) := Lib.hid (by have := It.way_len (l := l) (t := t) (tol := tol) (k := b + 1) (by rw [← Hn.out]; omega) hy; rw [← Hn.out] at this; omega)
                        have hb3 := below_alloc w2 (.cells #[.bool true, .int .i64 y.1, .slice pa pm pc] 80)
                        have HWz := Lib.hid (HW2.out.below hb3)
                        have HXz := Lib.hid (obj_new w2 _ rfl #[.bool true, .int .i64 y.1, .slice pa pm pc] 80)
                        have HOz := Lib.hid (g3.mono hb3)
                        have HBz := Lib.hid (below_step HB2.out hb3)
                        obtain ⟨Wz, hWz⟩ : ∃ Wz, Wz = w2.alloc (.cells #[.bool true, .int .i64 y.1, .slice pa pm pc] 80) := ⟨_, rfl⟩
                        rw [← hWz] at HWz HXz HOz HBz
                        obtain ⟨X, hX⟩ : ∃ X, X = w2.heap.size := ⟨_, rfl⟩
                        rw [← hX] at HXz
                        obtain ⟨va, vm, vc, hva⟩ : ∃ va vm vc, va = pa ∧ vm = pm ∧ vc = pc := ⟨_, _, _, rfl, rfl, rfl⟩
                        obtain ⟨rfl, rfl, rfl⟩ := hva
                        clear hb3 eR g3 hy
                        have x0 : Wz.cell? ⟨X, 0, none⟩ = some (.bool true) := Lib.cell_of_heap HXz.out 0
                        go_upto_region 17 with fail
                        rw [← hWz, ← hX]
                        clear hWz hX g0 g1 g2
                        have HXf : Hid (∀ q : Nat, It.candW l t tol (It.way l t tol) s q b = some (d + It.apartZ mc q + y.1, (mc : Int), (b : Int) :: y.2.2)) := Lib.hid (fun q => by
                          unfold It.candW
                          rw [show (s : Int) - 1 = a by omega, Hc.out]
                          simp only []
                          rw [Hy.out]; rfl)
                        obtain ⟨R0, hR0⟩ : ∃ R0, R0 = refR l t tol s (rowM l t tol s (b - s)) := ⟨_, rfl⟩
                        obtain ⟨Xf, hXf⟩ : ∃ Xf : Nat → It.Way, Xf = fun q : Nat => It.candW l t tol (It.way l t tol) s q b := ⟨_, rfl⟩
                        have HXq : Hid (∀ q : Nat, Xf q = some (d + It.apartZ mc q + y.1, (mc : Int), (b : Int) :: y.2.2)) := Lib.hid (fun q => by rw [hXf]; exact HXf.out q)
                        have HEnd : Hid (∀ wx, WaysAt w.heap.size bw n (stepW R0 s 4 Xf) wx → WaysAt w.heap.size bw n (refR l t tol s (rowM l t tol s (b - s + 1))) wx) := Lib.hid (fun wx h => h.congr (by
                          have := stepW_row (l := l) (t := t) (tol := tol) (s := s) (m := b - s) (by rw [← Hn.out]; omega)
                          rw [show s + (b - s) = b by omega, ← Hn.out] at this
                          rw [hR0, hXf]
                          exact this))
                        rw [← hR0] at HWz
                        have HRy := Lib.hid (yrange Hy.out)
                        clear HXf hR0 hXf
                        go_wp2_with fail
                        go_loopw [17] (fun cv wr => ∃ j : Nat, j ≤ 4 ∧ cv = .int .i64 j ∧ Hid (WaysAt w.heap.size bw n (stepW R0 s j Xf) wr) ∧ Hid (wr.heap[X]? = some (.cells #[.bool true, .int .i64 y.1, .slice va vm vc] 80 (0, 0))) ∧ Hid (OwnN w.heap.size (.slice va vm vc) y.2.2 wr) ∧ Hid (Below w.heap.size w wr)) (fun cv _ => 4 - (intOf cv).toNat)
                        case atStart => exact ⟨0, Nat.zero_le _, rfl, Lib.hid (by rw [stepW_zero]; exact HWz.out), HXz, HOz, HBz⟩
                        case round =>
                          obtain ⟨j, hj, rfl, HWc, HXc, HOc, HBc⟩ := hrel
                          clear HWz HXz HOz HBz
                          by_cases hj4 : j < 4
                          · have j0 : (0 : Int) ≤ (j : Int) := by omega
                            have jl : (j : Int) < 4 := by omega
                            have x1 : wr.cell? ⟨X, 1, none⟩ = some (.int .i64 y.1) := Lib.cell_of_heap HXc.out 1
                            have HD := Lib.hid (below_drew10 wr)
                            have HAp := Lib.hid (refApart_any (mc : Int) (j : Int) ⟨by omega, by omega⟩ ⟨by omega, by omega⟩ wr.drew)
                            have hz0 := It.apartZ_range (mc : Int) (j : Int)
                            have hyr := HRy.out
                            rw [apart_is] at HAp
                            have hXj := HXq.out j
                            obtain ⟨S, hS⟩ : ∃ S, S = d + It.apartZ mc j + y.1 := ⟨_, rfl⟩
                            have hw1 : IntKind.i64.wrap (d + It.apartZ mc j) = d + It.apartZ mc j := It.wr_in (by omega) (by omega)
                            have hw2 : IntKind.i64.wrap (d + It.apartZ mc j + y.1) = S := by rw [hS]; exact It.wr_in (by omega) (by omega)
                            rw [← hS] at hXj
                            generalize It.apartZ (mc : Int) (j : Int) = z at HAp hz0 hw1 hw2 hS
                            have HXj := Lib.hid hXj
                            have HSz := Lib.hid hS
                            clear hXj hz0 hyr hS
                            go_wp2_with fail
                            go_region_held3 (fun w' => w'.cell? ⟨X, 1, none⟩ = some (.int .i64 y.1)) (first | (exact x1) | go_keep) (((with_reducible refine HAp.out.mono ?_); rintro e w5 ⟨rfl, rfl⟩))
                            have HXX := HD
                            obtain ⟨w5, hw5⟩ : ∃ w5, w5 = wr.drew := ⟨_, rfl⟩
                            rw [← hw5] at HXX ⊢
                            clear hw5 HAp HD
                            have HW5 := Lib.hid (HWc.out.below HXX.out)
                            have HX5 := Lib.hid (obj_kept HXX.out HXc.out)
                            have HO5 := Lib.hid (HOc.out.mono HXX.out)
                            have HB5 := Lib.hid (below_step HBc.out HXX.out)
                            clear x1
                            obtain ⟨oa, om, oc, g0, g1, g2, g3⟩ := HW5.out.rec (k := s) (q := j) hsn hj4
                            rw [stepW_at] at g0 g1 g3
                            have hfz0 := HW5.out.fz (s * 12 + j * 3)
                            have hfz1 := HW5.out.fz (s * 12 + j * 3 + 1)
                            have hfz2 := HW5.out.fz (s * 12 + j * 3 + 2)
                            have k0 : (0 : Int) ≤ (s : Int) := by omega
                            have kl : (s : Int) < (n : Int) + 1 := by omega
                            clear g3
                            have hNo : It.pick (R0 s j) (Xf j) = R0 s j → stepW R0 s (j + 1) Xf = stepW R0 s j Xf := fun h => by
                              rw [stepW_next, h]
                              have := updW_same (stepW R0 s j Xf) s j
                              rw [stepW_at] at this
                              exact this
                            have HNo := Lib.hid hNo
                            have hYes : It.pick (R0 s j) (Xf j) = Xf j → stepW R0 s (j + 1) Xf = updW (stepW R0 s j Xf) s j (some (S, (mc : Int), (b : Int) :: y.2.2)) := fun h => by rw [stepW_next, h, HXj.out]
                            have HYes := Lib.hid hYes
                            clear hNo hYes
                            (try simp only [hw2])
                            cases ho : R0 s j with
                            | none =>
                              rw [ho] at g0 g1
                              have HEq : Hid (stepW R0 s (j + 1) Xf = updW (stepW R0 s j Xf) s j (some (S, (mc : Int), (b : Int) :: y.2.2))) := Lib.hid (HYes.out (by rw [ho, HXj.out]; rfl))
                              simp only [Option.isSome, bz] at g0 g1
                              clear ho
                              have hb6 := below_alloc w5 (.cells #[.bool false, .int .i64 0, .slice oa om oc] 80)
                              have HW6 := Lib.hid (HW5.out.below hb6)
                              have HX6 := Lib.hid (obj_kept hb6 HX5.out)
                              have HO6 := Lib.hid (HO5.out.mono hb6)
                              have HB6 := Lib.hid (below_step HB5.out hb6)
                              obtain ⟨W6, hW6⟩ : ∃ W6, W6 = w5.alloc (.cells #[.bool false, .int .i64 0, .slice oa om oc] 80) := ⟨_, rfl⟩
                              rw [← hW6] at HW6 HX6 HO6 HB6
                              have hb7 := below_alloc W6 (.cells #[.int .i64 b] 3)
                              have HNew : Hid (OwnN W6.heap.size (.slice (some ⟨W6.heap.size, 0, none⟩) 1 1) [(b : Int)] (W6.alloc (.cells #[.int .i64 b] 3))) := Lib.hid (own_new inC_len W6 [(b : Int)] 3 (by simp) #[.int .i64 b] rfl)
                              have HW7 := Lib.hid (HW6.out.below hb7)
                              have HX7 := Lib.hid (obj_kept hb7 HX6.out)
                              have HO7 := Lib.hid (HO6.out.mono hb7)
                              have y2 : W6.cell? ⟨X, 2, none⟩ = some (.slice va vm vc) := Lib.cell_of_heap HX6.out 2
                              have y2' : (W6.alloc (.cells #[.int .i64 b] 3)).cell? ⟨X, 2, none⟩ = some (.slice va vm vc) := Lib.cell_of_heap HX7.out 2
                              have HS7 := Lib.hid (HO7.out.at inC_len)
                              have hz7 : W6.heap.size ≤ (W6.alloc (.cells #[.int .i64 b] 3)).heap.size := by rw [World.size_alloc]; omega
                              have hrl : y.2.2.length ≤ 4000 := HLen.out
                              have HK6 := Lib.hid (below_alloc W6 (.cells #[.int .i64 b] 3))
                              clear hb6 hb7
                              go_upto_region 24 with fail
                              rw [← hW6]
                              clear hW6 g0 g1 g2
                              go_upto_region 25 with (at_builtin; refine wpList_append_slc Try.underlying23 infoInt11 rfl (by decide) inC_len inC_cell rfl _ _ rfl W6.heap.size _ _ [(b : Int)] y.2.2 rfl HNew.out rfl HS7.out (by simp; omega) (by unfold maxLen; simp; omega) hz7 ?_; intro v9 w9 h9 hg9; have HN9 := Lib.hid h9; have HB9 := Lib.hid (HK6.out.grown hg9 HK6.out.size (fun q h => by cases h; exact Nat.le_refl _)); clear hg9 h9)
                              obtain ⟨na, nn, nc, hv9⟩ := own_slice HN9.out
                              subst hv9
                              have HW9 := Lib.hid (HW6.out.below HB9.out)
                              have HX9 := Lib.hid (obj_kept HB9.out HX6.out)
                              have HO9 := Lib.hid (HO6.out.mono HB9.out)
                              have HB10 := Lib.hid (below_step HB6.out HB9.out)
                              have HN10 := Lib.hid (own_le11 HN9.out HB6.out.size)
                              obtain ⟨ua, um, uc, q0, q1, q2, _⟩ := HW9.out.rec (k := s) (q := j) hsn hj4
                              have hfz0 := HW9.out.fz (s * 12 + j * 3)
                              have hfz1 := HW9.out.fz (s * 12 + j * 3 + 1)
                              have hfz2 := HW9.out.fz (s * 12 + j * 3 + 2)
                              have hP := HW9.out.put (k := s) (q := j) hsn hj4 (S, (mc : Int), (b : Int) :: y.2.2) (v := .slice na nn nc) HN10.out
                              have HBX := Lib.hid (((HB10.out.setCell (p := ⟨bw, s * 12 + j * 3, none⟩) hbw (.bool true)).setCell (p := ⟨bw, s * 12 + j * 3 + 1, none⟩) hbw (.int .i64 S)).setCell (p := ⟨bw, s * 12 + j * 3 + 2, none⟩) hbw (.slice na nn nc))
                              obtain ⟨WX, hWX⟩ : ∃ WX, WX = ((w9.setCell ⟨bw, s * 12 + j * 3, none⟩ (.bool true)).setCell ⟨bw, s * 12 + j * 3 + 1, none⟩ (.int .i64 S)).setCell ⟨bw, s * 12 + j * 3 + 2, none⟩ (.slice na nn nc) := ⟨_, rfl⟩
                              have HPX : Hid (WaysAt w.heap.size bw n (stepW R0 s (j + 1) Xf) WX) := Lib.hid (by rw [HEq.out, hWX]; exact hP)
                              have HgX : Hid (w9.grownBy WX (some bw)) := Lib.hid (by rw [hWX]; exact grown_set (grown_set (grown_set (World.grownBy.refl w9 _) _) _) _)
                              have HXX2 := Lib.hid (obj_far HX9.out HgX.out (fun e => HW9.out.off HX9.out (by decide) (Option.some.inj e)))
                              have HOX2 : Hid (OwnN w.heap.size (.slice va vm vc) y.2.2 WX) := Lib.hid (World.ownsRow.kept HO9.out HgX.out (.inr fun e => HW9.out.offN HO9.out e.symm))
                              rw [← hWX] at HBX
                              clear hP y2 y2'
                              go_wp2_with fail
                              rw [← hWX]
                              clear hWX q0 q1 q2
                              go_roundw
                              case rel => exact ⟨j + 1, by omega, by go_num, HPX, HXX2, HOX2, HBX⟩
                              case measure => simp [intOf]; omega
                            | some o =>
                              rw [ho] at g0 g1
                              simp only [Option.isSome, bz] at g0 g1
                              by_cases hlt : S < o.1
                              · have HEq : Hid (stepW R0 s (j + 1) Xf = updW (stepW R0 s j Xf) s j (some (S, (mc : Int), (b : Int) :: y.2.2))) := Lib.hid (HYes.out (by rw [ho, HXj.out]; unfold It.pick; simp only []; rw [if_pos hlt]))
                                clear ho
                                have hb6 := below_alloc w5 (.cells #[.bool true, .int .i64 o.1, .slice oa om oc] 80)
                                have HW6 := Lib.hid (HW5.out.below hb6)
                                have HX6 := Lib.hid (obj_kept hb6 HX5.out)
                                have HO6 := Lib.hid (HO5.out.mono hb6)
                                have HB6 := Lib.hid (below_step HB5.out hb6)
                                obtain ⟨W6, hW6⟩ : ∃ W6, W6 = w5.alloc (.cells #[.bool true, .int .i64 o.1, .slice oa om oc] 80) := ⟨_, rfl⟩
                                rw [← hW6] at HW6 HX6 HO6 HB6
                                have hb7 := below_alloc W6 (.cells #[.int .i64 b] 3)
                                have HNew : Hid (OwnN W6.heap.size (.slice (some ⟨W6.heap.size, 0, none⟩) 1 1) [(b : Int)] (W6.alloc (.cells #[.int .i64 b] 3))) := Lib.hid (own_new inC_len W6 [(b : Int)] 3 (by simp) #[.int .i64 b] rfl)
                                have HW7 := Lib.hid (HW6.out.below hb7)
                                have HX7 := Lib.hid (obj_kept hb7 HX6.out)
                                have HO7 := Lib.hid (HO6.out.mono hb7)
                                have y2 : W6.cell? ⟨X, 2, none⟩ = some (.slice va vm vc) := Lib.cell_of_heap HX6.out 2
                                have y2' : (W6.alloc (.cells #[.int .i64 b] 3)).cell? ⟨X, 2, none⟩ = some (.slice va vm vc) := Lib.cell_of_heap HX7.out 2
                                have HS7 := Lib.hid (HO7.out.at inC_len)
                                have hz7 : W6.heap.size ≤ (W6.alloc (.cells #[.int .i64 b] 3)).heap.size := by rw [World.size_alloc]; omega
                                have hrl : y.2.2.length ≤ 4000 := HLen.out
                                have HK6 := Lib.hid (below_alloc W6 (.cells #[.int .i64 b] 3))
                                clear hb6 hb7
                                go_upto_region 24 with fail
                                rw [← hW6]
                                clear hW6 g0 g1 g2
                                go_upto_region 25 with (at_builtin; refine wpList_append_slc Try.underlying23 infoInt11 rfl (by decide) inC_len inC_cell rfl _ _ rfl W6.heap.size _ _ [(b : Int)] y.2.2 rfl HNew.out rfl HS7.out (by simp; omega) (by unfold maxLen; simp; omega) hz7 ?_; intro v9 w9 h9 hg9; have HN9 := Lib.hid h9; have HB9 := Lib.hid (HK6.out.grown hg9 HK6.out.size (fun q h => by cases h; exact Nat.le_refl _)); clear hg9 h9)
                                obtain ⟨na, nn, nc, hv9⟩ := own_slice HN9.out
                                subst hv9
                                have HW9 := Lib.hid (HW6.out.below HB9.out)
                                have HX9 := Lib.hid (obj_kept HB9.out HX6.out)
                                have HO9 := Lib.hid (HO6.out.mono HB9.out)
                                have HB10 := Lib.hid (below_step HB6.out HB9.out)
                                have HN10 := Lib.hid (own_le11 HN9.out HB6.out.size)
                                obtain ⟨ua, um, uc, q0, q1, q2, _⟩ := HW9.out.rec (k := s) (q := j) hsn hj4
                                have hfz0 := HW9.out.fz (s * 12 + j * 3)
                                have hfz1 := HW9.out.fz (s * 12 + j * 3 + 1)
                                have hfz2 := HW9.out.fz (s * 12 + j * 3 + 2)
                                have hP := HW9.out.put (k := s) (q := j) hsn hj4 (S, (mc : Int), (b : Int) :: y.2.2) (v := .slice na nn nc) HN10.out
                                have HBX := Lib.hid (((HB10.out.setCell (p := ⟨bw, s * 12 + j * 3, none⟩) hbw (.bool true)).setCell (p := ⟨bw, s * 12 + j * 3 + 1, none⟩) hbw (.int .i64 S)).setCell (p := ⟨bw, s * 12 + j * 3 + 2, none⟩) hbw (.slice na nn nc))
                                obtain ⟨WX, hWX⟩ : ∃ WX, WX = ((w9.setCell ⟨bw, s * 12 + j * 3, none⟩ (.bool true)).setCell ⟨bw, s * 12 + j * 3 + 1, none⟩ (.int .i64 S)).setCell ⟨bw, s * 12 + j * 3 + 2, none⟩ (.slice na nn nc) := ⟨_, rfl⟩
                                have HPX : Hid (WaysAt w.heap.size bw n (stepW R0 s (j + 1) Xf) WX) := Lib.hid (by rw [HEq.out, hWX]; exact hP)
                                have HgX : Hid (w9.grownBy WX (some bw)) := Lib.hid (by rw [hWX]; exact grown_set (grown_set (grown_set (World.grownBy.refl w9 _) _) _) _)
                                have HXX2 := Lib.hid (obj_far HX9.out HgX.out (fun e => HW9.out.off HX9.out (by decide) (Option.some.inj e)))
                                have HOX2 : Hid (OwnN w.heap.size (.slice va vm vc) y.2.2 WX) := Lib.hid (World.ownsRow.kept HO9.out HgX.out (.inr fun e => HW9.out.offN HO9.out e.symm))
                                rw [← hWX] at HBX
                                clear hP y2 y2'
                                go_wp2_with fail
                                rw [← hWX]
                                clear hWX q0 q1 q2
                                go_roundw
                                case rel => exact ⟨j + 1, by omega, by go_num, HPX, HXX2, HOX2, HBX⟩
                                case measure => simp [intOf]; omega
                              · have HEq : Hid (stepW R0 s (j + 1) Xf = stepW R0 s j Xf) := Lib.hid (HNo.out (by rw [ho, HXj.out]; unfold It.pick; simp only []; rw [if_neg hlt]))
                                clear ho
                                have hb6 := below_alloc w5 (.cells #[.bool true, .int .i64 o.1, .slice oa om oc] 80)
                                have HW6 := Lib.hid (HW5.out.below hb6)
                                have HX6 := Lib.hid (obj_kept hb6 HX5.out)
                                have HO6 := Lib.hid (HO5.out.mono hb6)
                                have HB6 := Lib.hid (below_step HB5.out hb6)
                                clear hb6
                                go_wp2
                                go_roundw
                                case rel => exact ⟨j + 1, by omega, by go_num, Lib.hid (by rw [HEq.out]; exact HW6.out), HX6, HO6, HB6⟩
                                case measure => simp [intOf]; omega
                          · obtain rfl : j = 4 := by omega
                            have HWe := Lib.hid (HEnd.out _ HWc.out)
                            go_wp2
                            go_roundw
                            case rel => exact ⟨b + 1, by omega, by omega, by go_num, Lib.hid (by rw [hbs]; exact HWe.out), HBc⟩
                            case measure => simp [intOf]; omega
                · have hE : b = n := by omega
                  have HWe : Hid (WaysAt w.heap.size bw n (refM l t tol s) wr) := Lib.hid (by
                    by_cases hs : s = n
                    · have e : refR l t tol s (rowM l t tol s (b - s)) = refM l t tol s := by
                        rw [show s = l.length by rw [← Hn.out]; exact hs]
                        exact refM_last l t tol _
                      rw [← e]
                      exact HWb.out
                    · rw [← refM_done, ← rowM_rest (m := b - s) (by rw [← Hn.out]; omega) (by rw [← Hn.out]; omega) (fun c hc => It.cost_illegal (legal_far (by rw [← Hn.out]; omega)) _ t tol)]
                      exact HWb.out)
                  go_wp2
                  go_roundw
                  case rel => exact ⟨a - 1, s, by omega, by omega, by go_num, HWe, HBb⟩
                  case measure => simp [intOf]; omega
            · clear hlg
              go_wp2_with fail
              go_loopw [12] (fun bv wr => ∃ b : Nat, s ≤ b ∧ b ≤ n ∧ bv = .int .i64 b ∧ Hid (WaysAt w.heap.size bw n (refR l t tol s (rowM l t tol s (b - s))) wr) ∧ Hid (Below w.heap.size w wr)) (fun bv _ => n - (intOf bv).toNat)
              case atStart => exact ⟨s, Nat.le_refl _, hsn, by rw [← has], Lib.hid (by rw [Nat.sub_self, rowM_zero, ← refM_row]; exact HWr.out), HBr⟩
              case round =>
                obtain ⟨b, hsb, hbn, rfl, HWb, HBb⟩ := hrel
                clear HWr HBr
                by_cases hlt : b < n
                · have hbs : b + 1 - s = b - s + 1 := by omega
                  have k0 : (0 : Int) ≤ (b : Int) := by omega
                  have HIb := Lib.hid (SlcAt.mono HA'.out HBb.out)
                  have HCb := Lib.hid (HCo.out a (b : Int) wr HIb.out)
                  cases hc : It.costOf l a (b : Int) t tol with
                  | none =>
                    have HWn : Hid (WaysAt w.heap.size bw n (refR l t tol s (rowM l t tol s (b - s + 1))) wr) := Lib.hid (by
                      rw [rowM_none (by rw [show (s : Int) - 1 = a by omega, show s + (b - s) = b by omega]; exact hc)]
                      exact HWb.out)
                    rw [hc] at HCb
                    unfold costV at HCb
                    clear hc
                    go_wp2_with fail
                    refine HCb.out.mono ?_
                    rintro e w2 ⟨rfl, hb2⟩
                    have HW2 := Lib.hid (HWn.out.below hb2)
                    have HB2 := Lib.hid (below_step HBb.out hb2)
                    clear hb2
                    go_wp2
                    go_roundw
                    case rel => exact ⟨b + 1, by omega, by omega, by go_num, Lib.hid (by rw [hbs]; exact HW2.out), HB2⟩
                    case measure => simp [intOf]; omega
                  | some dc =>
                    obtain ⟨d, c⟩ := dc
                    obtain ⟨hdr, hc0, hc3⟩ := It.cost_range HMay.out hc
                    obtain ⟨mc, rfl⟩ : ∃ mc : Nat, c = (mc : Int) := ⟨c.toNat, by omega⟩
                    have hm4 : mc < 4 := by omega
                    have Hc := Lib.hid hc
                    have hband := band3 mc hm4
                    have m0 : (0 : Int) ≤ (mc : Int) := by omega
                    have m4 : (mc : Int) < 4 := by omega
                    have kb0 : (0 : Int) ≤ (b : Int) + 1 := by omega
                    have kbl : (b : Int) + 1 < (n : Int) + 1 := by omega
                    rw [hc] at HCb
                    unfold costV at HCb
                    simp only [] at HCb
                    clear hc
                    go_wp2_with fail
                    refine HCb.out.mono ?_
                    rintro e w2 ⟨rfl, hb2⟩
                    have HW2 := Lib.hid (HWb.out.below hb2)
                    have HB2 := Lib.hid (below_step HBb.out hb2)
                    clear hb2 HWb HBb
                    obtain ⟨pa, pm, pc, g0, g1, g2, g3⟩ := HW2.out.rec (k := b + 1) (q := mc) (by omega) hm4
                    have yrange : ∀ {y}, It.way l t tol (b + 1) (mc : Int) = some y → -700000000000 ≤ y.1 ∧ y.1 ≤ 700000000000 := fun {y} h => by
                      have := It.way_range HMay.out t tol (l.length - (b + 1)) (b + 1) mc y (by rw [← Hn.out]; omega) h
                      rw [← Hn.out] at this
                      omega
                    by_cases hlast : b + 1 = n
                    · have eR : refR l t tol s (rowM l t tol s (b - s)) (b + 1) mc = none := by unfold refR; rw [if_pos (by rw [← Hn.out]; exact hlast)]
                      rw [eR] at g0 g1
                      simp only [Option.isSome, bz] at g0 g1
                      obtain ⟨y, hy⟩ : ∃ y : Int × Int × List Int, y = (0, 0, []) := ⟨_, rfl⟩
                      have Hy : Hid (It.way l t tol (b + 1) (mc : Int) = some y) := Lib.hid (by rw [hy]; exact way_last l t tol _ (by rw [← Hn.out]; exact hlast))
                      have HLen : Hid (y.2.2.length ≤ 4000) := Lib.hid (by rw [hy]; simp)
                      have hb3 := below_alloc w2 (.cells #[.bool true, .int .i64 0, .slice none 0 0] 80)
                      have HWz := Lib.hid (HW2.out.below hb3)
                      have HXz : Hid ((w2.alloc (.cells #[.bool true, .int .i64 0, .slice none 0 0] 80)).heap[w2.heap.size]? = some (.cells #[.bool true, .int .i64 y.1, .slice none 0 0] 80 (0, 0))) := Lib.hid (by rw [hy]; exact obj_new w2 _ rfl _ _)
                      have HOz : Hid (OwnN w.heap.size (.slice none 0 0) y.2.2 (w2.alloc (.cells #[.bool true, .int .i64 0, .slice none 0 0] 80))) := Lib.hid (by rw [hy]; exact ownR_nil _ _ _ _ _)
                      have HBz := Lib.hid (below_step HB2.out hb3)
                      have hbn1 : ((b : Int) == (n : Int) - 1) = true := by simp; omega
                      obtain ⟨Wz, hWz⟩ : ∃ Wz, Wz = w2.alloc (.cells #[.bool true, .int .i64 0, .slice none 0 0] 80) := ⟨_, rfl⟩
                      rw [← hWz] at HWz HXz HOz HBz
                      obtain ⟨X, hX⟩ : ∃ X, X = w2.heap.size := ⟨_, rfl⟩
                      rw [← hX] at HXz
                      obtain ⟨va, hva⟩ : ∃ va : Option Addr, va = none := ⟨_, rfl⟩
                      obtain ⟨vm, hvm⟩ : ∃ vm : Nat, vm = 0 := ⟨_, rfl⟩
                      obtain ⟨vc, hvc⟩ : ∃ vc : Nat, vc = 0 := ⟨_, rfl⟩
                      have HXz' : Hid (Wz.heap[X]? = some (.cells #[.bool true, .int .i64 y.1, .slice va vm vc] 80 (0, 0))) := Lib.hid (by rw [hva, hvm, hvc]; exact HXz.out)
                      have HOz' : Hid (OwnN w.heap.size (.slice va vm vc) y.2.2 Wz) := Lib.hid (by rw [hva, hvm, hvc]; exact HOz.out)
                      clear HXz HOz hva hvm hvc
                      have HXz := HXz'
                      have HOz := HOz'
                      clear HXz' HOz'
                      clear hb3 eR g3 hy hlast
                      have x0 : Wz.cell? ⟨X, 0, none⟩ = some (.bool true) := Lib.cell_of_heap HXz.out 0
                      go_upto_region 17 with fail
                      rw [← hWz, ← hX]
                      clear hWz hX g0 g1 g2
                      have HXf : Hid (∀ q : Nat, It.candW l t tol (It.way l t tol) s q b = some (d + It.apartZ mc q + y.1, (mc : Int), (b : Int) :: y.2.2)) := Lib.hid (fun q => by
                        unfold It.candW
                        rw [show (s : Int) - 1 = a by omega, Hc.out]
                        simp only []
                        rw [Hy.out]; rfl)
                      obtain ⟨R0, hR0⟩ : ∃ R0, R0 = refR l t tol s (rowM l t tol s (b - s)) := ⟨_, rfl⟩
                      obtain ⟨Xf, hXf⟩ : ∃ Xf : Nat → It.Way, Xf = fun q : Nat => It.candW l t tol (It.way l t tol) s q b := ⟨_, rfl⟩
                      have HXq : Hid (∀ q : Nat, Xf q = some (d + It.apartZ mc q + y.1, (mc : Int), (b : Int) :: y.2.2)) := Lib.hid (fun q => by rw [hXf]; exact HXf.out q)
                      have HEnd : Hid (∀ wx, WaysAt w.heap.size bw n (stepW R0 s 4 Xf) wx → WaysAt w.heap.size bw n (refR l t tol s (rowM l t tol s (b - s + 1))) wx) := Lib.hid (fun wx h => h.congr (by
                        have := stepW_row (l := l) (t := t) (tol := tol) (s := s) (m := b - s) (by rw [← Hn.out]; omega)
                        rw [show s + (b - s) = b by omega, ← Hn.out] at this
                        rw [hR0, hXf]
                        exact this))
                      rw [← hR0] at HWz
                      have HRy := Lib.hid (yrange Hy.out)
                      clear HXf hR0 hXf
                      go_wp2_with fail
                      go_loopw [17] (fun cv wr => ∃ j : Nat, j ≤ 4 ∧ cv = .int .i64 j ∧ Hid (WaysAt w.heap.size bw n (stepW R0 s j Xf) wr) ∧ Hid (wr.heap[X]? = some (.cells #[.bool true, .int .i64 y.1, .slice va vm vc] 80 (0, 0))) ∧ Hid (OwnN w.heap.size (.slice va vm vc) y.2.2 wr) ∧ Hid (Below w.heap.size w wr)) (fun cv _ => 4 - (intOf cv).toNat)
                      case atStart => exact ⟨0, Nat.zero_le _, rfl, Lib.hid (by rw [stepW_zero]; exact HWz.out), HXz, HOz, HBz⟩
                      case round =>
                        obtain ⟨j, hj, rfl, HWc, HXc, HOc, HBc⟩ := hrel
                        clear HWz HXz HOz HBz
                        by_cases hj4 : j < 4
                        · have j0 : (0 : Int) ≤ (j : Int) := by omega
                          have jl : (j : Int) < 4 := by omega
                          have x1 : wr.cell? ⟨X, 1, none⟩ = some (.int .i64 y.1) := Lib.cell_of_heap HXc.out 1
                          have HD := Lib.hid (below_drew10 wr)
                          have HAp := Lib.hid (refApart_any (mc : Int) (j : Int) ⟨by omega, by omega⟩ ⟨by omega, by omega⟩ wr.drew)
                          have hz0 := It.apartZ_range (mc : Int) (j : Int)
                          have hyr := HRy.out
                          rw [apart_is] at HAp
                          have hXj := HXq.out j
                          obtain ⟨S, hS⟩ : ∃ S, S = d + It.apartZ mc j + y.1 := ⟨_, rfl⟩
                          have hw1 : IntKind.i64.wrap (d + It.apartZ mc j) = d + It.apartZ mc j := It.wr_in (by omega) (by omega)
                          have hw2 : IntKind.i64.wrap (d + It.apartZ mc j + y.1) = S := by rw [hS]; exact It.wr_in (by omega) (by omega)
                          rw [← hS] at hXj
                          generalize It.apartZ (mc : Int) (j : Int) = z at HAp hz0 hw1 hw2 hS
                          have HXj := Lib.hid hXj
                          have HSz := Lib.hid hS
                          clear hXj hz0 hyr hS
                          go_wp2_with fail
                          go_region_held3 (fun w' => w'.cell? ⟨X, 1, none⟩ = some (.int .i64 y.1)) (first | (exact x1) | go_keep) (((with_reducible refine HAp.out.mono ?_); rintro e w5 ⟨rfl, rfl⟩))
                          have HXX := HD
                          obtain ⟨w5, hw5⟩ : ∃ w5, w5 = wr.drew := ⟨_, rfl⟩
                          rw [← hw5] at HXX ⊢
                          clear hw5 HAp HD
                          have HW5 := Lib.hid (HWc.out.below HXX.out)
                          have HX5 := Lib.hid (obj_kept HXX.out HXc.out)
                          have HO5 := Lib.hid (HOc.out.mono HXX.out)
                          have HB5 := Lib.hid (below_step HBc.out HXX.out)
                          clear x1
                          obtain ⟨oa, om, oc, g0, g1, g2, g3⟩ := HW5.out.rec (k := s) (q := j) hsn hj4
                          rw [stepW_at] at g0 g1 g3
                          have hfz0 := HW5.out.fz (s * 12 + j * 3)
                          have hfz1 := HW5.out.fz (s * 12 + j * 3 + 1)
                          have hfz2 := HW5.out.fz (s * 12 + j * 3 + 2)
                          have k0 : (0 : Int) ≤ (s : Int) := by omega
                          have kl : (s : Int) < (n : Int) + 1 := by omega
                          clear g3
                          have hNo : It.pick (R0 s j) (Xf j) = R0 s j → stepW R0 s (j + 1) Xf = stepW R0 s j Xf := fun h => by
                            rw [stepW_next, h]
                            have := updW_same (stepW R0 s j Xf) s j
                            rw [stepW_at] at this
                            exact this
                          have HNo := Lib.hid hNo
                          have hYes : It.pick (R0 s j) (Xf j) = Xf j → stepW R0 s (j + 1) Xf = updW (stepW R0 s j Xf) s j (some (S, (mc : Int), (b : Int) :: y.2.2)) := fun h => by rw [stepW_next, h, HXj.out]
                          have HYes := Lib.hid hYes
                          clear hNo hYes
                          (try simp only [hw2])
                          cases ho : R0 s j with
                          | none =>
                            rw [ho] at g0 g1
                            have HEq : Hid (stepW R0 s (j + 1) Xf = updW (stepW R0 s j Xf) s j (some (S, (mc : Int), (b : Int) :: y.2.2))) := Lib.hid (HYes.out (by rw [ho, HXj.out]; rfl))
                            simp only [Option.isSome, bz] at g0 g1
                            clear ho
                            have hb6 := below_alloc w5 (.cells #[.bool false, .int .i64 0, .slice oa om oc] 80)
                            have HW6 := Lib.hid (HW5.out.below hb6)
                            have HX6 := Lib.hid (obj_kept hb6 HX5.out)
                            have HO6 := Lib.hid (HO5.out.mono hb6)
                            have HB6 := Lib.hid (below_step HB5.out hb6)
                            obtain ⟨W6, hW6⟩ : ∃ W6, W6 = w5.alloc (.cells #[.bool false, .int .i64 0, .slice oa om oc] 80) := ⟨_, rfl⟩
                            rw [← hW6] at HW6 HX6 HO6 HB6
                            have hb7 := below_alloc W6 (.cells #[.int .i64 b] 3)
                            have HNew : Hid (OwnN W6.heap.size (.slice (some ⟨W6.heap.size, 0, none⟩) 1 1) [(b : Int)] (W6.alloc (.cells #[.int .i64 b] 3))) := Lib.hid (own_new inC_len W6 [(b : Int)] 3 (by simp) #[.int .i64 b] rfl)
                            have HW7 := Lib.hid (HW6.out.below hb7)
                            have HX7 := Lib.hid (obj_kept hb7 HX6.out)
                            have HO7 := Lib.hid (HO6.out.mono hb7)
                            have y2 : W6.cell? ⟨X, 2, none⟩ = some (.slice va vm vc) := Lib.cell_of_heap HX6.out 2
                            have y2' : (W6.alloc (.cells #[.int .i64 b] 3)).cell? ⟨X, 2, none⟩ = some (.slice va vm vc) := Lib.cell_of_heap HX7.out 2
                            have HS7 := Lib.hid (HO7.out.at inC_len)
                            have hz7 : W6.heap.size ≤ (W6.alloc (.cells #[.int .i64 b] 3)).heap.size := by rw [World.size_alloc]; omega
                            have hrl : y.2.2.length ≤ 4000 := HLen.out
                            have HK6 := Lib.hid (below_alloc W6 (.cells #[.int .i64 b] 3))
                            clear hb6 hb7
                            go_upto_region 24 with fail
                            rw [← hW6]
                            clear hW6 g0 g1 g2
                            go_upto_region 25 with (at_builtin; refine wpList_append_slc Try.underlying23 infoInt11 rfl (by decide) inC_len inC_cell rfl _ _ rfl W6.heap.size _ _ [(b : Int)] y.2.2 rfl HNew.out rfl HS7.out (by simp; omega) (by unfold maxLen; simp; omega) hz7 ?_; intro v9 w9 h9 hg9; have HN9 := Lib.hid h9; have HB9 := Lib.hid (HK6.out.grown hg9 HK6.out.size (fun q h => by cases h; exact Nat.le_refl _)); clear hg9 h9)
                            obtain ⟨na, nn, nc, hv9⟩ := own_slice HN9.out
                            subst hv9
                            have HW9 := Lib.hid (HW6.out.below HB9.out)
                            have HX9 := Lib.hid (obj_kept HB9.out HX6.out)
                            have HO9 := Lib.hid (HO6.out.mono HB9.out)
                            have HB10 := Lib.hid (below_step HB6.out HB9.out)
                            have HN10 := Lib.hid (own_le11 HN9.out HB6.out.size)
                            obtain ⟨ua, um, uc, q0, q1, q2, _⟩ := HW9.out.rec (k := s) (q := j) hsn hj4
                            have hfz0 := HW9.out.fz (s * 12 + j * 3)
                            have hfz1 := HW9.out.fz (s * 12 + j * 3 + 1)
                            have hfz2 := HW9.out.fz (s * 12 + j * 3 + 2)
                            have hP := HW9.out.put (k := s) (q := j) hsn hj4 (S, (mc : Int), (b : Int) :: y.2.2) (v := .slice na nn nc) HN10.out
                            have HBX := Lib.hid (((HB10.out.setCell (p := ⟨bw, s * 12 + j * 3, none⟩) hbw (.bool true)).setCell (p := ⟨bw, s * 12 + j * 3 + 1, none⟩) hbw (.int .i64 S)).setCell (p := ⟨bw, s * 12 + j * 3 + 2, none⟩) hbw (.slice na nn nc))
                            obtain ⟨WX, hWX⟩ : ∃ WX, WX = ((w9.setCell ⟨bw, s * 12 + j * 3, none⟩ (.bool true)).setCell ⟨bw, s * 12 + j * 3 + 1, none⟩ (.int .i64 S)).setCell ⟨bw, s * 12 + j * 3 + 2, none⟩ (.slice na nn nc) := ⟨_, rfl⟩
                            have HPX : Hid (WaysAt w.heap.size bw n (stepW R0 s (j + 1) Xf) WX) := Lib.hid (by rw [HEq.out, hWX]; exact hP)
                            have HgX : Hid (w9.grownBy WX (some bw)) := Lib.hid (by rw [hWX]; exact grown_set (grown_set (grown_set (World.grownBy.refl w9 _) _) _) _)
                            have HXX2 := Lib.hid (obj_far HX9.out HgX.out (fun e => HW9.out.off HX9.out (by decide) (Option.some.inj e)))
                            have HOX2 : Hid (OwnN w.heap.size (.slice va vm vc) y.2.2 WX) := Lib.hid (World.ownsRow.kept HO9.out HgX.out (.inr fun e => HW9.out.offN HO9.out e.symm))
                            rw [← hWX] at HBX
                            clear hP y2 y2'
                            go_wp2_with fail
                            rw [← hWX]
                            clear hWX q0 q1 q2
                            go_roundw
                            case rel => exact ⟨j + 1, by omega, by go_num, HPX, HXX2, HOX2, HBX⟩
                            case measure => simp [intOf]; omega
                          | some o =>
                            rw [ho] at g0 g1
                            simp only [Option.isSome, bz] at g0 g1
                            by_cases hlt : S < o.1
                            · have HEq : Hid (stepW R0 s (j + 1) Xf = updW (stepW R0 s j Xf) s j (some (S, (mc : Int), (b : Int) :: y.2.2))) := Lib.hid (HYes.out (by rw [ho, HXj.out]; unfold It.pick; simp only []; rw [if_pos hlt]))
                              clear ho
                              have hb6 := below_alloc w5 (.cells #[.bool true, .int .i64 o.1, .slice oa om oc] 80)
                              have HW6 := Lib.hid (HW5.out.below hb6)
                              have HX6 := Lib.hid (obj_kept hb6 HX5.out)
                              have HO6 := Lib.hid (HO5.out.mono hb6)
                              have HB6 := Lib.hid (below_step HB5.out hb6)
                              obtain ⟨W6, hW6⟩ : ∃ W6, W6 = w5.alloc (.cells #[.bool true, .int .i64 o.1, .slice oa om oc] 80) := ⟨_, rfl⟩
                              rw [← hW6] at HW6 HX6 HO6 HB6
                              have hb7 := below_alloc W6 (.cells #[.int .i64 b] 3)
                              have HNew : Hid (OwnN W6.heap.size (.slice (some ⟨W6.heap.size, 0, none⟩) 1 1) [(b : Int)] (W6.alloc (.cells #[.int .i64 b] 3))) := Lib.hid (own_new inC_len W6 [(b : Int)] 3 (by simp) #[.int .i64 b] rfl)
                              have HW7 := Lib.hid (HW6.out.below hb7)
                              have HX7 := Lib.hid (obj_kept hb7 HX6.out)
                              have HO7 := Lib.hid (HO6.out.mono hb7)
                              have y2 : W6.cell? ⟨X, 2, none⟩ = some (.slice va vm vc) := Lib.cell_of_heap HX6.out 2
                              have y2' : (W6.alloc (.cells #[.int .i64 b] 3)).cell? ⟨X, 2, none⟩ = some (.slice va vm vc) := Lib.cell_of_heap HX7.out 2
                              have HS7 := Lib.hid (HO7.out.at inC_len)
                              have hz7 : W6.heap.size ≤ (W6.alloc (.cells #[.int .i64 b] 3)).heap.size := by rw [World.size_alloc]; omega
                              have hrl : y.2.2.length ≤ 4000 := HLen.out
                              have HK6 := Lib.hid (below_alloc W6 (.cells #[.int .i64 b] 3))
                              clear hb6 hb7
                              go_upto_region 24 with fail
                              rw [← hW6]
                              clear hW6 g0 g1 g2
                              go_upto_region 25 with (at_builtin; refine wpList_append_slc Try.underlying23 infoInt11 rfl (by decide) inC_len inC_cell rfl _ _ rfl W6.heap.size _ _ [(b : Int)] y.2.2 rfl HNew.out rfl HS7.out (by simp; omega) (by unfold maxLen; simp; omega) hz7 ?_; intro v9 w9 h9 hg9; have HN9 := Lib.hid h9; have HB9 := Lib.hid (HK6.out.grown hg9 HK6.out.size (fun q h => by cases h; exact Nat.le_refl _)); clear hg9 h9)
                              obtain ⟨na, nn, nc, hv9⟩ := own_slice HN9.out
                              subst hv9
                              have HW9 := Lib.hid (HW6.out.below HB9.out)
                              have HX9 := Lib.hid (obj_kept HB9.out HX6.out)
                              have HO9 := Lib.hid (HO6.out.mono HB9.out)
                              have HB10 := Lib.hid (below_step HB6.out HB9.out)
                              have HN10 := Lib.hid (own_le11 HN9.out HB6.out.size)
                              obtain ⟨ua, um, uc, q0, q1, q2, _⟩ := HW9.out.rec (k := s) (q := j) hsn hj4
                              have hfz0 := HW9.out.fz (s * 12 + j * 3)
                              have hfz1 := HW9.out.fz (s * 12 + j * 3 + 1)
                              have hfz2 := HW9.out.fz (s * 12 + j * 3 + 2)
                              have hP := HW9.out.put (k := s) (q := j) hsn hj4 (S, (mc : Int), (b : Int) :: y.2.2) (v := .slice na nn nc) HN10.out
                              have HBX := Lib.hid (((HB10.out.setCell (p := ⟨bw, s * 12 + j * 3, none⟩) hbw (.bool true)).setCell (p := ⟨bw, s * 12 + j * 3 + 1, none⟩) hbw (.int .i64 S)).setCell (p := ⟨bw, s * 12 + j * 3 + 2, none⟩) hbw (.slice na nn nc))
                              obtain ⟨WX, hWX⟩ : ∃ WX, WX = ((w9.setCell ⟨bw, s * 12 + j * 3, none⟩ (.bool true)).setCell ⟨bw, s * 12 + j * 3 + 1, none⟩ (.int .i64 S)).setCell ⟨bw, s * 12 + j * 3 + 2, none⟩ (.slice na nn nc) := ⟨_, rfl⟩
                              have HPX : Hid (WaysAt w.heap.size bw n (stepW R0 s (j + 1) Xf) WX) := Lib.hid (by rw [HEq.out, hWX]; exact hP)
                              have HgX : Hid (w9.grownBy WX (some bw)) := Lib.hid (by rw [hWX]; exact grown_set (grown_set (grown_set (World.grownBy.refl w9 _) _) _) _)
                              have HXX2 := Lib.hid (obj_far HX9.out HgX.out (fun e => HW9.out.off HX9.out (by decide) (Option.some.inj e)))
                              have HOX2 : Hid (OwnN w.heap.size (.slice va vm vc) y.2.2 WX) := Lib.hid (World.ownsRow.kept HO9.out HgX.out (.inr fun e => HW9.out.offN HO9.out e.symm))
                              rw [← hWX] at HBX
                              clear hP y2 y2'
                              go_wp2_with fail
                              rw [← hWX]
                              clear hWX q0 q1 q2
                              go_roundw
                              case rel => exact ⟨j + 1, by omega, by go_num, HPX, HXX2, HOX2, HBX⟩
                              case measure => simp [intOf]; omega
                            · have HEq : Hid (stepW R0 s (j + 1) Xf = stepW R0 s j Xf) := Lib.hid (HNo.out (by rw [ho, HXj.out]; unfold It.pick; simp only []; rw [if_neg hlt]))
                              clear ho
                              have hb6 := below_alloc w5 (.cells #[.bool true, .int .i64 o.1, .slice oa om oc] 80)
                              have HW6 := Lib.hid (HW5.out.below hb6)
                              have HX6 := Lib.hid (obj_kept hb6 HX5.out)
                              have HO6 := Lib.hid (HO5.out.mono hb6)
                              have HB6 := Lib.hid (below_step HB5.out hb6)
                              clear hb6
                              go_wp2
                              go_roundw
                              case rel => exact ⟨j + 1, by omega, by go_num, Lib.hid (by rw [HEq.out]; exact HW6.out), HX6, HO6, HB6⟩
                              case measure => simp [intOf]; omega
                        · obtain rfl : j = 4 := by omega
                          have HWe := Lib.hid (HEnd.out _ HWc.out)
                          go_wp2
                          go_roundw
                          case rel => exact ⟨b + 1, by omega, by omega, by go_num, Lib.hid (by rw [hbs]; exact HWe.out), HBc⟩
                          case measure => simp [intOf]; omega
                    · have eR : refR l t tol s (rowM l t tol s (b - s)) (b + 1) mc = It.way l t tol (b + 1) mc := by unfold refR; rw [if_neg (by rw [← Hn.out]; exact hlast), if_pos (by omega)]
                      rw [eR] at g0 g1 g3
                      have hbn1 : ((b : Int) == (n : Int) - 1) = false := by simp; omega
                      have hbnI : ¬ (b : Int) = (n : Int) - 1 := by omega
                      cases hy : It.way l t tol (b + 1) (mc : Int) with
                      | none =>
                        rw [hy] at g0 g1
                        simp only [Option.isSome, bz] at g0 g1
                        have HWn : Hid (WaysAt w.heap.size bw n (refR l t tol s (rowM l t tol s (b - s + 1))) w2) := Lib.hid (by
                          have e : rowM l t tol s (b - s + 1) = rowM l t tol s (b - s) := by
                            funext q
                            unfold rowM
                            simp only [It.accW]
                            have : It.candW l t tol (It.way l t tol) s q (s + (b - s)) = none := by
                              rw [show s + (b - s) = b by omega]
                              unfold It.candW
                              rw [show (s : Int) - 1 = a by omega, Hc.out]
                              simp only []
                              rw [hy]; rfl
                            rw [this]; rfl
                          rw [e]
                          exact HW2.out)
                        have hb3 := below_alloc w2 (.cells #[.bool false, .int .i64 0, .slice pa pm pc] 80)
                        have HW3 := Lib.hid (HWn.out.below hb3)
                        have HB3 := Lib.hid (below_step HB2.out hb3)
                        clear hb3 eR g3 hy
                        go_wp2
                        go_roundw
                        case rel => exact ⟨b + 1, by omega, by omega, by go_num, Lib.hid (by rw [hbs]; exact HW3.out), HB3⟩
                        case measure => simp [intOf]; omega
                      | some y =>
                        rw [hy] at g0 g1 g3
                        simp only [Option.isSome, bz, bl] at g0 g1 g3
                        have Hy := Lib.hid hy
                        have HLen : Hid (y.2.2.length ≤ 4000) := Lib.hid (by have := It.way_len (l := l) (t := t) (tol := tol) (k := b + 1) (by rw [← Hn.out]; omega) hy; rw [← Hn.out] at this; omega)
                        have hb3 := below_alloc w2 (.cells #[.bool true, .int .i64 y.1, .slice pa pm pc] 80)
                        have HWz := Lib.hid (HW2.out.below hb3)
                        have HXz := Lib.hid (obj_new w2 _ rfl #[.bool true, .int .i64 y.1, .slice pa pm pc] 80)
                        have HOz := Lib.hid (g3.mono hb3)
                        have HBz := Lib.hid (below_step HB2.out hb3)
                        obtain ⟨Wz, hWz⟩ : ∃ Wz, Wz = w2.alloc (.cells #[.bool true, .int .i64 y.1, .slice pa pm pc] 80) := ⟨_, rfl⟩
                        rw [← hWz] at HWz HXz HOz HBz
                        obtain ⟨X, hX⟩ : ∃ X, X = w2.heap.size := ⟨_, rfl⟩
                        rw [← hX] at HXz
                        obtain ⟨va, vm, vc, hva⟩ : ∃ va vm vc, va = pa ∧ vm = pm ∧ vc = pc := ⟨_, _, _, rfl, rfl, rfl⟩
                        obtain ⟨rfl, rfl, rfl⟩ := hva
                        clear hb3 eR g3 hy
                        have x0 : Wz.cell? ⟨X, 0, none⟩ = some (.bool true) := Lib.cell_of_heap HXz.out 0
                        go_upto_region 17 with fail
                        rw [← hWz, ← hX]
                        clear hWz hX g0 g1 g2
                        have HXf : Hid (∀ q : Nat, It.candW l t tol (It.way l t tol) s q b = some (d + It.apartZ mc q + y.1, (mc : Int), (b : Int) :: y.2.2)) := Lib.hid (fun q => by
                          unfold It.candW
                          rw [show (s : Int) - 1 = a by omega, Hc.out]
                          simp only []
                          rw [Hy.out]; rfl)
                        obtain ⟨R0, hR0⟩ : ∃ R0, R0 = refR l t tol s (rowM l t tol s (b - s)) := ⟨_, rfl⟩
                        obtain ⟨Xf, hXf⟩ : ∃ Xf : Nat → It.Way, Xf = fun q : Nat => It.candW l t tol (It.way l t tol) s q b := ⟨_, rfl⟩
                        have HXq : Hid (∀ q : Nat, Xf q = some (d + It.apartZ mc q + y.1, (mc : Int), (b : Int) :: y.2.2)) := Lib.hid (fun q => by rw [hXf]; exact HXf.out q)
                        have HEnd : Hid (∀ wx, WaysAt w.heap.size bw n (stepW R0 s 4 Xf) wx → WaysAt w.heap.size bw n (refR l t tol s (rowM l t tol s (b - s + 1))) wx) := Lib.hid (fun wx h => h.congr (by
                          have := stepW_row (l := l) (t := t) (tol := tol) (s := s) (m := b - s) (by rw [← Hn.out]; omega)
                          rw [show s + (b - s) = b by omega, ← Hn.out] at this
                          rw [hR0, hXf]
                          exact this))
                        rw [← hR0] at HWz
                        have HRy := Lib.hid (yrange Hy.out)
                        clear HXf hR0 hXf
                        go_wp2_with fail
                        go_loopw [17] (fun cv wr => ∃ j : Nat, j ≤ 4 ∧ cv = .int .i64 j ∧ Hid (WaysAt w.heap.size bw n (stepW R0 s j Xf) wr) ∧ Hid (wr.heap[X]? = some (.cells #[.bool true, .int .i64 y.1, .slice va vm vc] 80 (0, 0))) ∧ Hid (OwnN w.heap.size (.slice va vm vc) y.2.2 wr) ∧ Hid (Below w.heap.size w wr)) (fun cv _ => 4 - (intOf cv).toNat)
                        case atStart => exact ⟨0, Nat.zero_le _, rfl, Lib.hid (by rw [stepW_zero]; exact HWz.out), HXz, HOz, HBz⟩
                        case round =>
                          obtain ⟨j, hj, rfl, HWc, HXc, HOc, HBc⟩ := hrel
                          clear HWz HXz HOz HBz
                          by_cases hj4 : j < 4
                          · have j0 : (0 : Int) ≤ (j : Int) := by omega
                            have jl : (j : Int) < 4 := by omega
                            have x1 : wr.cell? ⟨X, 1, none⟩ = some (.int .i64 y.1) := Lib.cell_of_heap HXc.out 1
                            have HD := Lib.hid (below_drew10 wr)
                            have HAp := Lib.hid (refApart_any (mc : Int) (j : Int) ⟨by omega, by omega⟩ ⟨by omega, by omega⟩ wr.drew)
                            have hz0 := It.apartZ_range (mc : Int) (j : Int)
                            have hyr := HRy.out
                            rw [apart_is] at HAp
                            have hXj := HXq.out j
                            obtain ⟨S, hS⟩ : ∃ S, S = d + It.apartZ mc j + y.1 := ⟨_, rfl⟩
                            have hw1 : IntKind.i64.wrap (d + It.apartZ mc j) = d + It.apartZ mc j := It.wr_in (by omega) (by omega)
                            have hw2 : IntKind.i64.wrap (d + It.apartZ mc j + y.1) = S := by rw [hS]; exact It.wr_in (by omega) (by omega)
                            rw [← hS] at hXj
                            generalize It.apartZ (mc : Int) (j : Int) = z at HAp hz0 hw1 hw2 hS
                            have HXj := Lib.hid hXj
                            have HSz := Lib.hid hS
                            clear hXj hz0 hyr hS
                            go_wp2_with fail
                            go_region_held3 (fun w' => w'.cell? ⟨X, 1, none⟩ = some (.int .i64 y.1)) (first | (exact x1) | go_keep) (((with_reducible refine HAp.out.mono ?_); rintro e w5 ⟨rfl, rfl⟩))
                            have HXX := HD
                            obtain ⟨w5, hw5⟩ : ∃ w5, w5 = wr.drew := ⟨_, rfl⟩
                            rw [← hw5] at HXX ⊢
                            clear hw5 HAp HD
                            have HW5 := Lib.hid (HWc.out.below HXX.out)
                            have HX5 := Lib.hid (obj_kept HXX.out HXc.out)
                            have HO5 := Lib.hid (HOc.out.mono HXX.out)
                            have HB5 := Lib.hid (below_step HBc.out HXX.out)
                            clear x1
                            obtain ⟨oa, om, oc, g0, g1, g2, g3⟩ := HW5.out.rec (k := s) (q := j) hsn hj4
                            rw [stepW_at] at g0 g1 g3
                            have hfz0 := HW5.out.fz (s * 12 + j * 3)
                            have hfz1 := HW5.out.fz (s * 12 + j * 3 + 1)
                            have hfz2 := HW5.out.fz (s * 12 + j * 3 + 2)
                            have k0 : (0 : Int) ≤ (s : Int) := by omega
                            have kl : (s : Int) < (n : Int) + 1 := by omega
                            clear g3
                            have hNo : It.pick (R0 s j) (Xf j) = R0 s j → stepW R0 s (j + 1) Xf = stepW R0 s j Xf := fun h => by
                              rw [stepW_next, h]
                              have := updW_same (stepW R0 s j Xf) s j
                              rw [stepW_at] at this
                              exact this
                            have HNo := Lib.hid hNo
                            have hYes : It.pick (R0 s j) (Xf j) = Xf j → stepW R0 s (j + 1) Xf = updW (stepW R0 s j Xf) s j (some (S, (mc : Int), (b : Int) :: y.2.2)) := fun h => by rw [stepW_next, h, HXj.out]
                            have HYes := Lib.hid hYes
                            clear hNo hYes
                            (try simp only [hw2])
                            cases ho : R0 s j with
                            | none =>
                              rw [ho] at g0 g1
                              have HEq : Hid (stepW R0 s (j + 1) Xf = updW (stepW R0 s j Xf) s j (some (S, (mc : Int), (b : Int) :: y.2.2))) := Lib.hid (HYes.out (by rw [ho, HXj.out]; rfl))
                              simp only [Option.isSome, bz] at g0 g1
                              clear ho
                              have hb6 := below_alloc w5 (.cells #[.bool false, .int .i64 0, .slice oa om oc] 80)
                              have HW6 := Lib.hid (HW5.out.below hb6)
                              have HX6 := Lib.hid (obj_kept hb6 HX5.out)
                              have HO6 := Lib.hid (HO5.out.mono hb6)
                              have HB6 := Lib.hid (below_step HB5.out hb6)
                              obtain ⟨W6, hW6⟩ : ∃ W6, W6 = w5.alloc (.cells #[.bool false, .int .i64 0, .slice oa om oc] 80) := ⟨_, rfl⟩
                              rw [← hW6] at HW6 HX6 HO6 HB6
                              have hb7 := below_alloc W6 (.cells #[.int .i64 b] 3)
                              have HNew : Hid (OwnN W6.heap.size (.slice (some ⟨W6.heap.size, 0, none⟩) 1 1) [(b : Int)] (W6.alloc (.cells #[.int .i64 b] 3))) := Lib.hid (own_new inC_len W6 [(b : Int)] 3 (by simp) #[.int .i64 b] rfl)
                              have HW7 := Lib.hid (HW6.out.below hb7)
                              have HX7 := Lib.hid (obj_kept hb7 HX6.out)
                              have HO7 := Lib.hid (HO6.out.mono hb7)
                              have y2 : W6.cell? ⟨X, 2, none⟩ = some (.slice va vm vc) := Lib.cell_of_heap HX6.out 2
                              have y2' : (W6.alloc (.cells #[.int .i64 b] 3)).cell? ⟨X, 2, none⟩ = some (.slice va vm vc) := Lib.cell_of_heap HX7.out 2
                              have HS7 := Lib.hid (HO7.out.at inC_len)
                              have hz7 : W6.heap.size ≤ (W6.alloc (.cells #[.int .i64 b] 3)).heap.size := by rw [World.size_alloc]; omega
                              have hrl : y.2.2.length ≤ 4000 := HLen.out
                              have HK6 := Lib.hid (below_alloc W6 (.cells #[.int .i64 b] 3))
                              clear hb6 hb7
                              go_upto_region 24 with fail
                              rw [← hW6]
                              clear hW6 g0 g1 g2
                              go_upto_region 25 with (at_builtin; refine wpList_append_slc Try.underlying23 infoInt11 rfl (by decide) inC_len inC_cell rfl _ _ rfl W6.heap.size _ _ [(b : Int)] y.2.2 rfl HNew.out rfl HS7.out (by simp; omega) (by unfold maxLen; simp; omega) hz7 ?_; intro v9 w9 h9 hg9; have HN9 := Lib.hid h9; have HB9 := Lib.hid (HK6.out.grown hg9 HK6.out.size (fun q h => by cases h; exact Nat.le_refl _)); clear hg9 h9)
                              obtain ⟨na, nn, nc, hv9⟩ := own_slice HN9.out
                              subst hv9
                              have HW9 := Lib.hid (HW6.out.below HB9.out)
                              have HX9 := Lib.hid (obj_kept HB9.out HX6.out)
                              have HO9 := Lib.hid (HO6.out.mono HB9.out)
                              have HB10 := Lib.hid (below_step HB6.out HB9.out)
                              have HN10 := Lib.hid (own_le11 HN9.out HB6.out.size)
                              obtain ⟨ua, um, uc, q0, q1, q2, _⟩ := HW9.out.rec (k := s) (q := j) hsn hj4
                              have hfz0 := HW9.out.fz (s * 12 + j * 3)
                              have hfz1 := HW9.out.fz (s * 12 + j * 3 + 1)
                              have hfz2 := HW9.out.fz (s * 12 + j * 3 + 2)
                              have hP := HW9.out.put (k := s) (q := j) hsn hj4 (S, (mc : Int), (b : Int) :: y.2.2) (v := .slice na nn nc) HN10.out
                              have HBX := Lib.hid (((HB10.out.setCell (p := ⟨bw, s * 12 + j * 3, none⟩) hbw (.bool true)).setCell (p := ⟨bw, s * 12 + j * 3 + 1, none⟩) hbw (.int .i64 S)).setCell (p := ⟨bw, s * 12 + j * 3 + 2, none⟩) hbw (.slice na nn nc))
                              obtain ⟨WX, hWX⟩ : ∃ WX, WX = ((w9.setCell ⟨bw, s * 12 + j * 3, none⟩ (.bool true)).setCell ⟨bw, s * 12 + j * 3 + 1, none⟩ (.int .i64 S)).setCell ⟨bw, s * 12 + j * 3 + 2, none⟩ (.slice na nn nc) := ⟨_, rfl⟩
                              have HPX : Hid (WaysAt w.heap.size bw n (stepW R0 s (j + 1) Xf) WX) := Lib.hid (by rw [HEq.out, hWX]; exact hP)
                              have HgX : Hid (w9.grownBy WX (some bw)) := Lib.hid (by rw [hWX]; exact grown_set (grown_set (grown_set (World.grownBy.refl w9 _) _) _) _)
                              have HXX2 := Lib.hid (obj_far HX9.out HgX.out (fun e => HW9.out.off HX9.out (by decide) (Option.some.inj e)))
                              have HOX2 : Hid (OwnN w.heap.size (.slice va vm vc) y.2.2 WX) := Lib.hid (World.ownsRow.kept HO9.out HgX.out (.inr fun e => HW9.out.offN HO9.out e.symm))
                              rw [← hWX] at HBX
                              clear hP y2 y2'
                              go_wp2_with fail
                              rw [← hWX]
                              clear hWX q0 q1 q2
                              go_roundw
                              case rel => exact ⟨j + 1, by omega, by go_num, HPX, HXX2, HOX2, HBX⟩
                              case measure => simp [intOf]; omega
                            | some o =>
                              rw [ho] at g0 g1
                              simp only [Option.isSome, bz] at g0 g1
                              by_cases hlt : S < o.1
                              · have HEq : Hid (stepW R0 s (j + 1) Xf = updW (stepW R0 s j Xf) s j (some (S, (mc : Int), (b : Int) :: y.2.2))) := Lib.hid (HYes.out (by rw [ho, HXj.out]; unfold It.pick; simp only []; rw [if_pos hlt]))
                                clear ho
                                have hb6 := below_alloc w5 (.cells #[.bool true, .int .i64 o.1, .slice oa om oc] 80)
                                have HW6 := Lib.hid (HW5.out.below hb6)
                                have HX6 := Lib.hid (obj_kept hb6 HX5.out)
                                have HO6 := Lib.hid (HO5.out.mono hb6)
                                have HB6 := Lib.hid (below_step HB5.out hb6)
                                obtain ⟨W6, hW6⟩ : ∃ W6, W6 = w5.alloc (.cells #[.bool true, .int .i64 o.1, .slice oa om oc] 80) := ⟨_, rfl⟩
                                rw [← hW6] at HW6 HX6 HO6 HB6
                                have hb7 := below_alloc W6 (.cells #[.int .i64 b] 3)
                                have HNew : Hid (OwnN W6.heap.size (.slice (some ⟨W6.heap.size, 0, none⟩) 1 1) [(b : Int)] (W6.alloc (.cells #[.int .i64 b] 3))) := Lib.hid (own_new inC_len W6 [(b : Int)] 3 (by simp) #[.int .i64 b] rfl)
                                have HW7 := Lib.hid (HW6.out.below hb7)
                                have HX7 := Lib.hid (obj_kept hb7 HX6.out)
                                have HO7 := Lib.hid (HO6.out.mono hb7)
                                have y2 : W6.cell? ⟨X, 2, none⟩ = some (.slice va vm vc) := Lib.cell_of_heap HX6.out 2
                                have y2' : (W6.alloc (.cells #[.int .i64 b] 3)).cell? ⟨X, 2, none⟩ = some (.slice va vm vc) := Lib.cell_of_heap HX7.out 2
                                have HS7 := Lib.hid (HO7.out.at inC_len)
                                have hz7 : W6.heap.size ≤ (W6.alloc (.cells #[.int .i64 b] 3)).heap.size := by rw [World.size_alloc]; omega
                                have hrl : y.2.2.length ≤ 4000 := HLen.out
                                have HK6 := Lib.hid (below_alloc W6 (.cells #[.int .i64 b] 3))
                                clear hb6 hb7
                                go_upto_region 24 with fail
                                rw [← hW6]
                                clear hW6 g0 g1 g2
                                go_upto_region 25 with (at_builtin; refine wpList_append_slc Try.underlying23 infoInt11 rfl (by decide) inC_len inC_cell rfl _ _ rfl W6.heap.size _ _ [(b : Int)] y.2.2 rfl HNew.out rfl HS7.out (by simp; omega) (by unfold maxLen; simp; omega) hz7 ?_; intro v9 w9 h9 hg9; have HN9 := Lib.hid h9; have HB9 := Lib.hid (HK6.out.grown hg9 HK6.out.size (fun q h => by cases h; exact Nat.le_refl _)); clear hg9 h9)
                                obtain ⟨na, nn, nc, hv9⟩ := own_slice HN9.out
                                subst hv9
                                have HW9 := Lib.hid (HW6.out.below HB9.out)
                                have HX9 := Lib.hid (obj_kept HB9.out HX6.out)
                                have HO9 := Lib.hid (HO6.out.mono HB9.out)
                                have HB10 := Lib.hid (below_step HB6.out HB9.out)
                                have HN10 := Lib.hid (own_le11 HN9.out HB6.out.size)
                                obtain ⟨ua, um, uc, q0, q1, q2, _⟩ := HW9.out.rec (k := s) (q := j) hsn hj4
                                have hfz0 := HW9.out.fz (s * 12 + j * 3)
                                have hfz1 := HW9.out.fz (s * 12 + j * 3 + 1)
                                have hfz2 := HW9.out.fz (s * 12 + j * 3 + 2)
                                have hP := HW9.out.put (k := s) (q := j) hsn hj4 (S, (mc : Int), (b : Int) :: y.2.2) (v := .slice na nn nc) HN10.out
                                have HBX := Lib.hid (((HB10.out.setCell (p := ⟨bw, s * 12 + j * 3, none⟩) hbw (.bool true)).setCell (p := ⟨bw, s * 12 + j * 3 + 1, none⟩) hbw (.int .i64 S)).setCell (p := ⟨bw, s * 12 + j * 3 + 2, none⟩) hbw (.slice na nn nc))
                                obtain ⟨WX, hWX⟩ : ∃ WX, WX = ((w9.setCell ⟨bw, s * 12 + j * 3, none⟩ (.bool true)).setCell ⟨bw, s * 12 + j * 3 + 1, none⟩ (.int .i64 S)).setCell ⟨bw, s * 12 + j * 3 + 2, none⟩ (.slice na nn nc) := ⟨_, rfl⟩
                                have HPX : Hid (WaysAt w.heap.size bw n (stepW R0 s (j + 1) Xf) WX) := Lib.hid (by rw [HEq.out, hWX]; exact hP)
                                have HgX : Hid (w9.grownBy WX (some bw)) := Lib.hid (by rw [hWX]; exact grown_set (grown_set (grown_set (World.grownBy.refl w9 _) _) _) _)
                                have HXX2 := Lib.hid (obj_far HX9.out HgX.out (fun e => HW9.out.off HX9.out (by decide) (Option.some.inj e)))
                                have HOX2 : Hid (OwnN w.heap.size (.slice va vm vc) y.2.2 WX) := Lib.hid (World.ownsRow.kept HO9.out HgX.out (.inr fun e => HW9.out.offN HO9.out e.symm))
                                rw [← hWX] at HBX
                                clear hP y2 y2'
                                go_wp2_with fail
                                rw [← hWX]
                                clear hWX q0 q1 q2
                                go_roundw
                                case rel => exact ⟨j + 1, by omega, by go_num, HPX, HXX2, HOX2, HBX⟩
                                case measure => simp [intOf]; omega
                              · have HEq : Hid (stepW R0 s (j + 1) Xf = stepW R0 s j Xf) := Lib.hid (HNo.out (by rw [ho, HXj.out]; unfold It.pick; simp only []; rw [if_neg hlt]))
                                clear ho
                                have hb6 := below_alloc w5 (.cells #[.bool true, .int .i64 o.1, .slice oa om oc] 80)
                                have HW6 := Lib.hid (HW5.out.below hb6)
                                have HX6 := Lib.hid (obj_kept hb6 HX5.out)
                                have HO6 := Lib.hid (HO5.out.mono hb6)
                                have HB6 := Lib.hid (below_step HB5.out hb6)
                                clear hb6
                                go_wp2
                                go_roundw
                                case rel => exact ⟨j + 1, by omega, by go_num, Lib.hid (by rw [HEq.out]; exact HW6.out), HX6, HO6, HB6⟩
                                case measure => simp [intOf]; omega
                          · obtain rfl : j = 4 := by omega
                            have HWe := Lib.hid (HEnd.out _ HWc.out)
                            go_wp2
                            go_roundw
                            case rel => exact ⟨b + 1, by omega, by omega, by go_num, Lib.hid (by rw [hbs]; exact HWe.out), HBc⟩
                            case measure => simp [intOf]; omega
                · have hE : b = n := by omega
                  have HWe : Hid (WaysAt w.heap.size bw n (refM l t tol s) wr) := Lib.hid (by
                    by_cases hs : s = n
                    · have e : refR l t tol s (rowM l t tol s (b - s)) = refM l t tol s := by
                        rw [show s = l.length by rw [← Hn.out]; exact hs]
                        exact refM_last l t tol _
                      rw [← e]
                      exact HWb.out
                    · rw [← refM_done, ← rowM_rest (m := b - s) (by rw [← Hn.out]; omega) (by rw [← Hn.out]; omega) (fun c hc => It.cost_illegal (legal_far (by rw [← Hn.out]; omega)) _ t tol)]
                      exact HWb.out)
                  go_wp2
                  go_roundw
                  case rel => exact ⟨a - 1, s, by omega, by omega, by go_num, HWe, HBb⟩
                  case measure => simp [intOf]; omega
        · obtain rfl : m = 0 := by omega
          obtain ⟨pa, pm, pc, r0, r1, r2, r3⟩ := HWr.out.rec (k := 0) (q := 2) (Nat.zero_le _) (by omega)
          have eR : refM l t tol 0 0 2 = It.way l t tol 0 2 := by unfold refM; rw [if_neg (by rw [← Hn.out]; omega), if_pos (Nat.le_refl _)]; rfl
          rw [eR] at r0 r1 r3
          have g0 : wr.cell? ⟨bw, 6, none⟩ = some (.bool (It.way l t tol 0 2).isSome) := r0
          have g1 : wr.cell? ⟨bw, 7, none⟩ = some (.int .i64 (bz (It.way l t tol 0 2))) := r1
          have g2 : wr.cell? ⟨bw, 8, none⟩ = some (.slice pa pm pc) := r2
          have hN := Lib.hid r3
          clear r0 r1 r2 r3 eR
          obtain ⟨D, hD⟩ : ∃ D, D = bz (It.way l t tol 0 2) := ⟨_, rfl⟩
          obtain ⟨O, hO⟩ : ∃ O, O = (It.way l t tol 0 2).isSome := ⟨_, rfl⟩
          have HDz := Lib.hid hD
          have HOz := Lib.hid hO
          rw [← hD] at g1
          rw [← hO] at g0
          clear hD hO
          have hb8 := below_alloc wr (.cells #[.bool O, .int .i64 D, .slice pa pm pc] 80)
          have HX8 := Lib.hid (obj_new wr _ rfl #[.bool O, .int .i64 D, .slice pa pm pc] 80)
          have HN8 := Lib.hid (hN.out.mono hb8)
          have HB8 := Lib.hid (below_step HBr.out hb8)
          obtain ⟨W8, hW8⟩ : ∃ W8, W8 = wr.alloc (.cells #[.bool O, .int .i64 D, .slice pa pm pc] 80) := ⟨_, rfl⟩
          rw [← hW8] at HX8 HN8 HB8
          obtain ⟨Q, hQ⟩ : ∃ Q, Q = wr.heap.size := ⟨_, rfl⟩
          rw [← hQ] at HX8
          clear hb8
          go_upto_region 27 with fail
          rw [← hW8, ← hQ]
          clear hW8 hQ g0 g1 g2
          have q0 : W8.cell? ⟨Q, 0, none⟩ = some (.bool O) := Lib.cell_of_heap HX8.out 0
          have q1 : W8.cell? ⟨Q, 1, none⟩ = some (.int .i64 D) := Lib.cell_of_heap HX8.out 1
          have q2 : W8.cell? ⟨Q, 2, none⟩ = some (.slice pa pm pc) := Lib.cell_of_heap HX8.out 2
          go_quiet (fail)
          go_wp2
          go_ret3
          rw [HDz.out, HOz.out]
          exact ⟨_, rfl, HN8.out.mono (below_drew _ _), below_step HB8.out (below_drew _ _)⟩
end Go.Proofs.Ythcilpijiindeaa
