/-
  ElabSpans: paragraphs follow one another without a gap, from a side's first word to its last one, and so do a stanza's lines, each with a word; each lemma has a word, and lies in one line or paragraph; two sides have as many chunks.
-/
import Derived.BigQuiet
import Derived.Deep.RegionHeld3
import Derived.Test.YtmaplllahikkgaaGreatDoorQBad14
set_option linter.unusedVariables false
set_option linter.unusedSimpArgs false
namespace Go.Proofs.YtmaplllahikkgaaGreatDoor
open Go.RowKit
attribute [local irreducible] El.made El.visit El.finish

theorem drop_at14 {α : Type} {l : List α} {k : Nat} {x : α} (h : l[k]? = some x) : l.drop k = x :: l.drop (k + 1) := by
  obtain ⟨hl, hx⟩ := List.getElem?_eq_some_iff.1 h
  rw [List.drop_eq_getElem_cons hl, hx]
set_option maxHeartbeats 8000000 in
set_option maxRecDepth 100000 in
theorem elabSpans_any (l : List El.Nd) (v tv : Value) (t : List Sg.Sig) (w : World) (hl : NodesAt w (fun _ => True) v l) (hsz : El.sizeL l ≤ lim14) (ht : SgsAt w tv t) (hE : Envs14 w) : Calls Tryz.prog 6 #[v, tv] w (Ret (.bool true) w) := by
  have HE := Lib.hid hE
  have HMk := Lib.hid (landedMake_any l v tv t w hl hsz ht hE.lib hE.ser hE.err)
  obtain ⟨⟨pv, cv, rfl, _⟩, _, _⟩ := hl
  obtain ⟨⟨ptv, ctv, rfl, _⟩, _, _⟩ := ht
  clear hsz hE
  go_enter Tryz.func6, Tryz.ntmps6
  go_wp2_with fail
  refine HMk.out.mono ?_
  intro e w1 hm
  obtain ⟨hb, hres⟩ := doc_spans hm
  clear hm HMk
  rcases hres with ⟨vs, vl, s, rfl, hS, hL, hOk⟩ | ⟨c, a, rfl, hc⟩
  case inr =>
    have b2 := below_step (below_alloc w1 (.cells #[.slice none 0 0, .slice none 0 0] 29)) (below_alloc _ (.cells #[.int .i64 c, .int .i64 a] 32))
    have p1 := obj_kept (below_alloc (w1.alloc (.cells #[.slice none 0 0, .slice none 0 0] 29)) (.cells #[.int .i64 c, .int .i64 a] 32)) (obj_new w1 _ rfl #[.slice none 0 0, .slice none 0 0] 29)
    have p2 := obj_new (w1.alloc (.cells #[.slice none 0 0, .slice none 0 0] 29)) (w1.heap.size + 1) (by simp) #[.int .i64 c, .int .i64 a] 32
    obtain ⟨W, hW⟩ : ∃ W, W = (w1.alloc (.cells #[.slice none 0 0, .slice none 0 0] 29)).alloc (.cells #[.int .i64 c, .int .i64 a] 32) := ⟨_, rfl⟩
    rw [← hW] at b2 p1 p2
    have HBW := Lib.hid (below_step hb b2)
    have HP1 := Lib.hid p1
    have HP2 := Lib.hid p2
    have HFx := Lib.hid (fun wx (h : Below W.heap.size W wx) => fixed_any wx (HE.out.mono (below_step HBW.out h)))
    have hcq : (c == 0) = false := beq_eq_false_iff_ne.2 hc
    clear hb b2 p1 p2 hc
    go_upto_region 2 with fail
    rw [← hW]
    clear hW
    go_wp2_with fail
    refine (HFx.out _ (Below.refl _ _)).mono ?_
    rintro e w2 ⟨rfl, hb⟩
    have HB2 := Lib.hid hb
    have q2 := mcell (obj_kept hb HP2.out) 0 rfl
    clear hb
    go_wp2_with fail
    refine (HFx.out _ HB2.out).mono ?_
    rintro e w3 ⟨rfl, hb⟩
    have HB3 := Lib.hid (below_step HB2.out hb)
    have r0 := mcell (obj_kept HB3.out HP1.out) 0 rfl
    have r1 := mcell (obj_kept HB3.out HP1.out) 1 rfl
    clear hb q2
    go_wp2
    go_ret
    exact ⟨rfl, below_step HBW.out HB3.out⟩
  obtain ⟨ps, cs, rfl, hsm⟩ := sides_head hS
  obtain ⟨⟨pl, cl, rfl, hlc⟩, hlm, _⟩ := hL
  obtain ⟨ns, hns⟩ : ∃ ns, ns = s.sides.length := ⟨_, rfl⟩
  have Hns := Lib.hid hns
  generalize s.labels.length = nl at *
  rw [← hns] at hS hsm ⊢
  have HOk := Lib.hid hOk
  have hzs : ns ≤ 9223372036854775807 := by unfold maxLen at hsm; omega
  have b2 := below_step (below_alloc w1 (.cells #[.slice ps ns cs, .slice pl nl cl] 29)) (below_alloc _ (.cells #[.int .i64 0, .int .i64 0] 32))
  have p1 := obj_kept (below_alloc (w1.alloc (.cells #[.slice ps ns cs, .slice pl nl cl] 29)) (.cells #[.int .i64 0, .int .i64 0] 32)) (obj_new w1 _ rfl #[.slice ps ns cs, .slice pl nl cl] 29)
  have p2 := obj_new (w1.alloc (.cells #[.slice ps ns cs, .slice pl nl cl] 29)) (w1.heap.size + 1) (by simp) #[.int .i64 0, .int .i64 0] 32
  obtain ⟨W, hW⟩ : ∃ W, W = (w1.alloc (.cells #[.slice ps ns cs, .slice pl nl cl] 29)).alloc (.cells #[.int .i64 0, .int .i64 0] 32) := ⟨_, rfl⟩
  rw [← hW] at b2 p1 p2
  have HBW := Lib.hid (below_step hb b2)
  have HSW := Lib.hid (hS.mono b2)
  have HP1 := Lib.hid p1
  have HP2 := Lib.hid p2
  have HFx := Lib.hid (fun wx (h : Below W.heap.size W wx) => fixed_any wx (HE.out.mono (below_step HBW.out h)))
  clear hb b2 p1 p2 hS hOk hsm hlm hns hlc
  go_upto_region 2 with fail
  rw [← hW]
  clear hW
  go_wp2_with fail
  refine (HFx.out _ (Below.refl _ _)).mono ?_
  rintro e w2 ⟨rfl, hb⟩
  have HB2 := Lib.hid hb
  have q2 := mcell (obj_kept hb HP2.out) 0 rfl
  clear hb
  go_wp2_with fail
  clear q2
  go_loopw [7] (fun iv wr => ∃ i : Nat, i ≤ ns ∧ iv = .int .i64 i ∧ Hid (Below W.heap.size W wr)) (fun iv _ => ns - (intOf iv).toNat)
  case atStart => exact ⟨0, Nat.zero_le _, rfl, HB2⟩
  case round =>
    obtain ⟨i, hi, rfl, HBi⟩ := hrel
    clear HB2
    have d0 := mcell (obj_kept HBi.out HP1.out) 0 rfl
    by_cases hil : i < ns
    · obtain ⟨d, hd⟩ : ∃ d, s.sides[i]? = some d := ⟨_, List.getElem?_eq_getElem (by rw [← Hns.out]; exact hil)⟩
      obtain ⟨bs, os, cps, es, pc, pw, pn, cc, cw, cn, hside⟩ := side_get HSW.out hd
      rw [← Hns.out] at es
      obtain ⟨rfl, rfl⟩ : ps = some ⟨bs, os, none⟩ ∧ cs = cps := by injection es with a1 a2 a3; exact ⟨a1, a3⟩
      have HSd := Lib.hid hside
      obtain ⟨x0, x1, x2, _, _⟩ := hside.mono HBi.out
      obtain ⟨hchne, hspan⟩ := HOk.out.sides d (List.mem_of_getElem? hd)
      have HSpan := Lib.hid hspan
      have i0 : (0 : Int) ≤ (i : Int) := by omega
      have iln : (i : Int) < (ns : Int) := by omega
      obtain ⟨nc, hnc⟩ : ∃ nc, nc = d.chunks.length := ⟨_, rfl⟩
      obtain ⟨nw, hnw⟩ : ∃ nw, nw = d.words.length := ⟨_, rfl⟩
      obtain ⟨nn, hnn⟩ : ∃ nn, nn = d.notes.length := ⟨_, rfl⟩
      have Hnc := Lib.hid hnc
      have Hnn := Lib.hid hnn
      have hncp : 0 < nc := by rw [hnc]; exact List.length_pos_iff.2 hchne
      have hcm := chunks_lenM hside.chunks
      have hzc : nc ≤ 9223372036854775807 := by rw [hnc]; unfold maxLen at hcm; omega
      have HCk := Lib.hid hside.chunks
      have HNt := Lib.hid hside.notes
      rw [← hnc] at x0 HCk
      rw [← hnw] at x1 HSpan
      rw [← hnn] at x2 HNt
      obtain ⟨wi, hwi⟩ : ∃ wi, wi = wr := ⟨_, rfl⟩
      rw [← hwi] at HBi d0 x0 x1 x2 ⊢
      have hbx := below_alloc wi (.cells #[.slice pc nc cc, .slice pw nw cw, .slice pn nn cn] 41)
      have hox := obj_new wi _ rfl #[.slice pc nc cc, .slice pw nw cw, .slice pn nn cn] 41
      obtain ⟨wq, hwq⟩ : ∃ wq, wq = wi.alloc (.cells #[.slice pc nc cc, .slice pw nw cw, .slice pn nn cn] 41) := ⟨_, rfl⟩
      rw [← hwq] at hbx hox
      obtain ⟨H, hH⟩ : ∃ H, H = wi.heap.size := ⟨_, rfl⟩
      rw [← hH] at hox
      have HOx := Lib.hid hox
      have HBq := Lib.hid (below_step HBi.out hbx)
      have HWq := Lib.hid hwq
      have HHe := Lib.hid hH
      have HBq0 : Hid (Below wq.heap.size wq wq) := Lib.hid (Below.refl _ _)
      clear hd es hside hchne hspan hnc hnw hnn hcm hbx hox hwq hH hwi
      go_upto_region 8 with fail
      rw [← HWq.out, ← HHe.out]
      clear x0 x1 x2 d0 HWq HHe
      go_wp2_with fail
      go_loopw [9, 10] (fun av cv wr => ∃ A c : Nat, c ≤ nc ∧ cv = .int .i64 c ∧ av = .int .i64 A ∧ Hid (El.ChunksOk d.notes A (d.chunks.drop c) nw) ∧ Hid (Below wq.heap.size wq wr)) (fun _ cv _ => nc - (intOf cv).toNat)
      case atStart => exact ⟨0, 0, Nat.zero_le _, rfl, rfl, HSpan, HBq0⟩
      case round =>
        obtain ⟨A, c, hc, rfl, rfl, HCh, HBc⟩ := hrel
        clear HSpan HBq0
        have s0 := mcell (obj_kept HBc.out HOx.out) 0 rfl
        have s1 := mcell (obj_kept HBc.out HOx.out) 1 rfl
        by_cases hcl : c < nc
        · obtain ⟨ch, hch⟩ : ∃ ch, d.chunks[c]? = some ch := ⟨_, List.getElem?_eq_getElem (by rw [← Hnc.out]; exact hcl)⟩
          obtain ⟨bc, oc, cpc, ec, pp, cq, hcell, hparas⟩ := chunk_get HCk.out hch
          rw [← Hnc.out] at ec
          obtain ⟨rfl, rfl⟩ : pc = some ⟨bc, oc, none⟩ ∧ cc = cpc := by injection ec with a1 a2 a3; exact ⟨a1, a3⟩
          have hchk := HCh.out
          rw [drop_at14 hch] at hchk
          unfold El.ChunksOk at hchk
          obtain ⟨hne, m, hpo, hrest⟩ := hchk
          have HPo := Lib.hid hpo
          have HRest := Lib.hid hrest
          have c0 : (0 : Int) ≤ (c : Int) := by omega
          have cln : (c : Int) < (nc : Int) := by omega
          obtain ⟨np, hnp⟩ : ∃ np, np = ch.length := ⟨_, rfl⟩
          have Hnp := Lib.hid hnp
          have hnpp : 0 < np := by rw [hnp]; exact List.length_pos_iff.2 hne
          have hpm := paras_lenM hparas
          have hzp : np ≤ 9223372036854775807 := by rw [hnp]; unfold maxLen at hpm; omega
          rw [← hnp] at hcell hparas
          have HPs := Lib.hid hparas
          have HCell := Lib.hid hcell
          obtain ⟨wc, hwc⟩ : ∃ wc, wc = wr := ⟨_, rfl⟩
          rw [← hwc] at HBc s0 s1 ⊢
          have HBc0 := HBc
          clear hch ec hne hpo hrest hnp hpm hparas hcell hwc
          go_wp2_with fail
          clear s0 s1
          go_loopw [9, 11] (fun av pv wr => ∃ A2 p : Nat, p ≤ np ∧ pv = .int .i64 p ∧ av = .int .i64 A2 ∧ Hid (El.ParasOk d.notes A2 (ch.drop p) m) ∧ Hid (Below wq.heap.size wq wr)) (fun _ pv _ => np - (intOf pv).toNat)
          case atStart => exact ⟨A, 0, Nat.zero_le _, rfl, rfl, HPo, HBc0⟩
          case round =>
            obtain ⟨A2, p, hp, rfl, rfl, HPa, HBp⟩ := hrel
            clear HPo HBc0 HBc
            have s0 := mcell (obj_kept HBp.out HOx.out) 0 rfl
            have u0 := cell_below (below_step HBq.out HBp.out) HCell.out
            by_cases hpl : p < np
            · obtain ⟨x, hx⟩ : ∃ x, ch[p]? = some x := ⟨_, List.getElem?_eq_getElem (by rw [← Hnp.out]; exact hpl)⟩
              obtain ⟨bp, op, cpp, ep, pe, ce, hpara⟩ := para_get HPs.out hx
              rw [← Hnp.out] at ep
              obtain ⟨rfl, rfl⟩ : pp = some ⟨bp, op, none⟩ ∧ cq = cpp := by injection ep with a1 a2 a3; exact ⟨a1, a3⟩
              have hpa := HPa.out
              rw [drop_at14 hx] at hpa
              unfold El.ParasOk at hpa
              obtain ⟨hfr, hen, hver, hnum, m2, heo, hprest⟩ := hpa
              have HEo := Lib.hid heo
              have HPr := Lib.hid hprest
              obtain ⟨z0, z1, z2, z3, _⟩ := hpara.mono (below_step HBq.out HBp.out)
              have HEn := Lib.hid hpara.ends
              have p0 : (0 : Int) ≤ (p : Int) := by omega
              have pln : (p : Int) < (np : Int) := by omega
              obtain ⟨ne, hne⟩ : ∃ ne, ne = x.ends.length := ⟨_, rfl⟩
              have Hne := Lib.hid hne
              have hnep : 0 < ne := by rw [hne]; exact List.length_pos_iff.2 hen
              have hem : ne ≤ 9223372036854775807 := by rw [hne]; have := hpara.ends.2.1; unfold maxLen at this; omega
              rw [← hne] at z3 HEn hver
              obtain ⟨vz, hvz⟩ : ∃ vz, vz = x.verse := ⟨_, rfl⟩
              obtain ⟨nu, hnu⟩ : ∃ nu : Int, nu = (x.num : Int) := ⟨_, rfl⟩
              have nu0 : 0 ≤ nu := by omega
              have nu1 : nu ≤ 9999 := by omega
              rw [hfr] at z1
              rw [← hvz] at z0 hver
              rw [← hnu] at z2
              have nz : ((ne : Int) == 0) = false := by rw [beq_eq_false_iff_ne]; omega
              have nv : vz = false → ¬ ¬ (ne : Int) = 1 := fun h => by have := hver h; omega
              obtain ⟨wp, hwp⟩ : ∃ wp, wp = wr := ⟨_, rfl⟩
              rw [← hwp] at HBp s0 u0 z0 z1 z2 z3 ⊢
              have hbx := below_alloc wp (.cells #[.bool vz, .int .i64 (A2 : Int), .int .i64 nu, .slice pe ne ce] 54)
              have hox := obj_new wp _ rfl #[.bool vz, .int .i64 (A2 : Int), .int .i64 nu, .slice pe ne ce] 54
              obtain ⟨wz, hwz⟩ : ∃ wz, wz = wp.alloc (.cells #[.bool vz, .int .i64 (A2 : Int), .int .i64 nu, .slice pe ne ce] 54) := ⟨_, rfl⟩
              rw [← hwz] at hbx hox
              obtain ⟨H2, hH2⟩ : ∃ H2, H2 = wp.heap.size := ⟨_, rfl⟩
              rw [← hH2] at hox
              have HOz := Lib.hid hox
              have HBz := Lib.hid (below_step HBp.out hbx)
              have HWz := Lib.hid hwz
              have HH2 := Lib.hid hH2
              have HZ0 : Hid (Below wz.heap.size wz wz) := Lib.hid (Below.refl _ _)
              have o0 := mcell hox 0 rfl
              have o1 := mcell hox 1 rfl
              have o2 := mcell hox 2 rfl
              have o3 := mcell hox 3 rfl
              clear hx ep hen hnum heo hprest hpara hne hver hvz hnu hbx hox hwz hH2 hfr hwp
              go_upto_region 16 with fail
              rw [← HWz.out, ← HH2.out]
              clear z0 z1 z2 z3 s0 u0 HWz HH2
              cases vz
              case' false => have nv1 := nv rfl
              case' true => have nv1 := trivial
              all_goals
                clear nv
                go_wp2_with fail
                clear o0 o1 o2 o3 nv1 nz nu0 nu1
                go_loopw [9, 13] (fun av ev wr => ∃ A3 e : Nat, e ≤ ne ∧ ev = .int .i64 e ∧ av = .int .i64 A3 ∧ Hid (El.EndsOk d.notes A3 (x.ends.drop e) m2) ∧ Hid (Below wz.heap.size wz wr)) (fun _ ev _ => ne - (intOf ev).toNat)
                case atStart => exact ⟨A2, 0, Nat.zero_le _, rfl, rfl, HEo, HZ0⟩
                case round =>
                  obtain ⟨A3, e, he, rfl, rfl, HEe, HBe⟩ := hrel
                  clear HEo HZ0
                  have o3 := mcell (obj_kept HBe.out HOz.out) 3 rfl
                  have HBqe := Lib.hid (below_step HBz.out HBe.out)
                  by_cases hel : e < ne
                  · obtain ⟨be, oe, cpe, ee, re⟩ := HEn.out.2.2 (by rw [← Hne.out]; omega)
                    rw [← Hne.out] at ee
                    obtain ⟨rfl, rfl⟩ : pe = some ⟨be, oe, none⟩ ∧ ce = cpe := by injection ee with a1 a2 a3; exact ⟨a1, a3⟩
                    obtain ⟨E, hEx⟩ : ∃ E, x.ends[e]? = some E := ⟨_, List.getElem?_eq_getElem (by rw [← Hne.out]; exact hel)⟩
                    have y0 := ((re e E hEx).mono (below_step HBq.out HBqe.out)) 0 _ rfl
                    rw [Nat.mul_one, Nat.add_zero] at y0
                    have hee := HEe.out
                    rw [drop_at14 hEx] at hee
                    unfold El.EndsOk at hee
                    obtain ⟨hlt, hin, hrest⟩ := hee
                    have HEr := Lib.hid hrest
                    have s2 := mcell (obj_kept HBqe.out HOx.out) 2 rfl
                    have e0 : (0 : Int) ≤ (e : Int) := by omega
                    have eln : (e : Int) < (ne : Int) := by omega
                    have HD : Hid (Below wz.heap.size wz wr.drew) := Lib.hid (below_step HBe.out (below_drew wr 1))
                    have HIn := Lib.hid (inside_any (.slice pn nn cn) d.notes A3 E wr.drew (HNt.out.mono (below_step HBq.out (below_step HBz.out HD.out))) hin)
                    have gl : decide ((E : Int) ≤ (A3 : Int)) = false := decide_eq_false (by omega)
                    have gl2 : decide (E ≤ A3) = false := decide_eq_false (by omega)
                    have HOz3 := Lib.hid (fun wx (h : Below wz.heap.size wz wx) => (⟨mcell (obj_kept h HOz.out) 3 rfl, mcell (obj_kept (below_step HBz.out h) HOx.out) 2 rfl, (by
                      have := ((re e E hEx).mono (below_step HBq.out (below_step HBz.out h))) 0 _ rfl
                      rw [Nat.mul_one, Nat.add_zero] at this
                      exact this)⟩ : wx.cell? ⟨H2, 3, none⟩ = some (.slice (some ⟨be, oe, none⟩) ne ce) ∧ wx.cell? ⟨H, 2, none⟩ = some (.slice pn nn cn) ∧ wx.cell? ⟨be, oe + e, none⟩ = some (.int .i64 (E : Int))))
                    clear ee re hEx hlt hin hrest
                    go_upto_region 21 with fail
                    go_region_held3 (fun w' => w'.cell? ⟨H2, 3, none⟩ = some (.slice (some ⟨be, oe, none⟩) ne ce) ∧ w'.cell? ⟨H, 2, none⟩ = some (.slice pn nn cn) ∧ w'.cell? ⟨be, oe + e, none⟩ = some (.int .i64 (E : Int))) (first | (with_reducible exact HOz3.out _ HX5.out) | go_keep) (first | ((with_reducible refine HIn.out.mono ?_); rintro e5 w5 ⟨rfl, hb5⟩; have HX5 := Lib.hid (below_step HD.out hb5); clear hb5))
                    obtain ⟨y3, _, y5⟩ := HOz3.out _ HX5.out
                    clear o3 y0 s2
                    go_wp2
                    go_roundw
                    case rel => exact ⟨E, e + 1, by omega, by go_num, rfl, HEr, HX5⟩
                    case measure => simp [intOf]; omega
                  · have hA3 : A3 = m2 := by
                      have := HEe.out
                      rw [List.drop_eq_nil_of_le (by rw [← Hne.out]; omega)] at this
                      exact this
                    subst hA3
                    go_wp2
                    go_roundw
                    case rel => exact ⟨A3, p + 1, by omega, by go_num, rfl, HPr, HBqe⟩
                    case measure => simp [intOf]; omega
            · have hA2 : A2 = m := by
                have := HPa.out
                rw [List.drop_eq_nil_of_le (by rw [← Hnp.out]; omega)] at this
                exact this
              subst hA2
              have nz : ((np : Int) == 0) = false := by rw [beq_eq_false_iff_ne]; omega
              go_wp2
              go_roundw
              case rel => exact ⟨A2, c + 1, by omega, by go_num, rfl, HRest, HBp⟩
              case measure => simp [intOf]; omega
        · have hA : A = nw := by
            have := HCh.out
            rw [List.drop_eq_nil_of_le (by rw [← Hnc.out]; omega)] at this
            exact this
          subst hA
          have nz : ((nc : Int) == 0) = false := by rw [beq_eq_false_iff_ne]; omega
          go_wp2
          go_roundw
          case rel => exact ⟨i + 1, by omega, by go_num, Lib.hid (below_step HBq.out HBc.out)⟩
          case measure => simp [intOf]; omega
    · have htwo := HOk.out.two
      rw [← Hns.out] at htwo
      go_upto_region 28 with fail
      clear hil hi
      rcases htwo with h1 | ⟨h2, hch⟩
      · subst h1
        go_quiet (fail)
        go_wp2
        go_ret
        exact ⟨rfl, below_step HBW.out (below_step HBi.out (below_drew _ _))⟩
      · subst h2
        obtain ⟨dA, hdA⟩ : ∃ d, s.sides[0]? = some d := ⟨_, List.getElem?_eq_getElem (by rw [← Hns.out]; omega)⟩
        obtain ⟨dB, hdB⟩ : ∃ d, s.sides[1]? = some d := ⟨_, List.getElem?_eq_getElem (by rw [← Hns.out]; omega)⟩
        obtain ⟨bs, os, cps, es, pc, pw, pn, cc, cw, cn, hsA⟩ := side_get HSW.out hdA
        obtain ⟨bs2, os2, cps2, es2, pc2, pw2, pn2, cc2, cw2, cn2, hsB⟩ := side_get HSW.out hdB
        rw [← Hns.out] at es es2
        obtain ⟨rfl, rfl⟩ : ps = some ⟨bs, os, none⟩ ∧ cs = cps := by injection es with a1 a2 a3; exact ⟨a1, a3⟩
        obtain ⟨rfl, rfl⟩ : bs = bs2 ∧ os = os2 := by injection es2 with a1 a2 a3; injection a1 with a1; injection a1 with a1 a2 a3; exact ⟨a1, a2⟩
        have yA := (hsA.mono HBi.out).c0
        have yB := (hsB.mono HBi.out).c0
        have hlen : dA.chunks.length = dB.chunks.length := by
          unfold El.chunksOf at hch
          rw [hdA, hdB] at hch
          exact hch
        rw [Nat.zero_mul, Nat.add_zero] at yA
        rw [Nat.one_mul] at yB
        rw [hlen] at yA
        clear hdA hdB es es2 hsA hsB hlen hch
        go_quiet (fail)
        go_wp2
        go_ret
        exact ⟨rfl, below_step HBW.out (below_step HBi.out (below_drew _ _))⟩
end Go.Proofs.YtmaplllahikkgaaGreatDoor
