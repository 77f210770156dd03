/-
  ElabNames: all that notes name is there: labels, each of one place, and witnesses; notes' series are those that there are.
-/
import Derived.BigQuiet
import Derived.Deep.RegionHeld3
import Derived.Test.YtmaplllahikkgaaGreatDoorQNin14
set_option linter.unusedVariables false
set_option linter.unusedSimpArgs false
namespace Go.Proofs.YtmaplllahikkgaaGreatDoor
open Go.RowKit
attribute [local irreducible] El.made El.visit El.finish

theorem quiet14 {f : FuncId} {args : Array Value} {v : Value} {w : World} {n : Nat} (h : Calls Tryz.prog f args (w.drewN n) (IsV v (w.drewN n))) : Calls Tryz.prog f args (w.drewN n) fun e w'' => e = .returned v ∧ ∃ m, w'' = w.drewN m := Calls.quiet_of_same (h.mono fun _ _ h => ⟨h.1, h.2.symm⟩)
set_option maxHeartbeats 8000000 in
set_option maxRecDepth 100000 in
theorem elabNames_any (l : List El.Nd) (v tv : Value) (t : List Sg.Sig) (w : World) (hl : NodesAt w (fun _ => True) v l) (hsz : El.sizeL l ≤ lim14) (ht : SgsAt w tv t) (hE : Envs14 w) : Calls Tryz.prog 7 #[v, tv] w (Ret (.bool true) w) := by
  have HE := Lib.hid hE
  have HT := Lib.hid ht
  have HMk := Lib.hid (landedMake_any l v tv t w hl hsz ht hE.lib hE.ser hE.err)
  obtain ⟨⟨pv, cv, rfl, _⟩, _, _⟩ := hl
  obtain ⟨⟨ptv, ctv, rfl, _⟩, _, _⟩ := ht
  obtain ⟨keys, hkeys⟩ : ∃ keys, keys = Sg.keys t := ⟨_, rfl⟩
  have HKeys := Lib.hid hkeys
  rw [← hkeys] at HMk
  clear hsz hE hkeys
  go_enter Tryz.func7, Tryz.ntmps7
  go_wp2_with fail
  refine HMk.out.mono ?_
  intro e w1 hm
  obtain ⟨hb, vs, vl, c, a, s, rfl, hS, hL, hOk⟩ := doc_names hm
  clear hm HMk
  obtain ⟨ps, cs, rfl, hsm⟩ := sides_head hS
  have HLb := Lib.hid hL
  obtain ⟨⟨pl, cl, rfl, hlc⟩, hlm, _⟩ := hL
  obtain ⟨ns, hns⟩ : ∃ ns, ns = s.sides.length := ⟨_, rfl⟩
  obtain ⟨nl, hnl⟩ : ∃ nl, nl = s.labels.length := ⟨_, rfl⟩
  have Hns := Lib.hid hns
  have Hnl := Lib.hid hnl
  rw [← hns] at hS hsm ⊢
  rw [← hnl] at HLb hlc hlm ⊢
  have HS0 := Lib.hid hS
  have HOk := Lib.hid hOk
  have hzs : ns ≤ 9223372036854775807 := by unfold maxLen at hsm; omega
  have hzl : nl ≤ 9223372036854775807 := by unfold maxLen at hlm; omega
  -- the boxes
  have b2 := below_step (below_alloc w1 (.cells #[.slice ps ns cs, .slice pl nl cl] 29)) (below_alloc _ (.cells #[.int .i64 c, .int .i64 a] 32))
  have p1 := obj_kept (below_alloc (w1.alloc (.cells #[.slice ps ns cs, .slice pl nl cl] 29)) (.cells #[.int .i64 c, .int .i64 a] 32)) (obj_new w1 _ rfl #[.slice ps ns cs, .slice pl nl cl] 29)
  have p2 := obj_new (w1.alloc (.cells #[.slice ps ns cs, .slice pl nl cl] 29)) (w1.heap.size + 1) (by simp) #[.int .i64 c, .int .i64 a] 32
  obtain ⟨W, hW⟩ : ∃ W, W = (w1.alloc (.cells #[.slice ps ns cs, .slice pl nl cl] 29)).alloc (.cells #[.int .i64 c, .int .i64 a] 32) := ⟨_, rfl⟩
  rw [← hW] at b2 p1 p2
  have HBW := Lib.hid (below_step hb b2)
  have HSW := Lib.hid (hS.mono b2)
  have HLW := Lib.hid (SlcAt.mono HLb.out b2)
  have HP1 := Lib.hid p1
  have HP2 := Lib.hid p2
  have HTW := Lib.hid (SlcAt.mono HT.out HBW.out)
  have HFx := Lib.hid (fun wx (h : Below W.heap.size W wx) => fixed_any wx (HE.out.mono (below_step HBW.out h)))
  clear hb b2 p1 p2 hS hOk HLb HS0 HT hsm hlm hns hnl
  go_upto_region 2 with fail
  rw [← hW]
  clear hW
  go_wp2_with fail
  refine (HFx.out _ (Below.refl _ _)).mono ?_
  rintro e w2 ⟨rfl, hb⟩
  have HB2 := Lib.hid hb
  have q2 := mcell (obj_kept hb HP2.out) 0 rfl
  clear hb
  by_cases hc : c = 0
  case neg =>
    have hcq : (c == 0) = false := beq_eq_false_iff_ne.2 hc
    clear hc
    go_wp2_with fail
    refine (HFx.out _ HB2.out).mono ?_
    rintro e w3 ⟨rfl, hb⟩
    have HB3 := Lib.hid (below_step HB2.out hb)
    clear hb
    go_wp2
    go_ret
    exact ⟨rfl, below_step HBW.out HB3.out⟩
  subst hc
  go_wp2_with fail
  clear q2
  go_loopw [7] (fun iv wr => ∃ k : Nat, k ≤ nl ∧ iv = .int .i64 k ∧ Hid (Below W.heap.size W wr)) (fun iv _ => nl - (intOf iv).toNat)
  case atStart => exact ⟨0, Nat.zero_le _, rfl, HB2⟩
  case round =>
    obtain ⟨k, hk, rfl, HB⟩ := hrel
    clear HB2
    have d0 := mcell (obj_kept HB.out HP1.out) 0 rfl
    have d1 := mcell (obj_kept HB.out HP1.out) 1 rfl
    by_cases hlt : k < nl
    · obtain ⟨b1, o1, cc1, e1, r1⟩ := HLW.out.2.2 (by rw [← Hnl.out]; omega)
      rw [← Hnl.out] at e1
      obtain ⟨rfl, rfl⟩ : pl = some ⟨b1, o1, none⟩ ∧ cl = cc1 := by injection e1 with a1 a2 a3; exact ⟨a1, a3⟩
      obtain ⟨x, hx⟩ : ∃ x, s.labels[k]? = some x := ⟨_, List.getElem?_eq_getElem (by rw [← Hnl.out]; exact hlt)⟩
      obtain ⟨y0, y1, y2⟩ := lab_cells ((r1 k x hx).mono HB.out)
      have k0 : (0 : Int) ≤ (k : Int) := by omega
      have kl : (k : Int) < (nl : Int) := by omega
      have kcap : k ≤ cl := by omega
      obtain ⟨hs1, hs2⟩ := HOk.out.labs x (List.mem_of_getElem? hx)
      rw [← Hns.out] at hs1
      obtain ⟨d, hd⟩ : ∃ d, s.sides[x.side]? = some d := ⟨_, List.getElem?_eq_getElem (by rw [← Hns.out]; exact hs1)⟩
      have hdw : (s.sides.getD x.side El.noSide).words.length = d.words.length := by rw [List.getD_eq_getElem?_getD, hd]; rfl
      rw [hdw] at hs2
      obtain ⟨bs, os, cps, es, pc, pw, pn, cc, cw, cn, hside⟩ := side_get HSW.out hd
      rw [← Hns.out] at es
      obtain ⟨rfl, rfl⟩ : ps = some ⟨bs, os, none⟩ ∧ cs = cps := by injection es with a1 a2 a3; exact ⟨a1, a3⟩
      have hnm : named (s.labels.take k) x.name = false := decide_eq_false (HOk.out.once k x hx)
      have hbx := below_alloc wr (.cells #[.string (str x.name), .int .i64 x.side, .int .i64 x.word] 57)
      have hox := obj_new wr _ rfl #[.string (str x.name), .int .i64 x.side, .int .i64 x.word] 57
      obtain ⟨wq, hwq⟩ : ∃ wq, wq = wr.alloc (.cells #[.string (str x.name), .int .i64 x.side, .int .i64 x.word] 57) := ⟨_, rfl⟩
      rw [← hwq] at hbx hox
      have HBq := Lib.hid (below_step HB.out hbx)
      have z0 := mcell hox 0 rfl
      have z1 := mcell hox 1 rfl
      have z2 := mcell hox 2 rfl
      have HNm := Lib.hid (fun nn => (by
        have := refNamed_any (.slice (some ⟨b1, o1, none⟩) k cl) (s.labels.take k) x.name (wq.drewN nn) (slc_head14 (by rw [← Hnl.out]; exact SlcAt.mono HLW.out (below_step HBq.out (below_drew wq nn))) k (by rw [← Hnl.out]; omega))
        rw [hnm] at this
        exact quiet14 this : Calls Tryz.prog 22 #[.slice (some ⟨b1, o1, none⟩) k cl, .string (str x.name)] (wq.drewN nn) fun e w'' => e = .returned (.bool false) ∧ ∃ m, w'' = wq.drewN m))
      have hsl := fun wx => run_headLa (some ⟨b1, o1, none⟩) nl k cl kcap wx
      obtain ⟨sd, hsd⟩ : ∃ sd, sd = x.side := ⟨_, rfl⟩
      obtain ⟨wd, hwd⟩ : ∃ wd, wd = x.word := ⟨_, rfl⟩
      obtain ⟨nw, hnw⟩ : ∃ nw, nw = d.words.length := ⟨_, rfl⟩
      have hcw := (hside.mono HBq.out).c1
      rw [← hnw] at hcw hs2
      rw [← hsd] at hcw hs1 y1 z1
      rw [← hwd] at hs2 y2 z2
      rw [← hsd, ← hwd] at hwq
      have dq0 := mcell (obj_kept HBq.out HP1.out) 0 rfl
      have dq1 := mcell (obj_kept HBq.out HP1.out) 1 rfl
      have s0 : (0 : Int) ≤ (sd : Int) := by omega
      have s1 : (sd : Int) < (ns : Int) := by omega
      have g2 : decide ((ns : Int) ≤ (sd : Int)) = false := decide_eq_false (by omega)
      have g2' : decide (ns ≤ sd) = false := decide_eq_false (by omega)
      have g4 : decide ((nw : Int) < (wd : Int)) = false := decide_eq_false (by omega)
      have g4' : decide (nw < wd) = false := decide_eq_false (by omega)
      have HWq := Lib.hid hwq
      clear r1 e1 hx hd hdw es hside hnm hbx hox hs1 hs2 hsd hwd hnw hwq
      go_upto_region 8 with fail
      rw [← HWq.out]
      clear y0 y1 y2 d0 d1 HWq
      go_quiet (with_reducible exact HNm.out _)
      have HBn := Lib.hid (below_step HBq.out (below_drew wq nq))
      clear dq0 dq1 z0 z1 z2 hcw
      go_wp2
      go_roundw
      case rel => exact ⟨k + 1, by omega, by go_num, HBn⟩
      case measure => simp [intOf]; omega
    · have HB0 := HB
      go_wp2_with fail
      clear hlt d0 d1
      go_loopw [9] (fun iv wr => ∃ i : Nat, i ≤ ns ∧ iv = .int .i64 i ∧ Hid (Below W.heap.size W wr)) (fun iv _ => ns - (intOf iv).toNat)
      case atStart => exact ⟨0, Nat.zero_le _, rfl, HB0⟩
      case round =>
        obtain ⟨i, hi, rfl, HBi⟩ := hrel
        clear HB0 HB
        have d0 := mcell (obj_kept HBi.out HP1.out) 0 rfl
        by_cases hil : i < ns
        · obtain ⟨d, hd⟩ : ∃ d, s.sides[i]? = some d := ⟨_, List.getElem?_eq_getElem (by rw [← Hns.out]; exact hil)⟩
          obtain ⟨bs, os, cps, es, pc, pw, pn, cc, cw, cn, hside⟩ := side_get HSW.out hd
          rw [← Hns.out] at es
          obtain ⟨rfl, rfl⟩ : ps = some ⟨bs, os, none⟩ ∧ cs = cps := by injection es with a1 a2 a3; exact ⟨a1, a3⟩
          have HSd := Lib.hid hside
          have HOn := Lib.hid (fun n (hn : n ∈ d.notes) => HOk.out.sides d (List.mem_of_getElem? hd) n hn)
          have i0 : (0 : Int) ≤ (i : Int) := by omega
          have iln : (i : Int) < (ns : Int) := by omega
          obtain ⟨nn, hnn⟩ : ∃ nn, nn = d.notes.length := ⟨_, rfl⟩
          have Hnn := Lib.hid hnn
          have hnm := notes_len hside.notes
          have hzn : nn ≤ 9223372036854775807 := by rw [hnn]; unfold maxLen at hnm; omega
          obtain ⟨wi, hwi⟩ : ∃ wi, wi = wr := ⟨_, rfl⟩
          rw [← hwi] at HBi d0 ⊢
          have HBi0 := HBi
          clear hwi hd es hside hnn hnm
          go_wp2_with fail
          clear d0
          go_loopw [10] (fun kv wr => ∃ k : Nat, k ≤ nn ∧ kv = .int .i64 k ∧ Hid (Below W.heap.size W wr)) (fun kv _ => nn - (intOf kv).toNat)
          case atStart => exact ⟨0, Nat.zero_le _, rfl, HBi0⟩
          case round =>
            obtain ⟨k2, hk2, rfl, HBk⟩ := hrel
            clear HBi0 HBi
            have d0 := mcell (obj_kept HBk.out HP1.out) 0 rfl
            have c2 := (HSd.out.mono HBk.out).c2
            rw [← Hnn.out] at c2
            by_cases hkl : k2 < nn
            · obtain ⟨nt, hnt⟩ : ∃ nt, d.notes[k2]? = some nt := ⟨_, List.getElem?_eq_getElem (by rw [← Hnn.out]; exact hkl)⟩
              obtain ⟨bn, on, cpn, en, pt, ct, hnote⟩ := note_get HSd.out.notes hnt
              rw [← Hnn.out] at en
              obtain ⟨rfl, rfl⟩ : pn = some ⟨bn, on, none⟩ ∧ cn = cpn := by injection en with a1 a2 a3; exact ⟨a1, a3⟩
              obtain ⟨⟨hser, hsaid⟩, href⟩ := HOn.out nt (List.mem_of_getElem? hnt)
              have HSaid := Lib.hid hsaid
              have HRef := Lib.hid href
              have HTx := Lib.hid hnote.txt
              obtain ⟨m0, m1, m2, m3, m4, _⟩ := hnote.mono HBk.out
              have k20 : (0 : Int) ≤ (k2 : Int) := by omega
              have k2l : (k2 : Int) < (nn : Int) := by omega
              have hbx := below_alloc wr (.cells #[.int .i64 nt.ser, .int .i64 nt.fr, .int .i64 nt.til, .slice pt nt.txt.length ct, .int .i64 nt.loc] 44)
              have hox := obj_new wr _ rfl #[.int .i64 nt.ser, .int .i64 nt.fr, .int .i64 nt.til, .slice pt nt.txt.length ct, .int .i64 nt.loc] 44
              obtain ⟨wq, hwq⟩ : ∃ wq, wq = wr.alloc (.cells #[.int .i64 nt.ser, .int .i64 nt.fr, .int .i64 nt.til, .slice pt nt.txt.length ct, .int .i64 nt.loc] 44) := ⟨_, rfl⟩
              rw [← hwq] at hbx hox
              have HBq := Lib.hid (below_step HBk.out hbx)
              have HOx := Lib.hid hox
              have z0 := mcell hox 0 rfl
              obtain ⟨H, hH⟩ : ∃ H, H = wr.heap.size := ⟨_, rfl⟩
              rw [← hH] at HOx z0
              have HHe := Lib.hid hH
              obtain ⟨n3, hn3⟩ : ∃ n3, n3 = nt.txt.length := ⟨_, rfl⟩
              have Hn3 := Lib.hid hn3
              have hz3 : n3 ≤ 9223372036854775807 := by rw [hn3]; have := HTx.out.2.1; unfold maxLen at this; omega
              rw [← hn3] at m3 hwq HOx HTx
              obtain ⟨sr, hsr⟩ : ∃ sr : Int, sr = (nt.ser : Int) := ⟨_, rfl⟩
              have sr0 : 0 ≤ sr := by omega
              have sr1 : sr ≤ 10 := by omega
              rw [← hsr] at m0 hwq HOx z0
              have HWq := Lib.hid hwq
              have HBx := Lib.hid hbx
              clear hnt en hser hsaid href hnote hbx hox hwq hn3 hsr hH
              go_upto_region 17 with fail
              rw [← HWq.out, ← HHe.out]
              clear m0 m1 m2 m3 m4 d0 c2 HWq
              go_wp2_with fail
              clear z0 sr0 sr1
              go_loopw [12] (fun jv wz => ∃ j : Nat, j ≤ n3 ∧ jv = .int .i64 j ∧ Hid (Below W.heap.size W wz) ∧ Hid (Below wq.heap.size wq wz)) (fun jv _ => n3 - (intOf jv).toNat)
              case atStart => exact ⟨0, Nat.zero_le _, rfl, HBq, Lib.hid (Below.refl _ _)⟩
              case round =>
                obtain ⟨j, hj, rfl, HBj, HQj⟩ := hrel
                clear HBk
                have z3 := mcell (obj_kept HQj.out HOx.out) 3 rfl
                by_cases hjl : j < n3
                · obtain ⟨bt, ot, cpt, et, rt⟩ := HTx.out.2.2 (by rw [← Hn3.out]; omega)
                  rw [← Hn3.out] at et
                  obtain ⟨rfl, rfl⟩ : pt = some ⟨bt, ot, none⟩ ∧ ct = cpt := by injection et with a1 a2 a3; exact ⟨a1, a3⟩
                  obtain ⟨x, hx⟩ : ∃ x, nt.txt[j]? = some x := ⟨_, List.getElem?_eq_getElem (by rw [← Hn3.out]; exact hjl)⟩
                  obtain ⟨y0, y1, y2⟩ := said_cells ((rt j x hx).mono HBj.out)
                  have j0 : (0 : Int) ≤ (j : Int) := by omega
                  have jl : (j : Int) < (n3 : Int) := by omega
                  obtain ⟨hkd, hky⟩ := HSaid.out x (List.mem_of_getElem? hx)
                  have hrf := HRef.out x (List.mem_of_getElem? hx)
                  have hbx := below_alloc wr (.cells #[.int .i64 x.kind, .string (str x.txt), .int .i64 x.loc] 60)
                  have hox := obj_new wr _ rfl #[.int .i64 x.kind, .string (str x.txt), .int .i64 x.loc] 60
                  obtain ⟨wz, hwz⟩ : ∃ wz, wz = wr.alloc (.cells #[.int .i64 x.kind, .string (str x.txt), .int .i64 x.loc] 60) := ⟨_, rfl⟩
                  rw [← hwz] at hbx hox
                  have HBz := Lib.hid (below_step HBj.out hbx)
                  have HQz := Lib.hid (below_step HQj.out hbx)
                  have z0 := mcell hox 0 rfl
                  have z1 := mcell hox 1 rfl
                  have dq1 := mcell (obj_kept HBz.out HP1.out) 1 rfl
                  have HNm := Lib.hid (refNamed_any (.slice pl nl cl) s.labels x.txt wz (SlcAt.mono HLW.out HBz.out))
                  have HFd := Lib.hid (refFind_any (.slice ptv t.length ctv) t x.txt wz (SlcAt.mono HTW.out HBz.out))
                  obtain ⟨kd, hkdv⟩ : ∃ kd, kd = x.kind := ⟨_, rfl⟩
                  rw [← hkdv] at y0 z0 hkd hky hrf hwz
                  have HWz := Lib.hid hwz
                  clear rt et hx hbx hox hwz hkdv
                  go_upto_region 23 with fail
                  rw [← HWz.out]
                  clear y0 y1 y2 z3 HWz
                  rcases hkd with rfl | rfl | rfl
                  · clear hky hrf HNm HFd
                    go_wp2
                    go_roundw
                    case rel => exact ⟨j + 1, by omega, by go_num, HBz, HQz⟩
                    case measure => simp [intOf]; omega
                  · have hfd : ¬ Sg.find t x.txt < 0 := fun h => Sg.find_neg.1 h (by rw [← HKeys.out]; exact hky rfl)
                    clear hky hrf HNm
                    generalize Sg.find t x.txt = fq at *
                    go_wp2_with fail
                    refine HFd.out.mono ?_
                    rintro e5 w5 ⟨rfl, rfl⟩
                    go_wp2
                    go_roundw
                    case rel => exact ⟨j + 1, by omega, by go_num, HBz, HQz⟩
                    case measure => simp [intOf]; omega
                  · have hnm : named s.labels x.txt = true := decide_eq_true (hrf rfl)
                    rw [hnm] at HNm
                    clear hky hrf HFd hnm
                    go_wp2_with fail
                    refine HNm.out.mono ?_
                    rintro e5 w5 ⟨rfl, rfl⟩
                    go_wp2
                    go_roundw
                    case rel => exact ⟨j + 1, by omega, by go_num, HBz, HQz⟩
                    case measure => simp [intOf]; omega
                · go_wp2
                  go_roundw
                  case rel => exact ⟨k2 + 1, by omega, by go_num, HBj⟩
                  case measure => simp [intOf]; omega
            · go_wp2
              go_roundw
              case rel => exact ⟨i + 1, by omega, by go_num, HBk⟩
              case measure => simp [intOf]; omega
        · go_wp2
          go_ret
          exact ⟨rfl, below_step HBW.out HBi.out⟩
end Go.Proofs.YtmaplllahikkgaaGreatDoor
