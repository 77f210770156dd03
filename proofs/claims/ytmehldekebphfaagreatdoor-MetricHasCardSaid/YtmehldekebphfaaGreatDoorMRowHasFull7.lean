/-
  PROVED: the law MetricHas at every table: of a table that may be each letter, each kern and each ligature is found as it stands there.
  Conditions: none.
-/
import Derived.Test.YtmehldekebphfaaGreatDoorFixedW7
import Derived.Test.YtmehldekebphfaaGreatDoorRefIs7
import Derived.Deep.RegionLaw
import Derived.Deep.RegionHeld3
import Derived.Deep.DeepCutAuto
import Derived.Test.YtmehldekebphfaaGreatDoorFour7
import Derived.Test.YtmehldekebphfaaGreatDoorFrameM7
set_option linter.unusedVariables false
set_option linter.unusedSimpArgs false
namespace Go.Proofs.YtmehldekebphfaaGreatDoor
open Go.RowKit

theorem undrew7 {w w' : World} (h : Below w.drew.heap.size w.drew w') : Below w.heap.size w w' := ⟨h.os, h.tape, h.output, h.size, h.block⟩
theorem below_four {w w7 : World} {o : Obj} {a b c d : Value} (hb7 : Below (w.drew.alloc o).heap.size (w.drew.alloc o) w7) : Below w.heap.size w ((((w7.setCell ⟨w.heap.size, 0, none⟩ a).setCell ⟨w.heap.size, 1, none⟩ b).setCell ⟨w.heap.size, 2, none⟩ c).setCell ⟨w.heap.size, 3, none⟩ d) := by
  have h1 : Below w.heap.size w (w.drew.alloc o) := undrew7 (below_alloc w.drew o)
  have hb8 : Below w.heap.size w w7 := below_step h1 hb7
  exact (((hb8.setCell (p := ⟨w.heap.size, 0, none⟩) (Nat.le_refl _) _).setCell (p := ⟨w.heap.size, 1, none⟩) (Nat.le_refl _) _).setCell (p := ⟨w.heap.size, 2, none⟩) (Nat.le_refl _) _).setCell (p := ⟨w.heap.size, 3, none⟩) (Nat.le_refl _) _
theorem eleven_below {w w' : World} (hb : Below w.heap.size w w') {a0 a1 a2 a3 a4 a5 a6 a7 a8 a9 aa : Addr} {v0 v1 v2 v3 v4 v5 v6 v7 v8 v9 va : Value}
    (h : w.cell? a0 = some v0 ∧ w.cell? a1 = some v1 ∧ w.cell? a2 = some v2 ∧ w.cell? a3 = some v3 ∧ w.cell? a4 = some v4 ∧ w.cell? a5 = some v5 ∧ w.cell? a6 = some v6 ∧ w.cell? a7 = some v7 ∧ w.cell? a8 = some v8 ∧ w.cell? a9 = some v9 ∧ w.cell? aa = some va) :
    w'.cell? a0 = some v0 ∧ w'.cell? a1 = some v1 ∧ w'.cell? a2 = some v2 ∧ w'.cell? a3 = some v3 ∧ w'.cell? a4 = some v4 ∧ w'.cell? a5 = some v5 ∧ w'.cell? a6 = some v6 ∧ w'.cell? a7 = some v7 ∧ w'.cell? a8 = some v8 ∧ w'.cell? a9 = some v9 ∧ w'.cell? aa = some va := by
  have k : ∀ {a : Addr} {v : Value}, w.cell? a = some v → w'.cell? a = some v := fun {a v} h => by
    have hl : a.block < w.heap.size := by
      unfold World.cell? at h
      cases hh : w.heap[a.block]? with
      | none => rw [hh] at h; cases h
      | some o => exact (Array.getElem?_eq_some_iff.1 hh).1
    exact (World.cell?_of_block (hb.block _ hl)).trans h
  exact ⟨k h.1, k h.2.1, k h.2.2.1, k h.2.2.2.1, k h.2.2.2.2.1, k h.2.2.2.2.2.1, k h.2.2.2.2.2.2.1, k h.2.2.2.2.2.2.2.1, k h.2.2.2.2.2.2.2.2.1, k h.2.2.2.2.2.2.2.2.2.1, k h.2.2.2.2.2.2.2.2.2.2⟩
set_option maxHeartbeats 8000000 in
set_option maxRecDepth 100000 in
theorem lawHas7 {W0 : World} (C : MetW W0) (v : Value) (m : Mt.Tab) (w : World) (hw : Below W0.heap.size W0 w) (h : MetAt w v m) : Calls Tryz.prog 7 #[v] w (Ret (.bool true) w) := by
  have HFx := Lib.hid (fun w' (hb : Below w.heap.size w w') => fixedW7 C w' (below_step hw hb))
  have hmet := h
  obtain ⟨cv, kv, lv, rfl, a1, b1, c1⟩ := hmet
  obtain ⟨⟨pc, cc, rfl, _⟩, ma, _⟩ := (⟨a1.1, a1.2⟩ : SlcAt chC 4 w cv m.chars)
  obtain ⟨⟨pk, ck, rfl, _⟩, mb, _⟩ := (⟨b1.1, b1.2⟩ : SlcAt knC 3 w kv m.kerns)
  obtain ⟨⟨pl, cl, rfl, _⟩, mc, _⟩ := (⟨c1.1, c1.2⟩ : SlcAt lgC 3 w lv m.ligs)
  unfold metV at h ⊢
  have hza : m.chars.length ≤ 9223372036854775807 := by unfold maxLen at ma; omega
  have hzb : m.kerns.length ≤ 9223372036854775807 := by unfold maxLen at mb; omega
  have hzc : m.ligs.length ≤ 9223372036854775807 := by unfold maxLen at mc; omega
  obtain ⟨na, hna⟩ : ∃ n, n = m.chars.length := ⟨_, rfl⟩
  obtain ⟨nb, hnb⟩ : ∃ n, n = m.kerns.length := ⟨_, rfl⟩
  obtain ⟨nc, hnc⟩ : ∃ n, n = m.ligs.length := ⟨_, rfl⟩
  obtain ⟨sw, hsw⟩ : ∃ n, n = m.sw := ⟨_, rfl⟩
  obtain ⟨st, hst⟩ : ∃ n, n = m.st := ⟨_, rfl⟩
  obtain ⟨sk, hsk⟩ : ∃ n, n = m.sk := ⟨_, rfl⟩
  obtain ⟨so, hso⟩ : ∃ n, n = m.order := ⟨_, rfl⟩
  obtain ⟨hy, hhy⟩ : ∃ n, n = m.hyph := ⟨_, rfl⟩
  rw [← hna] at hza a1 h
  rw [← hnb] at hzb b1 h
  rw [← hnc] at hzc c1 h
  rw [← hsw, ← hst, ← hsk, ← hso, ← hhy] at h
  have Hna := Lib.hid hna
  have Hnb := Lib.hid hnb
  have Hnc := Lib.hid hnc
  rw [← hna, ← hnb, ← hnc, ← hsw, ← hst, ← hsk, ← hso, ← hhy]
  obtain ⟨V, hV⟩ : ∃ V : Value, V = .agg #[.int .i64 sw, .int .i64 st, .int .i64 sk, .int .i64 so, .int .i32 hy, .slice pc na cc, .slice pk nb ck, .slice pl nc cl] := ⟨_, rfl⟩
  have cCh := Lib.hid (fun w h => C.check V m w h)
  have cF := Lib.hid (fun c w h => C.find V m c w h)
  have cK := Lib.hid (fun a b w h => C.kern V m a b w h)
  have cL := Lib.hid (fun a b w h => C.lig V m a b w h)
  rw [hV] at cCh cF cK cL
  have HA := Lib.hid a1
  have HBk := Lib.hid b1
  have HCl := Lib.hid c1
  have HM := Lib.hid (h.mono (below_alloc w (.cells #[.int .i64 sw, .int .i64 st, .int .i64 sk, .int .i64 so, .int .i32 hy, .slice pc na cc, .slice pk nb ck, .slice pl nc cl] 28)))
  have HL := Lib.hid (laid_one w #[.int .i64 sw, .int .i64 st, .int .i64 sk, .int .i64 so, .int .i32 hy, .slice pc na cc, .slice pk nb ck, .slice pl nc cl] 28)
  have HB := Lib.hid (below_alloc w (.cells #[.int .i64 sw, .int .i64 st, .int .i64 sk, .int .i64 so, .int .i32 hy, .slice pc na cc, .slice pk nb ck, .slice pl nc cl] 28))
  clear C h hw hV ma mb mc a1 b1 c1 hna hnb hnc hsw hst hsk hso
  cases hmay : Mt.may m with
  | false =>
    rw [hmay] at cCh
    simp only [Bool.false_eq_true, if_false] at cCh
    clear hmay hhy
    go_enter Tryz.func7, Tryz.ntmps7
    go_wp2_with fail
    refine (HFx.out _ HB.out).mono ?_
    rintro e w1 ⟨rfl, hb1⟩
    have HB := Lib.hid (below_step HB.out hb1)
    have HM := Lib.hid (HM.out.mono hb1)
    have HL := Lib.hid (HL.out.mono hb1)
    clear hb1
    have y0 := HL.out.at_ 0 _ rfl
    have y1 := HL.out.at_ 1 _ rfl
    have y2 := HL.out.at_ 2 _ rfl
    have y3 := HL.out.at_ 3 _ rfl
    have y4 := HL.out.at_ 4 _ rfl
    have y5 := HL.out.at_ 5 _ rfl
    have y6 := HL.out.at_ 6 _ rfl
    have y7 := HL.out.at_ 7 _ rfl
    go_wp2_with fail
    refine (cCh.out _ HM.out).mono ?_
    rintro e w2 ⟨rfl, hb2⟩
    have HB := Lib.hid (below_step HB.out hb2)
    clear hb2 y0 y1 y2 y3 y4 y5 y6 y7
    go_wp2_with fail
    refine (HFx.out _ HB.out).mono ?_
    rintro e w3 ⟨rfl, hb3⟩
    have HB := Lib.hid (below_step HB.out hb3)
    clear hb3
    go_wp2
    go_ret
    exact ⟨rfl, HB.out⟩
  | true =>
    rw [hmay] at cCh
    simp only [if_true] at cCh
    have HMay := Lib.hid hmay
    have Hhy := Lib.hid hhy
    clear hmay hhy
    go_enter Tryz.func7, Tryz.ntmps7
    go_wp2_with fail
    refine (HFx.out _ HB.out).mono ?_
    rintro e w1 ⟨rfl, hb1⟩
    have HB := Lib.hid (below_step HB.out hb1)
    have HM := Lib.hid (HM.out.mono hb1)
    have HL := Lib.hid (HL.out.mono hb1)
    clear hb1
    have y0 := HL.out.at_ 0 _ rfl
    have y1 := HL.out.at_ 1 _ rfl
    have y2 := HL.out.at_ 2 _ rfl
    have y3 := HL.out.at_ 3 _ rfl
    have y4 := HL.out.at_ 4 _ rfl
    have y5 := HL.out.at_ 5 _ rfl
    have y6 := HL.out.at_ 6 _ rfl
    have y7 := HL.out.at_ 7 _ rfl
    go_wp2_with fail
    refine (cCh.out _ HM.out).mono ?_
    rintro e w2 ⟨rfl, hb2⟩
    have HB2 := Lib.hid (below_step HB.out hb2)
    have HM2 := Lib.hid (HM.out.mono hb2)
    have HL2 := Lib.hid (HL.out.mono hb2)
    clear hb2 y0 y1 y2 y3 y4 y5 y6 y7
    go_wp2_with fail
    go_loopw [3] (fun iv wr => ∃ k : Nat, k ≤ na ∧ iv = .int .i64 k ∧ Hid (Below w2.heap.size w2 wr)) (fun iv _ => na - (intOf iv).toNat)
    case atStart => exact ⟨0, Nat.zero_le _, rfl, Lib.hid (Below.refl _ _)⟩
    case round =>
      obtain ⟨k, hk, rfl, HBr⟩ := hrel
      have HLr := Lib.hid (HL2.out.mono HBr.out)
      have HMr := Lib.hid (HM2.out.mono HBr.out)
      have HBw := Lib.hid (below_step HB2.out HBr.out)
      have y0 := HLr.out.at_ 0 _ rfl
      have y1 := HLr.out.at_ 1 _ rfl
      have y2 := HLr.out.at_ 2 _ rfl
      have y3 := HLr.out.at_ 3 _ rfl
      have y4 := HLr.out.at_ 4 _ rfl
      have y5 := HLr.out.at_ 5 _ rfl
      have y6 := HLr.out.at_ 6 _ rfl
      have y7 := HLr.out.at_ 7 _ rfl
      by_cases hlt : k < na
      · obtain ⟨b1, o1, d1, e1, r1⟩ := HA.out.2.2 (by rw [← Hna.out]; omega)
        obtain ⟨rfl, rfl⟩ : pc = some ⟨b1, o1, none⟩ ∧ cc = d1 := by injection e1 with a1 a2 a3; exact ⟨a1, a3⟩
        obtain ⟨c, hc⟩ : ∃ c, m.chars[k]? = some c := ⟨_, List.getElem?_eq_getElem (by rw [← Hna.out]; exact hlt)⟩
        have HR := Lib.hid (r1 k c hc)
        have HFd := Lib.hid (Mt.found HMay.out hc)
        have k0 : (0 : Int) ≤ (k : Int) := by omega
        have kl : (k : Int) < (na : Int) := by omega
        clear r1 e1 hc
        obtain ⟨z0, z1, z2, z3⟩ := ch_cells (HR.out.mono HBw.out)
        have cFc : Hid (∀ W, MetAt W (.agg #[.int .i64 sw, .int .i64 st, .int .i64 sk, .int .i64 so, .int .i32 hy, .slice (some ⟨b1, o1, none⟩) na cc, .slice pk nb ck, .slice pl nc cl]) m → Calls Tryz.prog 12 #[.agg #[.int .i64 sw, .int .i64 st, .int .i64 sk, .int .i64 so, .int .i32 hy, .slice (some ⟨b1, o1, none⟩) na cc, .slice pk nb ck, .slice pl nc cl], .int .i32 c.code] W (Ret (.tuple #[.agg #[.int .i32 c.code, .int .i64 c.w, .int .i64 c.h, .int .i64 c.d], .bool true]) W)) := Lib.hid (fun W h => by
          have := cF.out c.code W h
          rw [HFd.out] at this
          exact this)
        have HMd : Hid (MetAt wr.drew (.agg #[.int .i64 sw, .int .i64 st, .int .i64 sk, .int .i64 so, .int .i32 hy, .slice (some ⟨b1, o1, none⟩) na cc, .slice pk nb ck, .slice pl nc cl]) m) := Lib.hid (HMr.out.mono ((Below.refl _ _).drew))
        have HMa := Lib.hid (HMd.out.mono (below_alloc wr.drew (.cells #[.int .i32 0, .int .i64 0, .int .i64 0, .int .i64 0] 38)))
        have hba := below_alloc wr (.cells #[.int .i32 0, .int .i64 0, .int .i64 0, .int .i64 0] 38)
        have a0 := cell_below hba z0
        have w0 := cell_below hba y0
        have w1 := cell_below hba y1
        have w2 := cell_below hba y2
        have w3 := cell_below hba y3
        have w4 := cell_below hba y4
        have w5 := cell_below hba y5
        have w6 := cell_below hba y6
        have w7 := cell_below hba y7
        clear hba
        go_upto_region 6 with fail
        go_cut [4, 5] (fun pv bv wx => ∃ p : Nat, pv = .pointer (some ⟨p, 0, none⟩) ∧ bv = .bool true ∧ Hid (wx.cell? ⟨p, 0, none⟩ = some (.int .i32 c.code) ∧ wx.cell? ⟨p, 1, none⟩ = some (.int .i64 c.w) ∧ wx.cell? ⟨p, 2, none⟩ = some (.int .i64 c.h) ∧ wx.cell? ⟨p, 3, none⟩ = some (.int .i64 c.d)) ∧ Hid (Below wr.heap.size wr wx))
        case first =>
          go_region_law (first
            | (go_simp; go_at_call 12; refine (cFc.out _ HMd.out).mono ?_; rintro e w7 ⟨rfl, hb7⟩)
            | (go_simp; go_at_call 12; refine (cFc.out _ HMa.out).mono ?_; rintro e w7 ⟨rfl, hb7⟩; obtain ⟨nh, ⟨n0, n1, n2, n3⟩, n4, n5, n6, n7⟩ := new_four wr.drew wr.heap.size rfl _ _ _ _ _ hb7; have NH := Lib.hid nh; clear nh))
          all_goals go_wp2_with fail
          all_goals go_meet
          all_goals first
            | (have := NH.out; exact ⟨_, rfl, rfl, Lib.hid (set_four NH.out), Lib.hid (below_four hb7)⟩)
            | exact ⟨_, rfl, rfl, Lib.hid (four_of (heap_alloc_new w7 _)), Lib.hid (below_step (undrew7 hb7) (below_alloc _ _))⟩
        case rest =>
          obtain ⟨p, rfl, rfl, HP, HBc⟩ := hcut
          have HLc := Lib.hid (HLr.out.mono HBc.out)
          have HBt := Lib.hid (below_step HBr.out HBc.out)
          obtain ⟨p0, p1, p2, p3⟩ := HP.out
          obtain ⟨q0, q1, q2, q3⟩ := ch_cells (HR.out.mono (below_step HBw.out HBc.out))
          have x5 := HLc.out.at_ 5 _ rfl
          have qs : ∀ wx, (binOp .neq 38 (.agg #[.int .i32 c.code, .int .i64 c.w, .int .i64 c.h, .int .i64 c.d]) (.agg #[.int .i32 c.code, .int .i64 c.w, .int .i64 c.h, .int .i64 c.d])).run Tryz.prog wx = .ok (.bool false) wx := fun wx => (same_ch c wx).2
          clear HMd HMa cFc w0 w1 w2 w3 w4 w5 w6 w7 a0
          go_wp2_with fail
          go_quiet (fail)
          go_wp2
          go_roundw
          case rel => exact ⟨k + 1, by omega, by go_num, Lib.hid (below_step HBt.out (below_drew _ _))⟩
          case measure => simp [intOf]; omega
      · go_wp2_with fail
        clear y0 y1 y2 y3 y4 y5 y6 y7
        go_loopw [6] (fun iv wr => ∃ k : Nat, k ≤ nb ∧ iv = .int .i64 k ∧ Hid (Below w2.heap.size w2 wr)) (fun iv _ => nb - (intOf iv).toNat)
        case atStart => exact ⟨0, Nat.zero_le _, rfl, HBr⟩
        case round =>
          obtain ⟨k, hk, rfl, HBr⟩ := hrel
          have HLr := Lib.hid (HL2.out.mono HBr.out)
          have HMr := Lib.hid (HM2.out.mono HBr.out)
          have HBw := Lib.hid (below_step HB2.out HBr.out)
          have y0 := HLr.out.at_ 0 _ rfl
          have y1 := HLr.out.at_ 1 _ rfl
          have y2 := HLr.out.at_ 2 _ rfl
          have y3 := HLr.out.at_ 3 _ rfl
          have y4 := HLr.out.at_ 4 _ rfl
          have y5 := HLr.out.at_ 5 _ rfl
          have y6 := HLr.out.at_ 6 _ rfl
          have y7 := HLr.out.at_ 7 _ rfl
          by_cases hlt : k < nb
          · obtain ⟨b1, o1, d1, e1, r1⟩ := HBk.out.2.2 (by rw [← Hnb.out]; omega)
            obtain ⟨rfl, rfl⟩ : pk = some ⟨b1, o1, none⟩ ∧ ck = d1 := by injection e1 with a1 a2 a3; exact ⟨a1, a3⟩
            obtain ⟨c, hc⟩ : ∃ c, m.kerns[k]? = some c := ⟨_, List.getElem?_eq_getElem (by rw [← Hnb.out]; exact hlt)⟩
            have HR := Lib.hid (r1 k c hc)
            have HFd := Lib.hid (Mt.kern_found HMay.out hc)
            have k0 : (0 : Int) ≤ (k : Int) := by omega
            have kl : (k : Int) < (nb : Int) := by omega
            clear r1 e1 hc
            obtain ⟨z0, z1, z2⟩ := kn_cells (HR.out.mono HBw.out)
            have cKc : Hid (∀ W, MetAt W (.agg #[.int .i64 sw, .int .i64 st, .int .i64 sk, .int .i64 so, .int .i32 hy, .slice pc na cc, .slice (some ⟨b1, o1, none⟩) nb ck, .slice pl nc cl]) m → Calls Tryz.prog 20 #[.agg #[.int .i64 sw, .int .i64 st, .int .i64 sk, .int .i64 so, .int .i32 hy, .slice pc na cc, .slice (some ⟨b1, o1, none⟩) nb ck, .slice pl nc cl], .int .i32 c.a, .int .i32 c.b] W (Ret (.int .i64 c.w) W)) := Lib.hid (fun W h => by
              have := cK.out c.a c.b W h
              rw [HFd.out] at this
              exact this)
            have HMd : Hid (MetAt wr.drew (.agg #[.int .i64 sw, .int .i64 st, .int .i64 sk, .int .i64 so, .int .i32 hy, .slice pc na cc, .slice (some ⟨b1, o1, none⟩) nb ck, .slice pl nc cl]) m) := Lib.hid (HMr.out.mono ((Below.refl _ _).drew))
            go_upto_region 12 with fail
            go_cut [76] (fun bv wx => bv = .bool false ∧ Hid (Below wr.heap.size wr wx))
            case first =>
              have hS : wr.cell? ⟨w.heap.size, 0, none⟩ = some (.int .i64 sw) ∧ wr.cell? ⟨w.heap.size, 1, none⟩ = some (.int .i64 st) ∧ wr.cell? ⟨w.heap.size, 2, none⟩ = some (.int .i64 sk) ∧ wr.cell? ⟨w.heap.size, 3, none⟩ = some (.int .i64 so) ∧ wr.cell? ⟨w.heap.size, 4, none⟩ = some (.int .i32 hy) ∧ wr.cell? ⟨w.heap.size, 5, none⟩ = some (.slice pc na cc) ∧ wr.cell? ⟨w.heap.size, 6, none⟩ = some (.slice (some ⟨b1, o1, none⟩) nb ck) ∧ wr.cell? ⟨w.heap.size, 7, none⟩ = some (.slice pl nc cl) ∧ wr.cell? ⟨b1, o1 + k * 3, none⟩ = some (.int .i32 c.a) ∧ wr.cell? ⟨b1, o1 + k * 3 + 1, none⟩ = some (.int .i32 c.b) ∧ wr.cell? ⟨b1, o1 + k * 3 + 2, none⟩ = some (.int .i64 c.w) := ⟨y0, y1, y2, y3, y4, y5, y6, y7, z0, z1, z2⟩
              go_region_held3 (fun w' => w'.cell? ⟨w.heap.size, 0, none⟩ = some (.int .i64 sw) ∧ w'.cell? ⟨w.heap.size, 1, none⟩ = some (.int .i64 st) ∧ w'.cell? ⟨w.heap.size, 2, none⟩ = some (.int .i64 sk) ∧ w'.cell? ⟨w.heap.size, 3, none⟩ = some (.int .i64 so) ∧ w'.cell? ⟨w.heap.size, 4, none⟩ = some (.int .i32 hy) ∧ w'.cell? ⟨w.heap.size, 5, none⟩ = some (.slice pc na cc) ∧ w'.cell? ⟨w.heap.size, 6, none⟩ = some (.slice (some ⟨b1, o1, none⟩) nb ck) ∧ w'.cell? ⟨w.heap.size, 7, none⟩ = some (.slice pl nc cl) ∧ w'.cell? ⟨b1, o1 + k * 3, none⟩ = some (.int .i32 c.a) ∧ w'.cell? ⟨b1, o1 + k * 3 + 1, none⟩ = some (.int .i32 c.b) ∧ w'.cell? ⟨b1, o1 + k * 3 + 2, none⟩ = some (.int .i64 c.w)) (first | exact hS | exact eleven_below hb7 hS | go_keep)
                ((go_at_call 20; refine (cKc.out _ HMd.out).mono ?_; rintro e w7 ⟨rfl, hb70⟩; have hb7 := undrew7 hb70; have hS := eleven_below hb7 hS))
              all_goals go_wp2_with fail
              all_goals go_meet
              all_goals exact ⟨by simp, Lib.hid hb7⟩
            case rest =>
              obtain ⟨rfl, HBc⟩ := hcut
              have HBt := Lib.hid (below_step HBr.out HBc.out)
              go_wp2
              go_roundw
              case rel => exact ⟨k + 1, by omega, by go_num, HBt⟩
              case measure => simp [intOf]; omega
          · go_wp2_with fail
            clear y0 y1 y2 y3 y4 y5 y6 y7
            go_loopw [7] (fun iv wr => ∃ k : Nat, k ≤ nc ∧ iv = .int .i64 k ∧ Hid (Below w2.heap.size w2 wr)) (fun iv _ => nc - (intOf iv).toNat)
            case atStart => exact ⟨0, Nat.zero_le _, rfl, HBr⟩
            case round =>
              obtain ⟨k, hk, rfl, HBr⟩ := hrel
              have HLr := Lib.hid (HL2.out.mono HBr.out)
              have HMr := Lib.hid (HM2.out.mono HBr.out)
              have HBw := Lib.hid (below_step HB2.out HBr.out)
              have y0 := HLr.out.at_ 0 _ rfl
              have y1 := HLr.out.at_ 1 _ rfl
              have y2 := HLr.out.at_ 2 _ rfl
              have y3 := HLr.out.at_ 3 _ rfl
              have y4 := HLr.out.at_ 4 _ rfl
              have y5 := HLr.out.at_ 5 _ rfl
              have y6 := HLr.out.at_ 6 _ rfl
              have y7 := HLr.out.at_ 7 _ rfl
              by_cases hlt : k < nc
              · obtain ⟨b1, o1, d1, e1, r1⟩ := HCl.out.2.2 (by rw [← Hnc.out]; omega)
                obtain ⟨rfl, rfl⟩ : pl = some ⟨b1, o1, none⟩ ∧ cl = d1 := by injection e1 with a1 a2 a3; exact ⟨a1, a3⟩
                obtain ⟨c, hc⟩ : ∃ c, m.ligs[k]? = some c := ⟨_, List.getElem?_eq_getElem (by rw [← Hnc.out]; exact hlt)⟩
                have HR := Lib.hid (r1 k c hc)
                have HFd := Lib.hid (Mt.lig_found HMay.out hc)
                have k0 : (0 : Int) ≤ (k : Int) := by omega
                have kl : (k : Int) < (nc : Int) := by omega
                clear r1 e1 hc
                obtain ⟨z0, z1, z2⟩ := lg_cells (HR.out.mono HBw.out)
                have cLc : Hid (∀ W, MetAt W (.agg #[.int .i64 sw, .int .i64 st, .int .i64 sk, .int .i64 so, .int .i32 hy, .slice pc na cc, .slice pk nb ck, .slice (some ⟨b1, o1, none⟩) nc cl]) m → Calls Tryz.prog 14 #[.agg #[.int .i64 sw, .int .i64 st, .int .i64 sk, .int .i64 so, .int .i32 hy, .slice pc na cc, .slice pk nb ck, .slice (some ⟨b1, o1, none⟩) nc cl], .int .i32 c.a, .int .i32 c.b] W (Ret (.tuple #[.int .i32 c.to, .bool true]) W)) := Lib.hid (fun W h => by
                  have := cL.out c.a c.b W h
                  rw [HFd.out] at this
                  exact this)
                have HMd : Hid (MetAt wr.drew (.agg #[.int .i64 sw, .int .i64 st, .int .i64 sk, .int .i64 so, .int .i32 hy, .slice pc na cc, .slice pk nb ck, .slice (some ⟨b1, o1, none⟩) nc cl]) m) := Lib.hid (HMr.out.mono ((Below.refl _ _).drew))
                go_upto_region 17 with fail
                go_cut [8, 9] (fun cv bv wx => cv = .int .i32 c.to ∧ bv = .bool true ∧ Hid (Below wr.heap.size wr wx))
                case first =>
                  have hS : wr.cell? ⟨w.heap.size, 0, none⟩ = some (.int .i64 sw) ∧ wr.cell? ⟨w.heap.size, 1, none⟩ = some (.int .i64 st) ∧ wr.cell? ⟨w.heap.size, 2, none⟩ = some (.int .i64 sk) ∧ wr.cell? ⟨w.heap.size, 3, none⟩ = some (.int .i64 so) ∧ wr.cell? ⟨w.heap.size, 4, none⟩ = some (.int .i32 hy) ∧ wr.cell? ⟨w.heap.size, 5, none⟩ = some (.slice pc na cc) ∧ wr.cell? ⟨w.heap.size, 6, none⟩ = some (.slice pk nb ck) ∧ wr.cell? ⟨w.heap.size, 7, none⟩ = some (.slice (some ⟨b1, o1, none⟩) nc cl) ∧ wr.cell? ⟨b1, o1 + k * 3, none⟩ = some (.int .i32 c.a) ∧ wr.cell? ⟨b1, o1 + k * 3 + 1, none⟩ = some (.int .i32 c.b) ∧ wr.cell? ⟨b1, o1 + k * 3 + 2, none⟩ = some (.int .i32 c.to) := ⟨y0, y1, y2, y3, y4, y5, y6, y7, z0, z1, z2⟩
                  go_region_held3 (fun w' => w'.cell? ⟨w.heap.size, 0, none⟩ = some (.int .i64 sw) ∧ w'.cell? ⟨w.heap.size, 1, none⟩ = some (.int .i64 st) ∧ w'.cell? ⟨w.heap.size, 2, none⟩ = some (.int .i64 sk) ∧ w'.cell? ⟨w.heap.size, 3, none⟩ = some (.int .i64 so) ∧ w'.cell? ⟨w.heap.size, 4, none⟩ = some (.int .i32 hy) ∧ w'.cell? ⟨w.heap.size, 5, none⟩ = some (.slice pc na cc) ∧ w'.cell? ⟨w.heap.size, 6, none⟩ = some (.slice pk nb ck) ∧ w'.cell? ⟨w.heap.size, 7, none⟩ = some (.slice (some ⟨b1, o1, none⟩) nc cl) ∧ w'.cell? ⟨b1, o1 + k * 3, none⟩ = some (.int .i32 c.a) ∧ w'.cell? ⟨b1, o1 + k * 3 + 1, none⟩ = some (.int .i32 c.b) ∧ w'.cell? ⟨b1, o1 + k * 3 + 2, none⟩ = some (.int .i32 c.to)) (first | exact hS | exact eleven_below hb7 hS | go_keep)
                    ((go_at_call 14; refine (cLc.out _ HMd.out).mono ?_; rintro e w7 ⟨rfl, hb70⟩; have hb7 := undrew7 hb70; have hS := eleven_below hb7 hS))
                  all_goals go_wp2_with fail
                  all_goals go_meet
                  all_goals exact ⟨rfl, rfl, Lib.hid hb7⟩
                case rest =>
                  obtain ⟨rfl, rfl, HBc⟩ := hcut
                  have HBt := Lib.hid (below_step HBr.out HBc.out)
                  have x7 := (HLr.out.mono HBc.out).at_ 7 _ rfl
                  obtain ⟨q0, q1, q2⟩ := lg_cells (HR.out.mono (below_step HBw.out HBc.out))
                  clear y0 y1 y2 y3 y4 y5 y6 y7 z0 z1 z2
                  go_wp2
                  go_roundw
                  case rel => exact ⟨k + 1, by omega, by go_num, HBt⟩
                  case measure => simp [intOf]; omega
              · have HHy := Lib.hid (Mt.hyph_found HMay.out)
                have cFh : Hid (∃ x : Mt.Ch, ∀ W, MetAt W (.agg #[.int .i64 sw, .int .i64 st, .int .i64 sk, .int .i64 so, .int .i32 hy, .slice pc na cc, .slice pk nb ck, .slice pl nc cl]) m → Calls Tryz.prog 12 #[.agg #[.int .i64 sw, .int .i64 st, .int .i64 sk, .int .i64 so, .int .i32 hy, .slice pc na cc, .slice pk nb ck, .slice pl nc cl], .int .i32 hy] W (Ret (.tuple #[.agg #[.int .i32 x.code, .int .i64 x.w, .int .i64 x.h, .int .i64 x.d], .bool true]) W)) := Lib.hid (by
                  obtain ⟨x, hx⟩ := Option.isSome_iff_exists.1 HHy.out
                  refine ⟨x, fun W h => ?_⟩
                  have := cF.out hy W h
                  rw [Hhy.out, hx] at this
                  rw [Hhy.out]
                  exact this)
                obtain ⟨x, hfx⟩ := cFh.out
                have cFx := Lib.hid hfx
                clear hfx
                go_wp2_with fail
                refine (cFx.out _ HMr.out).mono ?_
                rintro e w9 ⟨rfl, hb9⟩
                have HB9 := Lib.hid (below_step HBw.out (below_step hb9 (below_alloc w9 (.cells #[.int .i32 x.code, .int .i64 x.w, .int .i64 x.h, .int .i64 x.d] 38))))
                clear hb9 y0 y1 y2 y3 y4 y5 y6 y7
                go_wp2
                go_ret
                exact ⟨rfl, HB9.out⟩
end Go.Proofs.YtmehldekebphfaaGreatDoor

namespace Go.Proofs.YtmehldekebphfaaGreatDoor
open Go.ChangeShapes Go.WideShapes Go.ChangeAt Go.RowKit

set_option maxRecDepth 100000 in
/-- WHAT THE WALK GIVES, FOR EVERY ARGUMENT OF SUCH A BULK AND EVERY WORLD. -/
theorem metricHasF_contract (H : Type) (enc : TypeId × Value → H) (W : World) (base : Nat) (args : Array Value) (ds gs : List (DataW H)) (before : List MemPlace)
    (hval : ∀ (j : Nat) t v, Tryz.f7.params[j]? = some t → args[j]? = some v → Value.okWide Tryz.prog W .any base t v)
    (hW : DataW.Whole enc Tryz.prog Tryz.f7.params.toList Rows.metricHasSpec.vars false W args.toList ds gs before) (C : MetW W) :
    Calls Tryz.prog 7 args W fun e W' => ∃ v, e = .returned v ∧ Rows.metricHasSpec.post enc Tryz.prog Tryz.f7 false true false false W args v W' := by
  have hW' := hW
  have hlt : ∀ x ∈ before, x.block < W.heap.size := fun x hx => hW'.lt x hx
  obtain ⟨p, q, hA0, hV, hbe, hfz, hnd⟩ := hW
  have hA : DataW.TrodAll enc Tryz.prog W 0 (fun _ => true) true Tryz.f7.params.toList args.toList ds p := hA0
  rw [Tryz.params7] at hA hval
  have hAk := hA
  obtain ⟨v0, vs0, d0, ds0, p0, q0, hargs, rfl, rfl, h0, r0⟩ := trodAll_cons hA
  obtain ⟨rfl, rfl, rfl⟩ := trodAll_nil r0
  obtain rfl : args = #[v0] := by cases args; simp_all
  obtain ⟨rfl, rfl⟩ := trodVars_none hV
  obtain ⟨cs0, hv0, _⟩ := okWide_struct uMt7 (hval 0 _ v0 rfl rfl)
  obtain ⟨m0, hm0, hT0, hbulk0⟩ := met_in h0 hv0
  refine (lawHas7 C v0 m0 W (Below.refl _ _) hm0).mono fun e W' ⟨he, hb⟩ => ?_
  subst he
  have e1 : Rows.metricHasSpec.fn H ([d0] ++ []) = { results := [.lit (.bool true)], args := [d0] } := rfl
  refine ⟨_, rfl, [d0], [], before, [], p0 ++ [], [], hW', ?_, ?_, ?_, hb.frame _, fun h => by cases h⟩
  · rw [e1]; exact trodAll_mk1 (shut_bool Tryz.underlying4 true)
  · rw [e1, Tryz.params7]
    exact args_kept laidOut hb _ _ _ _ (by
      intro t ht
      have : t = 28 := by simpa using ht
      rcases this with rfl
      all_goals exact ⟨by kernel_rfl, of_decide_eq_true (by kernel_rfl)⟩) hAk (fun x hx => hlt x (by rw [hbe]; exact List.mem_append_left _ hx))
  · rw [e1]; rfl

theorem metricHasF_laid_met (os : Os) : laidMet Tryz.prog Rows.metricHasRow.laid ((World.laidAll Tryz.prog os laidList).forCall (fun _ _ => 0) ⟨#[], #[.agg #[.int .i64 0, .int .i64 0, .int .i64 0, .int .i64 0, .int .i32 0, .slice none 0 0, .slice none 0 0, .slice none 0 0]], []⟩).memory :=
  laidMet_laidAll _ (by kernel_rfl) (by kernel_rfl)
theorem metricHasF_reads (os : Os) {H : Type} (enc : TypeId × Value → H) : ∃ places, DataW.whole enc Tryz.prog ((World.laidAll Tryz.prog os laidList).forCall (fun _ _ => 0) ⟨#[], #[.agg #[.int .i64 0, .int .i64 0, .int .i64 0, .int .i64 0, .int .i32 0, .slice none 0 0, .slice none 0 0, .slice none 0 0]], []⟩).memory Tryz.f7.params.toList Rows.metricHasSpec.vars false #[Value.agg #[.int .i64 0, .int .i64 0, .int .i64 0, .int .i64 0, .int .i32 0, .slice none 0 0, .slice none 0 0, .slice none 0 0]].toList 8 = some ([.agg [.agg [.lit (.int .i64 0), .lit (.int .i64 0), .lit (.int .i64 0), .lit (.int .i64 0)], .lit (.int .i32 0), .nil, .nil, .nil]], [], places) :=
  ⟨[], by kernel_rfl⟩

set_option maxRecDepth 100000 in
theorem metricHasF_lifted (os : Os) (started : os.Started) (H : Type) (enc : TypeId × Value → H) (F : Stop.Interp) :
    ReturnsInHanded {} Tryz.checked os 7 .any ((OpenSpec.ofChange Rows.metricHasSpec).preRow enc Tryz.prog Tryz.f7 Rows.metricHasRow.domain false Rows.metricHasRow.laid) (((OpenSpec.ofChange Rows.metricHasSpec).at F).post enc Tryz.prog Tryz.f7 false true false false) := by
  obtain ⟨places, hx⟩ := metricHasF_reads os enc
  refine returnsInHanded_of_row (C := Tryz.checked) (s := OpenSpec.ofChange Rows.metricHasSpec) own started (by kernel_rfl) Tryz.func7
    (witness_row_atRef (enc := enc) (C := Tryz.checked) false (World.laidAll Tryz.prog os laidList) #[.agg #[.int .i64 0, .int .i64 0, .int .i64 0, .int .i64 0, .int .i32 0, .slice none 0 0, .slice none 0 0, .slice none 0 0]] (World.laidAll_os _ _ _) (by kernel_rfl) (by kernel_rfl) (by kernel_rfl)
      (OpenSpec.preRow_of_cond 8 hx (by kernel_rfl) (fun k hk => by cases hk) (by kernel_rfl) (metricHasF_laid_met os))) ?_
  intro W base args ds gs before hval hW _ _ _ hL hsh _
  exact metricHasF_contract H enc W base args ds gs before hval hW (metW_of_laid hL hsh)

theorem metricHasF_said : Rows.MetricHasSaid :=
  OpenClaim.holds_of_cond 7 Tryz.f7 rfl rfl rfl rfl rfl rfl rfl ⟨rfl, rfl, rfl, rfl, rfl⟩ rfl rfl rfl rfl rfl (by kernel_rfl) Tryz.func7 (by kernel_rfl)
    (of_decide_eq_true (by kernel_rfl)) (by unfold Func.isWrapper; first | (rw [if_pos (by decide +kernel)]; kernel_rfl) | (rw [if_neg (by decide +kernel)]; exact ⟨rfl, rfl⟩))
    (fun os started H enc _ F => by rw [OpenClaim.pre_eq_preRow]; exact metricHasF_lifted os started H enc F)

/-- No parameter wants a stand-in; what the program's own reckoning says of looks: what the card asks. -/
theorem metricHasF_plain (f : FuncId) (fn : Func) (hf : Tryz.pinned.checked.prog.funcNamed "variorum/variorumlaw07.MetricHas" = some f) (hfn : Tryz.pinned.checked.prog.funcs[f]? = some fn) :
    true = Tryz.pinned.checked.prog.looks [] ∧ ∀ (j : Nat) t, fn.params[j]? = some t → Tryz.pinned.checked.prog.wantsStandIn t = false := by
  obtain rfl : f = 7 := Option.some.inj ((show Tryz.prog.funcNamed "variorum/variorumlaw07.MetricHas" = some 7 by kernel_rfl).symm.trans hf) |>.symm
  obtain rfl : fn = Tryz.f7 := (Option.some.inj (Tryz.func7.symm.trans hfn)).symm
  refine ⟨by kernel_rfl, fun j t ht => ?_⟩
  rw [Tryz.params7] at ht
  have : t = 28 := by simpa using Array.mem_of_getElem? ht
  rcases this with rfl
  · exact (show Tryz.prog.wantsStandIn 28 = false by kernel_rfl)

/-- THE CARD. -/
theorem metricHasF_card : Rows.MetricHasCardSaid :=
  Claim7.holds_tied_plain_at .later [] _ _ _ _ metricHasF_said (fun _ h => by cases h) (by kernel_rfl) (fun _ h => by cases h) metricHas_row_tie rfl ⟨rfl, rfl⟩ (by kernel_rfl) rfl metricHasF_plain (by kernel_rfl)
end Go.Proofs.YtmehldekebphfaaGreatDoor
