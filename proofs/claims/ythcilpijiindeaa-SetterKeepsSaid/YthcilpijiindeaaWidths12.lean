/-
  The landed Widths: what all glue of a list is set to (P3.4).
-/
import Derived.Deep.RegionHeld3
import Derived.Test.YthcilpijiindeaaAmount12
import Derived.Test.YthcilpijiindeaaShares12
import Derived.Test.YthcilpijiindeaaWeights12
set_option linter.unusedVariables false
set_option linter.unusedSimpArgs false
namespace Go.Proofs.Ythcilpijiindeaa
open Go.RowKit

namespace It
theorem sum_wgt (s : Stg) : ∀ l : List Gl, sumI (l.map (wgt s)) = wsum s l
  | [] => rfl
  | g :: r => by simp only [List.map_cons, sumI, wsum, sum_wgt s r]
theorem widF_get (s : Stg) (t all : Int) : ∀ (l : List Gl) (c : Int) (k : Nat) (g : Gl), l[k]? = some g → ∃ d, (shF t all c (l.map (wgt s)))[k]? = some d ∧ (widF s t all c l)[k]? = some (g.w + s.sg * d)
  | y :: r, c, 0, g, h => by
    simp at h
    subst h
    exact ⟨_, rfl, rfl⟩
  | y :: r, c, k + 1, g, h => by
    simp at h
    obtain ⟨d, h1, h2⟩ := widF_get s t all r (c + wgt s y) k g h
    exact ⟨d, by simpa only [List.map_cons, shF, List.getElem?_cons_succ] using h1, by simpa only [widF, List.getElem?_cons_succ] using h2⟩
theorem setOf_e {l : List Gl} {t : Int} {s : Stg} (h : setOf l t = some s) : (0 < s.sg → 0 ≤ s.e) ∧ (s.sg = 0 → 0 ≤ s.e) ∧ (s.sg < 0 → s.e < 0) ∧ -1073741823 ≤ s.e ∧ s.e ≤ 1073741823 := by
  obtain ⟨h1, _, h3, rfl⟩ := setOf_some h
  have hb := Sc.fits_yes h3
  generalize t - sumW l = e at hb
  unfold setE strE shrE
  repeat' split
  all_goals simp only []
  all_goals omega
theorem amt_bound {l : List Gl} {t : Int} {s : Stg} (h : setOf l t = some s) : 0 ≤ amtOf l s ∧ amtOf l s ≤ 1073741823 := by
  obtain ⟨e1, e2, e3, e4, e5⟩ := setOf_e h
  obtain ⟨h1, _⟩ := setOf_some h
  have hk := sumK_nonneg h1
  have := setOf_sg h
  unfold amtOf
  split
  · omega
  · omega
theorem wsum_bound {l : List Gl} {s : Stg} (h : glMay l = true) : 0 ≤ wsum s l ∧ wsum s l ≤ 1073741823 := by
  by_cases h1 : s.sg < 0
  · rw [wsum_shrink h1]; exact sumK_nonneg h
  · by_cases h2 : 0 < s.sg
    · rw [wsum_stretch h2]; exact sumO_nonneg h _
    · rw [wsum_none (by omega)]; omega
theorem prt_low {t all c : Int} (ht : 0 ≤ t) (ha : 0 ≤ all) (hc : 0 ≤ c) : 0 ≤ prt t all c := by
  have := prt_rises (c := 0) ht ha hc
  rw [prt_zero, Int.zero_add] at this
  exact this
theorem prt_top {t all c : Int} (ht : 0 ≤ t) (ha : 0 ≤ all) (hc : c ≤ all) : prt t all c ≤ t := by
  by_cases h : all = 0
  · unfold prt; rw [if_pos h]; exact ht
  · have := prt_rises (c := c) (w := all - c) ht ha (by omega)
    rwa [show c + (all - c) = all by omega, prt_all h] at this
theorem shF_bound {t all : Int} (ht : 0 ≤ t) (ha : 0 ≤ all) : ∀ (ws : List Int) (c : Int), 0 ≤ c → (∀ x ∈ ws, 0 ≤ x) → c + sumI ws ≤ all → ∀ x ∈ shF t all c ws, 0 ≤ x ∧ x ≤ t
  | [], _, _, _, _, x, hx => by simp [shF] at hx
  | y :: r, c, hc, h0, hs, x, hx => by
    have hy := h0 y List.mem_cons_self
    have hr := sumI_nonneg (l := r) (fun z hz => h0 z (List.mem_cons_of_mem _ hz))
    simp only [sumI] at hs
    simp only [shF, List.mem_cons] at hx
    rcases hx with rfl | hx
    · have := prt_rises (t := t) (all := all) (c := c) (w := y) ht ha hy
      have := prt_low (t := t) (all := all) (c := c) ht ha hc
      have := prt_top (t := t) (all := all) (c := c + y) ht ha (by omega)
      omega
    · exact shF_bound ht ha r (c + y) (by omega) (fun z hz => h0 z (List.mem_cons_of_mem _ hz)) (by omega) x hx
end It

theorem below_drew10w (w : World) : Below w.heap.size w w.drew := ⟨rfl, rfl, rfl, Nat.le_refl _, fun _ _ => rfl⟩
/-- what Widths answers -/
def WidthsAt (B : Nat) (w : World) (r : Option (List Int)) (u : Value) : Prop :=
  match r with
  | none => u = .tuple #[.slice none 0 0, .bool false]
  | some ws => ∃ b, B ≤ b ∧ u = .tuple #[.slice (some ⟨b, 0, none⟩) ws.length ws.length, .bool true] ∧ LensAt w (.slice (some ⟨b, 0, none⟩) ws.length ws.length) ws
set_option maxHeartbeats 8000000 in
set_option maxRecDepth 100000 in
theorem widths_any (v : Value) (l : List It.Gl) (t : Int) (w : World) (h : GlsAt w v l) (hn : l.length ≤ 2000) :
    Calls Try.prog 30 #[v, .int .i64 t] w fun e w' => ∃ u, e = .returned u ∧ WidthsAt w.heap.size w' (It.widths l t) u ∧ Below w.heap.size w w' := by
  have HA := Lib.hid h
  have HS := Lib.hid (set_any v l t w h)
  obtain ⟨⟨p, cp, rfl, hcap⟩, hm, _⟩ := h
  have hza : l.length ≤ 9223372036854775807 := by omega
  have HQ : Hid (It.widths l t = (It.setOf l t).map fun s => It.widF s (It.amtOf l s) (It.wsum s l) 0 l) := Lib.hid rfl
  obtain ⟨r, hr⟩ : ∃ r, r = It.widths l t := ⟨_, rfl⟩
  rw [← hr] at HQ ⊢
  clear hr
  obtain ⟨o, ho⟩ : ∃ o, o = It.setOf l t := ⟨_, rfl⟩
  have HO := Lib.hid ho
  rw [← ho] at HS HQ
  clear ho
  cases o with
  | none =>
    have HE : Hid (r = none) := Lib.hid HQ.out
    unfold setV at HS
    go_enter Try.func30, Try.ntmps30
    go_wp2_with fail
    refine HS.out.mono ?_
    rintro e w2 ⟨rfl, hb2⟩
    have HB2 := Lib.hid hb2
    clear hb2
    have HB3 := Lib.hid (HB2.out.alloc HB2.out.size (.cells #[.int .i64 0, .int .i64 0, .int .i64 0, .int .i64 0] 56))
    go_wp2
    exact bodyPost_ret (v := .tuple #[.slice none 0 0, .bool false]) (by simp [results, Try.results30, go_sem]) rfl ⟨_, rfl, by rw [HE.out]; exact rfl, HB3.out⟩
  | some s =>
    have hs := HO.out.symm
    have hq := (It.setOf_some hs).1
    have HE : Hid (r = some (It.widF s (It.amtOf l s) (It.wsum s l) 0 l)) := Lib.hid HQ.out
    obtain ⟨e1, e2, e3, e4, e5⟩ := It.setOf_e hs
    have HSg := Lib.hid (It.setOf_sg hs)
    have HAb := Lib.hid (It.amt_bound hs)
    have HWb := Lib.hid (It.wsum_bound (s := s) hq)
    have HAm := Lib.hid (fun w1 (hb : GlsAt w1 (.slice p l.length cp) l) => amount_any _ l s w1 hb hq ⟨e4, e5⟩)
    have HWe := Lib.hid (fun w1 (hb : GlsAt w1 (.slice p l.length cp) l) => weights_any _ l s w1 hb hn)
    have HSh : Hid (∀ (u : Value) (w1 : World), LensAt w1 u (l.map (It.wgt s)) → Calls Try.prog 50 #[.int .i64 (It.amtOf l s), u] w1 fun e w' => ∃ x, e = .returned x ∧ LensAt w' x (It.shF (It.amtOf l s) (It.wsum s l) 0 (l.map (It.wgt s))) ∧ Below w1.heap.size w1 w') := Lib.hid (by
      intro u w1 hu
      have := shares_any (It.amtOf l s) u (l.map (It.wgt s)) w1 hu (by rw [List.length_map]; exact hn) (by
        intro x hx
        obtain ⟨g, hg, rfl⟩ := List.mem_map.1 hx
        obtain ⟨_, h2, _⟩ := It.glMay_yes hq
        exact It.wgt_nonneg (List.all_eq_true.1 h2 g hg)) (by rw [It.sum_wgt]; exact HWb.out.2) HAb.out
      rwa [It.sum_wgt] at this)
    have HGt := Lib.hid (It.widF_get s (It.amtOf l s) (It.wsum s l) l 0)
    have HDb : Hid (∀ x ∈ It.shF (It.amtOf l s) (It.wsum s l) 0 (l.map (It.wgt s)), 0 ≤ x ∧ x ≤ It.amtOf l s) := Lib.hid (It.shF_bound HAb.out.1 HWb.out.1 _ 0 (Int.le_refl _) (by
      intro x hx
      obtain ⟨g, hg, rfl⟩ := List.mem_map.1 hx
      exact It.wgt_nonneg (List.all_eq_true.1 (It.glMay_yes hq).2.1 g hg)) (by rw [It.sum_wgt]; omega))
    have HGw : Hid (∀ g ∈ l, -1073741823 ≤ g.w ∧ g.w ≤ 1073741823) := Lib.hid (fun g hg => by
      have := It.glOk_yes (List.all_eq_true.1 (It.glMay_yes hq).2.1 g hg)
      exact this.2.1)
    have HSl : Hid ((It.shF (It.amtOf l s) (It.wsum s l) 0 (l.map (It.wgt s))).length = l.length) := Lib.hid (by rw [It.shF_len, List.length_map])
    have HWl := Lib.hid (It.widF_len s (It.amtOf l s) (It.wsum s l) l 0)
    clear e1 e2 e3 e4 e5 hs hq
    unfold setV stgV at HS
    unfold stgV at HAm HWe
    go_enter Try.func30, Try.ntmps30
    go_wp2_with fail
    refine HS.out.mono ?_
    rintro e w2 ⟨rfl, hb2⟩
    have HB2 := Lib.hid hb2
    clear hb2
    obtain ⟨W3, hW3⟩ : ∃ W, W = w2.alloc (.cells #[.int .i64 s.sg, .int .i64 s.o, .int .i64 s.e, .int .i64 s.bad] 56) := ⟨_, rfl⟩
    have HB3 := Lib.hid (below_step HB2.out (below_alloc w2 (.cells #[.int .i64 s.sg, .int .i64 s.o, .int .i64 s.e, .int .i64 s.bad] 56)))
    have HX3 := Lib.hid (obj_new w2 _ rfl #[.int .i64 s.sg, .int .i64 s.o, .int .i64 s.e, .int .i64 s.bad] 56)
    rw [← hW3] at HB3 HX3
    have s0 := Lib.cell_of_heap HX3.out 0
    have s1 := Lib.cell_of_heap HX3.out 1
    have s2 := Lib.cell_of_heap HX3.out 2
    have s3 := Lib.cell_of_heap HX3.out 3
    go_upto_region 4 with fail
    rw [← hW3]
    clear hW3
    have HD := Lib.hid (below_drew10w W3)
    have HBd := Lib.hid (below_step HB3.out HD.out)
    have HXd := Lib.hid (obj_kept HD.out HX3.out)
    have HAmd := Lib.hid (HAm.out W3.drew (HA.out.mono HBd.out))
    go_region_held3 (fun w' => w'.cell? ⟨w2.heap.size, 0, none⟩ = some (.int .i64 s.sg) ∧ w'.cell? ⟨w2.heap.size, 1, none⟩ = some (.int .i64 s.o) ∧ w'.cell? ⟨w2.heap.size, 2, none⟩ = some (.int .i64 s.e) ∧ w'.cell? ⟨w2.heap.size, 3, none⟩ = some (.int .i64 s.bad)) (first | (exact ⟨Lib.cell_of_heap HX6.out 0, Lib.cell_of_heap HX6.out 1, Lib.cell_of_heap HX6.out 2, Lib.cell_of_heap HX6.out 3⟩) | (exact ⟨Lib.cell_of_heap HX5.out 0, Lib.cell_of_heap HX5.out 1, Lib.cell_of_heap HX5.out 2, Lib.cell_of_heap HX5.out 3⟩) | (exact ⟨Lib.cell_of_heap HX4.out 0, Lib.cell_of_heap HX4.out 1, Lib.cell_of_heap HX4.out 2, Lib.cell_of_heap HX4.out 3⟩) | (exact ⟨s0, s1, s2, s3⟩) | go_keep) (first | ((with_reducible refine HAmd.out.mono ?_); rintro e w4 ⟨rfl, hb4⟩; have HX4 := Lib.hid (obj_kept hb4 HXd.out); have HB4 := Lib.hid (below_step HBd.out hb4); have HA4 := Lib.hid (HA.out.mono HB4.out); clear hb4) | ((with_reducible refine (HWe.out _ HA4.out).mono ?_); rintro e w5 ⟨u5, rfl, hl5, hb5⟩; have HX5 := Lib.hid (obj_kept hb5 HX4.out); have HB5 := Lib.hid (below_step HB4.out hb5); have HL5 := Lib.hid hl5; clear hb5 hl5) | ((with_reducible refine (HSh.out _ _ HL5.out).mono ?_); rintro e w6 ⟨u6, rfl, hl6, hb6⟩; have HX6 := Lib.hid (obj_kept hb6 HX5.out); have HB6 := Lib.hid (below_step HB5.out hb6); have HL6 := Lib.hid hl6; clear hb6 hl6))
    clear HX3 HX4 HX5 HXd HA4 s0 s1 s2 s3
    obtain ⟨a6, c6, hu6, _, hk6⟩ := lens_cell HL6.out
    rw [HSl.out] at hu6 hk6
    subst hu6
    have HK6 := Lib.hid hk6
    obtain ⟨i0, hi0, hz0, hz1, hz2⟩ := info_parts infoZ12
    obtain ⟨W7, hrun, hown7, hg7⟩ := run_make_full (P := Try.prog) w6 w6.heap.size 67 2 i0 _ 1 Try.underlying67 hi0 hz0 hz1 .i64 .i64 l.length (by rw [hz2]; omega) (by unfold maxLen; omega) (Nat.le_refl _)
    have HR7 := Lib.hid (RowZ.made hown7)
    have hb7 : Below w6.heap.size w6 W7 := (Below.refl _ _).grown (row := none) hg7 (Nat.le_refl _) (fun q h => by cases h)
    have HB7 := Lib.hid hb7
    have hPlt : w2.heap.size < w6.heap.size := lt_of_obj HX6.out
    obtain ⟨P, hP⟩ : ∃ P, P = w2.heap.size := ⟨_, rfl⟩
    rw [← hP] at HX6 hPlt
    obtain ⟨b, hb⟩ : ∃ b, b = w6.heap.size := ⟨_, rfl⟩
    rw [← hb] at hrun HR7 HB7 hPlt
    have Hbs := Lib.hid hb
    clear hk6 hi0 hz0 hz1 hz2 hown7 hg7 hb7 hcap hm hb
    rw [← hP]
    clear hP
    obtain ⟨n, hnn⟩ : ∃ n, n = l.length := ⟨_, rfl⟩
    have Hn := Lib.hid hnn
    rw [← hnn] at hn hza hrun HR7 HK6 HSl
    clear hnn
    rw [← Hn.out]
    go_wp2_with fail
    clear hrun
    have hPb : P ≠ b := by omega
    have HR0 : Hid (RowZ b n ((It.widF s (It.amtOf l s) (It.wsum s l) 0 l).take 0) W7) := Lib.hid (by have := HR7.out; exact this)
    go_loopw [32] (fun kv wr => ∃ k : Nat, k ≤ n ∧ kv = .int .i64 k ∧ Hid (RowZ b n ((It.widF s (It.amtOf l s) (It.wsum s l) 0 l).take k) wr) ∧ Hid (Below b w6 wr)) (fun kv _ => n - (intOf kv).toNat)
    case atStart => exact ⟨0, Nat.zero_le _, rfl, HR0, HB7⟩
    case round =>
      obtain ⟨k, hk, rfl, HR, HB⟩ := hrel
      clear HR0 HR7 HB7
      have hBw : Below w6.heap.size w6 wr := by have := HB.out; rwa [Hbs.out] at this
      have HBr := Lib.hid (below_step HB6.out hBw)
      have HXr := Lib.hid (obj_kept hBw HX6.out)
      by_cases hlt : k < n
      · obtain ⟨b1, o1, d1, e1, r1⟩ := HA.out.2.2 (by rw [← Hn.out]; omega)
        rw [← Hn.out] at e1
        obtain ⟨rfl, rfl⟩ : p = some ⟨b1, o1, none⟩ ∧ cp = d1 := by injection e1 with a1 a2 a3; exact ⟨a1, a3⟩
        obtain ⟨g, hg⟩ : ∃ g, l[k]? = some g := ⟨_, List.getElem?_eq_getElem (by rw [← Hn.out]; exact hlt)⟩
        obtain ⟨y0, y1, y2, y3⟩ := gl_cells ((r1 k g hg).mono HBr.out)
        obtain ⟨d, hd, hwd⟩ := HGt.out k g hg
        obtain ⟨b6, o6, rfl, hc6⟩ := HK6.out (by omega)
        have cd := cell_below hBw (hc6 k d hd)
        obtain ⟨d0, d1⟩ := HDb.out d (List.mem_of_getElem? hd)
        obtain ⟨g0, g1⟩ := HGw.out g (List.mem_of_getElem? hg)
        obtain ⟨a0, a1⟩ := HAb.out
        have k0 : (0 : Int) ≤ (k : Int) := by omega
        have kl : (k : Int) < (n : Int) := by omega
        have hm0 : -1073741823 ≤ s.sg * d ∧ s.sg * d ≤ 1073741823 := by
          rcases HSg.out with e | e | e <;> rw [e] <;> omega
        have hwm : IntKind.i64.wrap (s.sg * d) = s.sg * d := It.wr_in (by omega) (by omega)
        have hwa : IntKind.i64.wrap (g.w + s.sg * d) = g.w + s.sg * d := It.wr_in (by omega) (by omega)
        have hlen : ((It.widF s (It.amtOf l s) (It.wsum s l) 0 l).take k).length = k := by rw [List.length_take, HWl.out, ← Hn.out]; omega
        have hb2 := below_alloc wr (.cells #[.int .i64 g.w, .int .i64 g.st, .int .i64 g.sk, .int .i64 g.o] 38)
        have HG2 := Lib.hid (obj_new wr _ rfl #[.int .i64 g.w, .int .i64 g.st, .int .i64 g.sk, .int .i64 g.o] 38)
        obtain ⟨W2, hW2⟩ : ∃ W2, W2 = wr.alloc (.cells #[.int .i64 g.w, .int .i64 g.st, .int .i64 g.sk, .int .i64 g.o] 38) := ⟨_, rfl⟩
        rw [← hW2] at hb2 HG2
        have HD := Lib.hid (below_drew10w (W2.setCell ⟨b, k, none⟩ (.int .i64 (g.w + s.sg * d))))
        have HR2 := Lib.hid (HR.out.below hb2)
        have HX2 := Lib.hid (obj_kept hb2 HXr.out)
        have hsz : b ≤ wr.heap.size := by have := HB.out.size; have := Hbs.out; omega
        have HB2 := Lib.hid (HB.out.trans (hb2.mono hsz))
        have cd2 := cell_below hb2 cd
        obtain ⟨Q, hQ⟩ : ∃ Q, Q = wr.heap.size := ⟨_, rfl⟩
        rw [← hQ] at HG2
        have HNx : Hid ((It.widF s (It.amtOf l s) (It.wsum s l) 0 l).take (k + 1) = (It.widF s (It.amtOf l s) (It.wsum s l) 0 l).take k ++ [g.w + s.sg * d]) := Lib.hid (It.take_snoc hwd)
        have hcell := HR2.out.cell (by rw [hlen]; exact hlt)
        have hset := HR2.out.set (by rw [hlen]; exact hlt) (g.w + s.sg * d)
        rw [hlen] at hcell hset
        have HRn : Hid (RowZ b n ((It.widF s (It.amtOf l s) (It.wsum s l) 0 l).take (k + 1)) (W2.setCell ⟨b, k, none⟩ (.int .i64 (g.w + s.sg * d))).drew) := Lib.hid (by rw [HNx.out]; exact hset.below HD.out)
        have HBs := Lib.hid (HB2.out.setCell (p := ⟨b, k, none⟩) (Nat.le_refl _) (.int .i64 (g.w + s.sg * d)))
        have HBn := Lib.hid (HBs.out.trans (HD.out.mono (by have := HBs.out.size; have := Hbs.out; omega)))
        have hQb : Q ≠ b := by
          obtain ⟨_, hrb, _⟩ := HR.out
          have := lt_of_obj hrb
          omega
        have h6 : b6 < b := by
          have : b6 < w6.heap.size := block_lt_of_cell (hc6 k d hd)
          have := Hbs.out
          omega
        have n0 := cell_below HD.out (Lib.cell_of_heap (obj_set (i := k) (v := .int .i64 (g.w + s.sg * d)) HX2.out hPb) 0)
        have n1 := cell_below HD.out (Lib.cell_of_heap (obj_set (i := k) (v := .int .i64 (g.w + s.sg * d)) HG2.out hQb) 0)
        have n2 : (W2.setCell ⟨b, k, none⟩ (.int .i64 (g.w + s.sg * d))).cell? ⟨b6, o6 + k, none⟩ = some (.int .i64 d) := by
          rw [((Below.refl b W2).setCell (p := ⟨b, k, none⟩) (Nat.le_refl _) (.int .i64 (g.w + s.sg * d))).cell h6]
          exact cd2
        have N0 := Lib.hid n0
        have N1 := Lib.hid n1
        have N2 := Lib.hid (cell_below HD.out n2)
        clear n0 n1 n2 h6
        obtain ⟨hc1, hc2⟩ := hcell
        have s0 : W2.cell? ⟨P, 0, none⟩ = some (.int .i64 s.sg) := Lib.cell_of_heap HX2.out 0
        have q0 : W2.cell? ⟨Q, 0, none⟩ = some (.int .i64 g.w) := Lib.cell_of_heap HG2.out 0
        clear r1 e1 hg hd hwd hlen hset hb2 hc6 cd hBw hm0 a0 a1 d0 d1 g0 g1 hsz
        go_upto_region 9 with fail
        rw [← hW2, ← hQ]
        clear hW2 hQ y0 y1 y2 y3
        go_region_held3 (fun w' => w'.cell? ⟨P, 0, none⟩ = some (.int .i64 s.sg) ∧ w'.cell? ⟨Q, 0, none⟩ = some (.int .i64 g.w) ∧ w'.cell? ⟨b6, o6 + k, none⟩ = some (.int .i64 d)) (first | (exact ⟨N0.out, N1.out, N2.out⟩) | go_keep) (fail)
        go_wp2
        go_roundw
        case rel => exact ⟨k + 1, by omega, by go_num, HRn, HBn⟩
        case measure => simp [intOf]; omega
      · obtain rfl : k = n := by omega
        have HF : Hid (LensAt wr (.slice (some ⟨b, 0, none⟩) k k) (It.widF s (It.amtOf l s) (It.wsum s l) 0 l)) := Lib.hid (by
          have hE : (It.widF s (It.amtOf l s) (It.wsum s l) 0 l).take k = It.widF s (It.amtOf l s) (It.wsum s l) 0 l := List.take_of_length_le (by rw [HWl.out, ← Hn.out]; omega)
          have := HR.out.full (by rw [hE, HWl.out, Hn.out]) (by omega)
          rw [hE] at this
          exact this)
        go_wp2
        exact bodyPost_ret (v := .tuple #[.slice (some ⟨b, 0, none⟩) k k, .bool true]) (by simp [results, Try.results30, go_sem]) rfl ⟨_, rfl, by rw [HE.out]; exact ⟨b, by have := HB6.out.size; have := Hbs.out; omega, by rw [HWl.out, Hn.out], by rw [HWl.out, ← Hn.out]; exact HF.out⟩, HBr.out⟩
end Go.Proofs.Ythcilpijiindeaa
