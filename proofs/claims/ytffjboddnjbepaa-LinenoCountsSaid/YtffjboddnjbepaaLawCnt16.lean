/-
  The law LinenoCounts.
-/
import Derived.Test.YtffjboddnjbepaaLawSki16
set_option linter.unusedVariables false
set_option linter.unusedSimpArgs false
namespace Go.Proofs.Ytffjboddnjbepaa
open Go.RowKit

set_option maxHeartbeats 16000000 in
set_option maxRecDepth 100000 in
theorem lawCounts (v : Value) (l : List Ln.Rw) (u : Int) (w : World) (h : RwsAt w v l) (hb : l.length * 40 ≤ 140737488355328) : Calls Try.prog 4 #[v, .int .i64 u] w fun e w' => e = .returned (.bool true) ∧ Below w.heap.size w w' := by
  have HF := Lib.hid fixed16_any
  have HNum := Lib.hid (number_any v l u w h (by omega))
  have HKn := Lib.hid (fun v' w' (h : RwsAt w' v' (l.map Ln.bare)) => number_any v' (l.map Ln.bare) u w' h (by rw [List.length_map]; omega))
  have HR := Lib.hid h
  obtain ⟨a, cp, rfl, hm, _⟩ := slc_open h
  obtain ⟨N, hN⟩ : ∃ N, N = Ln.number u l := ⟨_, rfl⟩
  have hNl : N.length = l.length := by rw [hN]; exact Ln.goN_len u l _ _
  have HNl := Lib.hid hNl
  have HNb := Lib.hid (Ln.number_bound u l)
  obtain ⟨NB, hNB⟩ : ∃ N, N = Ln.number u (l.map Ln.bare) := ⟨_, rfl⟩
  have HG0 : Hid (([] : List (Int × Int)) ++ Ln.goN u ((Ln.prev l 0).map Ln.bare) (0, 0) ((l.drop 0).map Ln.bare) = NB) := Lib.hid (by rw [hNB, List.nil_append, Ln.prev_zero, List.drop_zero]; rfl)
  rw [← hN] at HNum HNb
  rw [← hNB] at HKn
  obtain ⟨n, hn⟩ : ∃ n, n = l.length := ⟨_, rfl⟩
  have Hn := Lib.hid hn
  rw [← hn] at hb hm HNl HNum HNb ⊢
  have hz : n ≤ 140737488355328 := by omega
  clear hN hNB hNl hn hm hb h
  by_cases hbig : 1000 < n
  · have hbi : (1000 : Int) < (n : Int) := by omega
    go_enter Try.func4, Try.ntmps4
    go_wp2_with fail
    refine HNum.out.mono ?_
    rintro e w1 ⟨v1, rfl, hv1, hb1⟩
    have HB1 := Lib.hid hb1
    obtain ⟨a1, cp1, rfl, _, _⟩ := slc_open hv1
    rw [HNl.out]
    clear hb1 hv1
    go_wp2_with fail
    refine (HF.out _).mono ?_
    rintro e w2 ⟨rfl, hb2⟩
    have HB2 := Lib.hid (below_step HB1.out hb2)
    clear hb2
    go_wp2_with fail
    refine (HF.out _).mono ?_
    rintro e w3 ⟨rfl, hb3⟩
    have HB3 := Lib.hid (below_step HB2.out hb3)
    clear hb3
    go_wp2
    go_ret
    exact ⟨rfl, HB3.out⟩
  have hsm : (n : Int) ≤ 1000 := by omega
  go_enter Try.func4, Try.ntmps4
  go_wp2_with fail
  refine HNum.out.mono ?_
  rintro e w1 ⟨v1, rfl, hv1, hb1⟩
  have HB1 := Lib.hid hb1
  have HV1 := Lib.hid hv1
  clear hb1 hv1
  obtain ⟨a1, cp1, rfl, _, _⟩ := slc_open HV1.out
  rw [HNl.out] at HV1 ⊢
  go_wp2_with fail
  refine (HF.out _).mono ?_
  rintro e w2 ⟨rfl, hb2⟩
  have HB2 := Lib.hid (below_step HB1.out hb2)
  have HA := Lib.hid (SlcAt.mono HR.out HB2.out)
  have HV := Lib.hid (SlcAt.mono HV1.out hb2)
  clear hb2
  obtain ⟨w3, hw3⟩ : ∃ W, W = w2.alloc (.cells #[] 29) := ⟨_, rfl⟩
  have hO3 := own_empty 29 rwC 7 w2
  have hb3 := below_alloc w2 (.cells #[] 29)
  have hs3 : w3.heap.size = w2.heap.size + 1 := by rw [hw3]; exact World.size_alloc _ _
  rw [← hw3] at hO3 hb3
  obtain ⟨w4, hw4⟩ : ∃ W, W = w3.alloc (.cells #[] 31) := ⟨_, rfl⟩
  have hO4 := own_empty 31 nmC 2 w3
  have hb4 := below_alloc w3 (.cells #[] 31)
  rw [← hw4] at hO4 hb4
  rw [hs3] at hO4
  have HO0 : Hid (OwnW w2.heap.size (.slice (some ⟨w2.heap.size, 0, none⟩) 0 0) ((l.take 0).map Ln.bare) w4) := Lib.hid (hO3.mono hb4)
  have HQ0 : Hid (OwnN w2.heap.size (.slice (some ⟨w2.heap.size + 1, 0, none⟩) 0 0) [] w4) := Lib.hid (hO4.base16 (by omega))
  have HW0 := Lib.hid (below_step hb3 hb4)
  clear hO3 hb3 hO4 hb4 hs3
  go_wp2_with fail
  rw [← hw3, ← hw4]
  clear hw3 hw4
  go_loopw [6, 7, 8, 9] (fun mv kv qv iv wr => ∃ k : Nat, k ≤ n ∧ iv = .int .i64 k ∧ ∃ (m : Int) (os : List (Int × Int)), mv = .int .i64 m ∧ 0 ≤ m ∧ m ≤ (k : Int) ∧ Hid (os ++ Ln.goN u ((Ln.prev l k).map Ln.bare) (m, 0) ((l.drop k).map Ln.bare) = NB) ∧ Hid (os.length = k) ∧ Hid (OwnW w2.heap.size kv ((l.take k).map Ln.bare) wr) ∧ Hid (OwnN w2.heap.size qv os wr) ∧ Hid (∀ (j : Nat) (q : Ln.Rw), j < k → l[j]? = some q → q.st ≤ 9999) ∧ Hid (Below w2.heap.size w2 wr)) (fun _ _ _ iv _ => n - (intOf iv).toNat)
  case atStart => exact ⟨0, Nat.zero_le _, rfl, 0, [], rfl, Int.le_refl _, Int.le_refl _, HG0, Lib.hid rfl, HO0, HQ0, Lib.hid (fun j q h => absurd h (by omega)), HW0⟩
  case round =>
    obtain ⟨k, hk, rfl, m, os, rfl, hm0, hmk, HG, HL, HO, HQ, HSt, HW⟩ := hrel
    clear HO0 HQ0 HG0 HW0
    by_cases hlt : k < n
    · obtain ⟨b1, o1, d1, e1, r1⟩ := HA.out.2.2 (by rw [← Hn.out]; omega)
      rw [← Hn.out] at e1
      obtain ⟨rfl, rfl⟩ : a = some ⟨b1, o1, none⟩ ∧ cp = d1 := by injection e1 with a1 a2 a3; exact ⟨a1, a3⟩
      obtain ⟨b9, o9, d9, e9, r9⟩ := HV.out.2.2 (by rw [HNl.out]; omega)
      rw [HNl.out] at e9
      obtain ⟨rfl, rfl⟩ : a1 = some ⟨b9, o9, none⟩ ∧ cp1 = d9 := by injection e9 with a1 a2 a3; exact ⟨a1, a3⟩
      obtain ⟨r, hr⟩ : ∃ r, l[k]? = some r := ⟨_, List.getElem?_eq_getElem (by rw [← Hn.out]; exact hlt)⟩
      have HZr := Lib.hid (r1 k r hr)
      have HR1 := Lib.hid r1
      have HR9 := Lib.hid r9
      have Hr := Lib.hid hr
      have k0 : (0 : Int) ≤ (k : Int) := by omega
      have kl : (k : Int) < (n : Int) := by omega
      have hwm : IntKind.i64.wrap (m + 1) = m + 1 := by rw [IntWalk.i64_left, IntWalk.wrap64_in _ (by omega)]
      have HBd := Lib.hid (below_step HW.out (below_drew16 wr))
      obtain ⟨y0, y1, y2, y3, y4, y5, y6⟩ := rw_cells (HZr.out.mono HW.out)
      clear e1 r1 e9 r9 hr
      by_cases hst : 9999 < r.st
      · go_wp2_with fail
        go_ret
        exact ⟨rfl, below_step HB2.out HW.out⟩
      have HStn : Hid (∀ (j : Nat) (q : Ln.Rw), j < k + 1 → l[j]? = some q → q.st ≤ 9999) := Lib.hid (fun j q hj hq => by
        rcases Nat.lt_or_ge j k with h | h
        · exact HSt.out j q h hq
        · obtain rfl : j = k := by omega
          rw [Hr.out] at hq
          cases hq
          omega)
      obtain ⟨⟨x1, x2⟩, hx, hxp, hxq, hxs⟩ := HNb.out (by omega) k r Hr.out (fun j q hj hq => HStn.out j q (by omega) hq)
      have HZx := Lib.hid (HR9.out k _ hx)
      have Hxp : Hid (0 ≤ x1) := Lib.hid hxp
      have Hxq : Hid (0 ≤ x2) := Lib.hid hxq
      have Hxs : Hid (r.sk = (x1 == 0)) := Lib.hid (by rw [hxs]; rfl)
      clear hx hxp hxq hxs
      rcases Nat.eq_zero_or_pos k with hk0 | hk0
      · have ck : (0 < k) = False := by rw [eq_iff_iff]; exact ⟨fun h => by omega, False.elim⟩
        have cd : decide (0 < k) = false := by rw [decide_eq_false_iff_not]; omega
        have HGn := Lib.hid (Ln.step_bare u Hr.out HG.out (by omega) (m + 1) (by rw [hk0, Ln.prev_zero, if_neg (by rintro ⟨q, h, _⟩; cases h)]))
        clear hk0
        go_upto_region 12 with fail
        go_quiet (fail)
        obtain ⟨w5, hw5⟩ : ∃ W, W = wr.drewN nq := ⟨_, rfl⟩
        have HC5 := Lib.hid (below_drew wr nq)
        rw [← hw5] at HC5 ⊢
        have HB5 := Lib.hid (below_step HW.out HC5.out)
        clear hw5
        have HO5 := Lib.hid (HO.out.mono HC5.out)
        have HQ5 := Lib.hid (HQ.out.mono HC5.out)
        obtain ⟨p0, p1, p2, p3, p4, p5, p6⟩ := rw_cells (HZr.out.mono HB5.out)
        go_upto_region 15 with fail
        go_region_held3 (fun w' => w'.cell? ⟨b1, o1 + k * 7, none⟩ = some (.int .i64 r.pg) ∧ w'.cell? ⟨b1, o1 + k * 7 + 1, none⟩ = some (.int .i64 r.ch) ∧ w'.cell? ⟨b1, o1 + k * 7 + 2, none⟩ = some (.int .i64 r.pa)) (first | (exact ⟨p0, p1, p2⟩) | go_keep) (fail)
        obtain ⟨R, hR⟩ : ∃ R, R = w5.heap.size := ⟨_, rfl⟩
        obtain ⟨w6, hw6⟩ : ∃ W, W = (w5.alloc (.cells #[.int .i64 r.pg, .int .i64 r.ch, .int .i64 r.pa, .int .i64 0, .bool false, .bool false, .bool false] 29)).drew := ⟨_, rfl⟩
        have hR6 : w6.heap[R]? = some (.cells #[.int .i64 r.pg, .int .i64 r.ch, .int .i64 r.pa, .int .i64 0, .bool false, .bool false, .bool false] 29 (0, 0)) := by rw [hw6, hR]; exact obj_kept (below_drew16 _) (obj_new w5 _ rfl _ _)
        have hb6 : Below w5.heap.size w5 w6 := by rw [hw6]; exact below_step (below_alloc _ _) (below_drew16 _)
        rw [← hR, ← hw6]
        clear hR hw6 p0 p1 p2 p3 p4 p5 p6
        have v0 := Lib.cell_of_heap hR6 0
        have v1 := Lib.cell_of_heap hR6 1
        have v2 := Lib.cell_of_heap hR6 2
        have v3 := Lib.cell_of_heap hR6 3
        have v4 := Lib.cell_of_heap hR6 4
        have v5 := Lib.cell_of_heap hR6 5
        have v6 := Lib.cell_of_heap hR6 6
        have hb7 := below_alloc w6 (.cells #[.int .i64 r.pg, .int .i64 r.ch, .int .i64 r.pa, .int .i64 0, .bool false, .bool false, .bool false] 29)
        have HO7 := Lib.hid ((HO5.out.mono hb6).mono hb7)
        have HQ7 := Lib.hid ((HQ5.out.mono hb6).mono hb7)
        have HB7 := Lib.hid (below_step (below_step HB5.out hb6) hb7)
        have HS7 := Lib.hid (slc_new rwC_len w6 w6.heap.size rfl [Ln.bare r] 29 (by simp) #[.int .i64 r.pg, .int .i64 r.ch, .int .i64 r.pa, .int .i64 0, .bool false, .bool false, .bool false] rfl)
        have hz7 := HB7.out.size
        have HKl : Hid (((l.take k).map Ln.bare).length = k) := Lib.hid (by rw [List.length_map, List.length_take, ← Hn.out]; omega)
        clear hb6 hb7 hR6
        go_wp2_with (first
          | (at_builtin; refine wpList_append_slc Try.underlying23 infoNm rfl (by decide) nmC_len nmC_cell rfl _ _ rfl w2.heap.size _ _ os [(m + 1, 0)] rfl HQ8.out rfl HS8.out (by rw [HL.out]; simp only [List.length_singleton]; omega) (by rw [HL.out]; unfold maxLen; simp only [List.length_singleton]; omega) hz8 ?_; intro v9 w9 h9 hg9; have HQ9 := Lib.hid h9; have HO9 := Lib.hid (HO8.out.grown hg9 (own_apart16 HO8.out HQ8.out (by decide))); have HB9 := Lib.hid (below_app HB8.out hg9 HQ8.out hz8); clear h9 hg9)
          | (at_builtin; refine wpList_append_slc Try.underlying22 infoRw rfl (by decide) rwC_len rwC_cell rfl _ _ rfl w2.heap.size _ _ ((l.take k).map Ln.bare) [Ln.bare r] rfl HO7.out rfl HS7.out (by rw [HKl.out]; simp only [List.length_singleton]; omega) (by rw [HKl.out]; unfold maxLen; simp only [List.length_singleton]; omega) hz7 ?_; intro v7 w7 h7 hg7; have HO7b := Lib.hid h7; have HQ7b := Lib.hid (HQ7.out.grown hg7 (own_apart16 HQ7.out HO7.out (by decide))); have HB7b := Lib.hid (below_app HB7.out hg7 HO7.out hz7); have hb8 := below_alloc w7 (.cells #[.int .i64 (m + 1), .int .i64 0] 31); have HO8 := Lib.hid (HO7b.out.mono hb8); have HQ8 := Lib.hid (HQ7b.out.mono hb8); have HB8 := Lib.hid (below_step HB7b.out hb8); have HS8 := Lib.hid (slc_new nmC_len w7 w7.heap.size rfl [(m + 1, 0)] 31 (by simp) #[.int .i64 (m + 1), .int .i64 0] rfl); have hz8 := HB8.out.size; clear h7 hg7 hb8))
        have HBq := Lib.hid (fun nq => below_step HB9.out (below_drew w9 nq))
        have c5 := fun nq => (rw_cells (HZr.out.mono (HBq.out nq))).2.2.2.2.2.1
        have c6 := fun nq => (nm_cells (HZx.out.mono (HBq.out nq))).1
        have c7 := fun nq => (nm_cells (HZx.out.mono (HBq.out nq))).2
        simp only [Hxs.out] at c5
        have hxp := Hxp.out
        have hxq := Hxq.out
        go_quiet (fail)
        go_wp2_with fail
        go_roundw
        case rel => exact ⟨k + 1, by omega, by go_num, m + 1, os ++ [(m + 1, 0)], rfl, by omega, by omega, HGn, Lib.hid (by rw [List.length_append, HL.out]; rfl), Lib.hid (by rw [Ln.take_add16 Hr.out, List.map_append]; exact HO9.out.mono (below_drew w9 _)), Lib.hid (HQ9.out.mono (below_drew w9 _)), HStn, Lib.hid (HBq.out _)⟩
        case measure => simp [intOf]; omega
      · obtain ⟨j, hj⟩ : ∃ j, k = j + 1 := ⟨k - 1, by omega⟩
        obtain ⟨q, hq⟩ : ∃ q, l[j]? = some q := ⟨_, List.getElem?_eq_getElem (by rw [← Hn.out]; omega)⟩
        have HZq := Lib.hid (HR1.out j q hq)
        obtain ⟨z0, z1, z2, z3, z4, z5, z6⟩ := rw_cells (HZq.out.mono HW.out)
        have HP : Hid (Ln.prev l k = some q) := Lib.hid (by rw [hj]; exact Ln.prev_succ hq)
        have j0 : (0 : Int) ≤ (j : Int) := by omega
        have jl : (j : Int) < (n : Int) := by omega
        have km2 : IntKind.i64.wrap ((k : Int) - 1) = (j : Int) := by rw [IntWalk.i64_left, IntWalk.wrap64_in _ (by omega)]; omega
        have cd : decide (0 < k) = true := by rw [decide_eq_true_iff]; exact hk0
        have HU1 := Lib.hid (fun w => unit_any r u w)
        have HU2 := Lib.hid (fun w => unit_any q u w)
        obtain ⟨⟨ua, ub, uc⟩, hU⟩ : ∃ x, x = Ln.unit u r := ⟨_, rfl⟩
        obtain ⟨⟨va, vb, vc⟩, hV⟩ : ∃ x, x = Ln.unit u q := ⟨_, rfl⟩
        rw [← hU] at HU1
        rw [← hV] at HU2
        unfold rwV unV at HU1 HU2
        simp only [] at HU1 HU2
        by_cases hne : (ua, ub, uc) = (va, vb, vc)
        · have heq : ∀ w, (binOp .neq 26 (.agg #[.int .i64 ua, .int .i64 ub, .int .i64 uc]) (.agg #[.int .i64 va, .int .i64 vb, .int .i64 vc])).run Try.prog w = .ok (.bool false) w := fun w => by
            rw [run_neq_struct, eq_unit]
            have e : decide ((ua, ub, uc) = (va, vb, vc)) = true := by rw [decide_eq_true_iff]; exact hne
            rw [e]; rfl
          have HGn := Lib.hid (Ln.step_bare u Hr.out HG.out (by omega) (m + 1) (by rw [if_neg]; rintro ⟨q', h, h2⟩; rw [HP.out] at h; cases h; exact h2 (by rw [← hU, ← hV, hne])))
          clear hne hj hq hU hV
          go_upto_region 12 with fail
          go_region_held3 (fun w' => w'.cell? ⟨b1, o1 + k * 7, none⟩ = some (.int .i64 r.pg) ∧ w'.cell? ⟨b1, o1 + k * 7 + 1, none⟩ = some (.int .i64 r.ch) ∧ w'.cell? ⟨b1, o1 + k * 7 + 2, none⟩ = some (.int .i64 r.pa) ∧ w'.cell? ⟨b1, o1 + k * 7 + 3, none⟩ = some (.int .i64 r.st) ∧ w'.cell? ⟨b1, o1 + k * 7 + 4, none⟩ = some (.bool r.sb) ∧ w'.cell? ⟨b1, o1 + k * 7 + 5, none⟩ = some (.bool r.sk) ∧ w'.cell? ⟨b1, o1 + k * 7 + 6, none⟩ = some (.bool r.lk) ∧ w'.cell? ⟨b1, o1 + j * 7, none⟩ = some (.int .i64 q.pg) ∧ w'.cell? ⟨b1, o1 + j * 7 + 1, none⟩ = some (.int .i64 q.ch) ∧ w'.cell? ⟨b1, o1 + j * 7 + 2, none⟩ = some (.int .i64 q.pa) ∧ w'.cell? ⟨b1, o1 + j * 7 + 3, none⟩ = some (.int .i64 q.st) ∧ w'.cell? ⟨b1, o1 + j * 7 + 4, none⟩ = some (.bool q.sb) ∧ w'.cell? ⟨b1, o1 + j * 7 + 5, none⟩ = some (.bool q.sk) ∧ w'.cell? ⟨b1, o1 + j * 7 + 6, none⟩ = some (.bool q.lk)) (first | (have hz := rw_cells (HZr.out.mono HB5.out); have hz2 := rw_cells (HZq.out.mono HB5.out); exact ⟨hz.1, hz.2.1, hz.2.2.1, hz.2.2.2.1, hz.2.2.2.2.1, hz.2.2.2.2.2.1, hz.2.2.2.2.2.2, hz2.1, hz2.2.1, hz2.2.2.1, hz2.2.2.2.1, hz2.2.2.2.2.1, hz2.2.2.2.2.2.1, hz2.2.2.2.2.2.2⟩) | (have hz := rw_cells (HZr.out.mono HB4.out); have hz2 := rw_cells (HZq.out.mono HB4.out); exact ⟨hz.1, hz.2.1, hz.2.2.1, hz.2.2.2.1, hz.2.2.2.2.1, hz.2.2.2.2.2.1, hz.2.2.2.2.2.2, hz2.1, hz2.2.1, hz2.2.2.1, hz2.2.2.2.1, hz2.2.2.2.2.1, hz2.2.2.2.2.2.1, hz2.2.2.2.2.2.2⟩) | (have hz := rw_cells (HZr.out.mono HBd.out); have hz2 := rw_cells (HZq.out.mono HBd.out); exact ⟨hz.1, hz.2.1, hz.2.2.1, hz.2.2.2.1, hz.2.2.2.2.1, hz.2.2.2.2.2.1, hz.2.2.2.2.2.2, hz2.1, hz2.2.1, hz2.2.2.1, hz2.2.2.2.1, hz2.2.2.2.2.1, hz2.2.2.2.2.2.1, hz2.2.2.2.2.2.2⟩) | go_keep) (first | ((with_reducible refine (HU2.out _).mono ?_); rintro e w5 ⟨rfl, hb5⟩; have HB5 := Lib.hid (below_step HB4.out hb5); have HC5 := Lib.hid (below_step HC4.out hb5); clear hb5) | ((with_reducible refine (HU1.out _).mono ?_); rintro e w4 ⟨rfl, hb4⟩; have HB4 := Lib.hid (below_step HBd.out hb4); have HC4 := Lib.hid (below_step (below_drew16 wr) hb4); clear hb4))
          have HO5 := Lib.hid (HO.out.mono HC5.out)
          have HQ5 := Lib.hid (HQ.out.mono HC5.out)
          obtain ⟨p0, p1, p2, p3, p4, p5, p6⟩ := rw_cells (HZr.out.mono HB5.out)
          go_upto_region 15 with fail
          go_region_held3 (fun w' => w'.cell? ⟨b1, o1 + k * 7, none⟩ = some (.int .i64 r.pg) ∧ w'.cell? ⟨b1, o1 + k * 7 + 1, none⟩ = some (.int .i64 r.ch) ∧ w'.cell? ⟨b1, o1 + k * 7 + 2, none⟩ = some (.int .i64 r.pa)) (first | (exact ⟨p0, p1, p2⟩) | go_keep) (fail)
          obtain ⟨R, hR⟩ : ∃ R, R = w5.heap.size := ⟨_, rfl⟩
          obtain ⟨w6, hw6⟩ : ∃ W, W = (w5.alloc (.cells #[.int .i64 r.pg, .int .i64 r.ch, .int .i64 r.pa, .int .i64 0, .bool false, .bool false, .bool false] 29)).drew := ⟨_, rfl⟩
          have hR6 : w6.heap[R]? = some (.cells #[.int .i64 r.pg, .int .i64 r.ch, .int .i64 r.pa, .int .i64 0, .bool false, .bool false, .bool false] 29 (0, 0)) := by rw [hw6, hR]; exact obj_kept (below_drew16 _) (obj_new w5 _ rfl _ _)
          have hb6 : Below w5.heap.size w5 w6 := by rw [hw6]; exact below_step (below_alloc _ _) (below_drew16 _)
          rw [← hR, ← hw6]
          clear hR hw6 p0 p1 p2 p3 p4 p5 p6
          have v0 := Lib.cell_of_heap hR6 0
          have v1 := Lib.cell_of_heap hR6 1
          have v2 := Lib.cell_of_heap hR6 2
          have v3 := Lib.cell_of_heap hR6 3
          have v4 := Lib.cell_of_heap hR6 4
          have v5 := Lib.cell_of_heap hR6 5
          have v6 := Lib.cell_of_heap hR6 6
          have hb7 := below_alloc w6 (.cells #[.int .i64 r.pg, .int .i64 r.ch, .int .i64 r.pa, .int .i64 0, .bool false, .bool false, .bool false] 29)
          have HO7 := Lib.hid ((HO5.out.mono hb6).mono hb7)
          have HQ7 := Lib.hid ((HQ5.out.mono hb6).mono hb7)
          have HB7 := Lib.hid (below_step (below_step HB5.out hb6) hb7)
          have HS7 := Lib.hid (slc_new rwC_len w6 w6.heap.size rfl [Ln.bare r] 29 (by simp) #[.int .i64 r.pg, .int .i64 r.ch, .int .i64 r.pa, .int .i64 0, .bool false, .bool false, .bool false] rfl)
          have hz7 := HB7.out.size
          have HKl : Hid (((l.take k).map Ln.bare).length = k) := Lib.hid (by rw [List.length_map, List.length_take, ← Hn.out]; omega)
          clear hb6 hb7 hR6
          go_wp2_with (first
            | (at_builtin; refine wpList_append_slc Try.underlying23 infoNm rfl (by decide) nmC_len nmC_cell rfl _ _ rfl w2.heap.size _ _ os [(m + 1, 0)] rfl HQ8.out rfl HS8.out (by rw [HL.out]; simp only [List.length_singleton]; omega) (by rw [HL.out]; unfold maxLen; simp only [List.length_singleton]; omega) hz8 ?_; intro v9 w9 h9 hg9; have HQ9 := Lib.hid h9; have HO9 := Lib.hid (HO8.out.grown hg9 (own_apart16 HO8.out HQ8.out (by decide))); have HB9 := Lib.hid (below_app HB8.out hg9 HQ8.out hz8); clear h9 hg9)
            | (at_builtin; refine wpList_append_slc Try.underlying22 infoRw rfl (by decide) rwC_len rwC_cell rfl _ _ rfl w2.heap.size _ _ ((l.take k).map Ln.bare) [Ln.bare r] rfl HO7.out rfl HS7.out (by rw [HKl.out]; simp only [List.length_singleton]; omega) (by rw [HKl.out]; unfold maxLen; simp only [List.length_singleton]; omega) hz7 ?_; intro v7 w7 h7 hg7; have HO7b := Lib.hid h7; have HQ7b := Lib.hid (HQ7.out.grown hg7 (own_apart16 HQ7.out HO7.out (by decide))); have HB7b := Lib.hid (below_app HB7.out hg7 HO7.out hz7); have hb8 := below_alloc w7 (.cells #[.int .i64 (m + 1), .int .i64 0] 31); have HO8 := Lib.hid (HO7b.out.mono hb8); have HQ8 := Lib.hid (HQ7b.out.mono hb8); have HB8 := Lib.hid (below_step HB7b.out hb8); have HS8 := Lib.hid (slc_new nmC_len w7 w7.heap.size rfl [(m + 1, 0)] 31 (by simp) #[.int .i64 (m + 1), .int .i64 0] rfl); have hz8 := HB8.out.size; clear h7 hg7 hb8))
          have HBq := Lib.hid (fun nq => below_step HB9.out (below_drew w9 nq))
          have c5 := fun nq => (rw_cells (HZr.out.mono (HBq.out nq))).2.2.2.2.2.1
          have c6 := fun nq => (nm_cells (HZx.out.mono (HBq.out nq))).1
          have c7 := fun nq => (nm_cells (HZx.out.mono (HBq.out nq))).2
          simp only [Hxs.out] at c5
          have hxp := Hxp.out
          have hxq := Hxq.out
          go_quiet (fail)
          go_wp2_with fail
          go_roundw
          case rel => exact ⟨k + 1, by omega, by go_num, m + 1, os ++ [(m + 1, 0)], rfl, by omega, by omega, HGn, Lib.hid (by rw [List.length_append, HL.out]; rfl), Lib.hid (by rw [Ln.take_add16 Hr.out, List.map_append]; exact HO9.out.mono (below_drew w9 _)), Lib.hid (HQ9.out.mono (below_drew w9 _)), HStn, Lib.hid (HBq.out _)⟩
          case measure => simp [intOf]; omega
        · have heq : ∀ w, (binOp .neq 26 (.agg #[.int .i64 ua, .int .i64 ub, .int .i64 uc]) (.agg #[.int .i64 va, .int .i64 vb, .int .i64 vc])).run Try.prog w = .ok (.bool true) w := fun w => by
            rw [run_neq_struct, eq_unit]
            have e : decide ((ua, ub, uc) = (va, vb, vc)) = false := by rw [decide_eq_false_iff_not]; exact hne
            rw [e]; rfl
          have HGn := Lib.hid (Ln.step_bare u Hr.out HG.out (by omega) 1 (by rw [if_pos ⟨q, HP.out, by rw [← hU, ← hV]; exact hne⟩]))
          clear hne hj hq hU hV
          go_upto_region 12 with fail
          go_region_held3 (fun w' => w'.cell? ⟨b1, o1 + k * 7, none⟩ = some (.int .i64 r.pg) ∧ w'.cell? ⟨b1, o1 + k * 7 + 1, none⟩ = some (.int .i64 r.ch) ∧ w'.cell? ⟨b1, o1 + k * 7 + 2, none⟩ = some (.int .i64 r.pa) ∧ w'.cell? ⟨b1, o1 + k * 7 + 3, none⟩ = some (.int .i64 r.st) ∧ w'.cell? ⟨b1, o1 + k * 7 + 4, none⟩ = some (.bool r.sb) ∧ w'.cell? ⟨b1, o1 + k * 7 + 5, none⟩ = some (.bool r.sk) ∧ w'.cell? ⟨b1, o1 + k * 7 + 6, none⟩ = some (.bool r.lk) ∧ w'.cell? ⟨b1, o1 + j * 7, none⟩ = some (.int .i64 q.pg) ∧ w'.cell? ⟨b1, o1 + j * 7 + 1, none⟩ = some (.int .i64 q.ch) ∧ w'.cell? ⟨b1, o1 + j * 7 + 2, none⟩ = some (.int .i64 q.pa) ∧ w'.cell? ⟨b1, o1 + j * 7 + 3, none⟩ = some (.int .i64 q.st) ∧ w'.cell? ⟨b1, o1 + j * 7 + 4, none⟩ = some (.bool q.sb) ∧ w'.cell? ⟨b1, o1 + j * 7 + 5, none⟩ = some (.bool q.sk) ∧ w'.cell? ⟨b1, o1 + j * 7 + 6, none⟩ = some (.bool q.lk)) (first | (have hz := rw_cells (HZr.out.mono HB5.out); have hz2 := rw_cells (HZq.out.mono HB5.out); exact ⟨hz.1, hz.2.1, hz.2.2.1, hz.2.2.2.1, hz.2.2.2.2.1, hz.2.2.2.2.2.1, hz.2.2.2.2.2.2, hz2.1, hz2.2.1, hz2.2.2.1, hz2.2.2.2.1, hz2.2.2.2.2.1, hz2.2.2.2.2.2.1, hz2.2.2.2.2.2.2⟩) | (have hz := rw_cells (HZr.out.mono HB4.out); have hz2 := rw_cells (HZq.out.mono HB4.out); exact ⟨hz.1, hz.2.1, hz.2.2.1, hz.2.2.2.1, hz.2.2.2.2.1, hz.2.2.2.2.2.1, hz.2.2.2.2.2.2, hz2.1, hz2.2.1, hz2.2.2.1, hz2.2.2.2.1, hz2.2.2.2.2.1, hz2.2.2.2.2.2.1, hz2.2.2.2.2.2.2⟩) | (have hz := rw_cells (HZr.out.mono HBd.out); have hz2 := rw_cells (HZq.out.mono HBd.out); exact ⟨hz.1, hz.2.1, hz.2.2.1, hz.2.2.2.1, hz.2.2.2.2.1, hz.2.2.2.2.2.1, hz.2.2.2.2.2.2, hz2.1, hz2.2.1, hz2.2.2.1, hz2.2.2.2.1, hz2.2.2.2.2.1, hz2.2.2.2.2.2.1, hz2.2.2.2.2.2.2⟩) | go_keep) (first | ((with_reducible refine (HU2.out _).mono ?_); rintro e w5 ⟨rfl, hb5⟩; have HB5 := Lib.hid (below_step HB4.out hb5); have HC5 := Lib.hid (below_step HC4.out hb5); clear hb5) | ((with_reducible refine (HU1.out _).mono ?_); rintro e w4 ⟨rfl, hb4⟩; have HB4 := Lib.hid (below_step HBd.out hb4); have HC4 := Lib.hid (below_step (below_drew16 wr) hb4); clear hb4))
          have HO5 := Lib.hid (HO.out.mono HC5.out)
          have HQ5 := Lib.hid (HQ.out.mono HC5.out)
          obtain ⟨p0, p1, p2, p3, p4, p5, p6⟩ := rw_cells (HZr.out.mono HB5.out)
          go_upto_region 15 with fail
          go_region_held3 (fun w' => w'.cell? ⟨b1, o1 + k * 7, none⟩ = some (.int .i64 r.pg) ∧ w'.cell? ⟨b1, o1 + k * 7 + 1, none⟩ = some (.int .i64 r.ch) ∧ w'.cell? ⟨b1, o1 + k * 7 + 2, none⟩ = some (.int .i64 r.pa)) (first | (exact ⟨p0, p1, p2⟩) | go_keep) (fail)
          obtain ⟨R, hR⟩ : ∃ R, R = w5.heap.size := ⟨_, rfl⟩
          obtain ⟨w6, hw6⟩ : ∃ W, W = (w5.alloc (.cells #[.int .i64 r.pg, .int .i64 r.ch, .int .i64 r.pa, .int .i64 0, .bool false, .bool false, .bool false] 29)).drew := ⟨_, rfl⟩
          have hR6 : w6.heap[R]? = some (.cells #[.int .i64 r.pg, .int .i64 r.ch, .int .i64 r.pa, .int .i64 0, .bool false, .bool false, .bool false] 29 (0, 0)) := by rw [hw6, hR]; exact obj_kept (below_drew16 _) (obj_new w5 _ rfl _ _)
          have hb6 : Below w5.heap.size w5 w6 := by rw [hw6]; exact below_step (below_alloc _ _) (below_drew16 _)
          rw [← hR, ← hw6]
          clear hR hw6 p0 p1 p2 p3 p4 p5 p6
          have v0 := Lib.cell_of_heap hR6 0
          have v1 := Lib.cell_of_heap hR6 1
          have v2 := Lib.cell_of_heap hR6 2
          have v3 := Lib.cell_of_heap hR6 3
          have v4 := Lib.cell_of_heap hR6 4
          have v5 := Lib.cell_of_heap hR6 5
          have v6 := Lib.cell_of_heap hR6 6
          have hb7 := below_alloc w6 (.cells #[.int .i64 r.pg, .int .i64 r.ch, .int .i64 r.pa, .int .i64 0, .bool false, .bool false, .bool false] 29)
          have HO7 := Lib.hid ((HO5.out.mono hb6).mono hb7)
          have HQ7 := Lib.hid ((HQ5.out.mono hb6).mono hb7)
          have HB7 := Lib.hid (below_step (below_step HB5.out hb6) hb7)
          have HS7 := Lib.hid (slc_new rwC_len w6 w6.heap.size rfl [Ln.bare r] 29 (by simp) #[.int .i64 r.pg, .int .i64 r.ch, .int .i64 r.pa, .int .i64 0, .bool false, .bool false, .bool false] rfl)
          have hz7 := HB7.out.size
          have HKl : Hid (((l.take k).map Ln.bare).length = k) := Lib.hid (by rw [List.length_map, List.length_take, ← Hn.out]; omega)
          clear hb6 hb7 hR6
          go_wp2_with (first
            | (at_builtin; refine wpList_append_slc Try.underlying23 infoNm rfl (by decide) nmC_len nmC_cell rfl _ _ rfl w2.heap.size _ _ os [(1, 0)] rfl HQ8.out rfl HS8.out (by rw [HL.out]; simp only [List.length_singleton]; omega) (by rw [HL.out]; unfold maxLen; simp only [List.length_singleton]; omega) hz8 ?_; intro v9 w9 h9 hg9; have HQ9 := Lib.hid h9; have HO9 := Lib.hid (HO8.out.grown hg9 (own_apart16 HO8.out HQ8.out (by decide))); have HB9 := Lib.hid (below_app HB8.out hg9 HQ8.out hz8); clear h9 hg9)
            | (at_builtin; refine wpList_append_slc Try.underlying22 infoRw rfl (by decide) rwC_len rwC_cell rfl _ _ rfl w2.heap.size _ _ ((l.take k).map Ln.bare) [Ln.bare r] rfl HO7.out rfl HS7.out (by rw [HKl.out]; simp only [List.length_singleton]; omega) (by rw [HKl.out]; unfold maxLen; simp only [List.length_singleton]; omega) hz7 ?_; intro v7 w7 h7 hg7; have HO7b := Lib.hid h7; have HQ7b := Lib.hid (HQ7.out.grown hg7 (own_apart16 HQ7.out HO7.out (by decide))); have HB7b := Lib.hid (below_app HB7.out hg7 HO7.out hz7); have hb8 := below_alloc w7 (.cells #[.int .i64 (1), .int .i64 0] 31); have HO8 := Lib.hid (HO7b.out.mono hb8); have HQ8 := Lib.hid (HQ7b.out.mono hb8); have HB8 := Lib.hid (below_step HB7b.out hb8); have HS8 := Lib.hid (slc_new nmC_len w7 w7.heap.size rfl [(1, 0)] 31 (by simp) #[.int .i64 (1), .int .i64 0] rfl); have hz8 := HB8.out.size; clear h7 hg7 hb8))
          have HBq := Lib.hid (fun nq => below_step HB9.out (below_drew w9 nq))
          have c5 := fun nq => (rw_cells (HZr.out.mono (HBq.out nq))).2.2.2.2.2.1
          have c6 := fun nq => (nm_cells (HZx.out.mono (HBq.out nq))).1
          have c7 := fun nq => (nm_cells (HZx.out.mono (HBq.out nq))).2
          simp only [Hxs.out] at c5
          have hxp := Hxp.out
          have hxq := Hxq.out
          go_quiet (fail)
          go_wp2_with fail
          go_roundw
          case rel => exact ⟨k + 1, by omega, by go_num, 1, os ++ [(1, 0)], rfl, by omega, by omega, HGn, Lib.hid (by rw [List.length_append, HL.out]; rfl), Lib.hid (by rw [Ln.take_add16 Hr.out, List.map_append]; exact HO9.out.mono (below_drew w9 _)), Lib.hid (HQ9.out.mono (below_drew w9 _)), HStn, Lib.hid (HBq.out _)⟩
          case measure => simp [intOf]; omega
    · obtain rfl : k = n := by omega
      have HT : Hid (l.take k = l) := Lib.hid (List.take_of_length_le (by rw [← Hn.out]; omega))
      rw [HT.out] at HO
      have HOa := Lib.hid (HO.out.at rwC_len)
      have HE : Hid (os = NB) := Lib.hid (by
        have h0 := HG.out
        rw [List.drop_of_length_le (by rw [← Hn.out]; exact Nat.le_refl _)] at h0
        have hgo : ∀ p a, Ln.goN u p a [] = [] := fun p a => by cases p <;> rfl
        rwa [List.map_nil, hgo, List.append_nil] at h0)
      rw [HE.out] at HQ
      go_wp2_with fail
      refine (HKn.out _ _ HOa.out).mono ?_
      rintro e w5 ⟨v5, rfl, h5, hb5⟩
      have HB5 := Lib.hid (below_step HW.out hb5)
      have HNs := Lib.hid (refNums_any _ _ _ _ _ h5 (SlcAt.mono (HQ.out.at nmC_len) hb5))
      rw [decide_eq_true rfl] at HNs
      clear h5 hb5
      go_wp2_with fail
      refine HNs.out.mono ?_
      rintro e w6 ⟨rfl, hb6⟩
      have HB6 := Lib.hid (below_step HB5.out hb6)
      clear hb6
      go_wp2
      go_ret
      exact ⟨rfl, below_step HB2.out HB6.out⟩
end Go.Proofs.Ytffjboddnjbepaa
