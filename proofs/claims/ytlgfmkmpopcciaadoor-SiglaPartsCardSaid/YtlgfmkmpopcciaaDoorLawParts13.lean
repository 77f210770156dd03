/-
  The law SiglaParts: of two texts of tables that have no key in common the table is the one's and then the other one's.
-/
import Derived.Test.YtlgfmkmpopcciaaDoorLawKept13
import Derived.Test.YtlgfmkmpopcciaaDoorSgL13
set_option linter.unusedVariables false
set_option linter.unusedSimpArgs false
namespace Go.Proofs.YtlgfmkmpopcciaaDoor
open Go.RowKit

theorem wr_sum13 {a b : Nat} (ha : a ≤ 40) (hb : b ≤ 40) : IntKind.i64.wrap ((a : Int) + (b : Int)) = (a : Int) + (b : Int) ∧ wrap64 ((a : Int) + (b : Int)) = (a : Int) + (b : Int) := by
  have e : (a : Int) + (b : Int) = ((a + b : Nat) : Int) := by omega
  rw [e]
  exact ⟨IntWalk.i64_in _ (by omega), w64 (by omega) (by omega)⟩
set_option maxHeartbeats 8000000 in
set_option maxRecDepth 100000 in
theorem siglaParts_any (s u : List UInt8) (m : Int) (w : World) (hsl : s.length ≤ 281474976710656) (hul : u.length ≤ 281474976710656) (hm : w.cell? ⟨0, 0, none⟩ = some (.int .i64 m)) :
    Calls Tryd.prog 7 #[.string (str s), .string (str u)] w (Ret (.bool true) w) := by
  have HF := Lib.hid (fun wx (hb : Below w.heap.size w wx) => fixed_any m wx (cell_below hb hm))
  have HP1 := Lib.hid (fun wx => parse_any s hsl wx)
  have HP2 := Lib.hid (fun wx => parse_any u hul wx)
  unfold ParsePost at HP1 HP2
  obtain ⟨R1, hR1⟩ : ∃ R, R = Sg.parse s := ⟨_, rfl⟩
  obtain ⟨R2, hR2⟩ : ∃ R, R = Sg.parse u := ⟨_, rfl⟩
  rw [← hR1] at HP1
  rw [← hR2] at HP2
  obtain ⟨T1, c1, z1⟩ := R1
  obtain ⟨T2, c2, z2⟩ := R2
  simp only [flt] at HP1 HP2
  have HR1 := Lib.hid hR1
  have HR2 := Lib.hid hR2
  clear hm hsl hul hR1 hR2
  go_enter Tryd.func7, Tryd.ntmps7
  go_wp2_with fail
  refine (HP1.out _).mono ?_
  rintro e w1 ⟨u1, rfl, ho1, hb⟩
  have HB := Lib.hid hb
  have HU1 := Lib.hid (ho1.at sgC_len)
  obtain ⟨p1, d1, rfl⟩ := sg_slice ho1
  obtain ⟨na, hna⟩ : ∃ n, n = T1.length := ⟨_, rfl⟩
  rw [← hna] at HU1 ⊢
  have HNa := Lib.hid hna
  clear hb ho1 hna
  have hb := below_alloc w1 (.cells #[.int .i64 c1, .int .i64 z1] 26)
  have HO1 := Lib.hid (flt_obj w1 c1 z1)
  replace HB := Lib.hid (below_step HB.out hb)
  replace HU1 := Lib.hid (SlcAt.mono HU1.out hb)
  clear hb
  go_wp2_with fail
  refine (HP2.out _).mono ?_
  rintro e w2 ⟨u2, rfl, ho2, hb⟩
  replace HB := Lib.hid (below_step HB.out hb)
  have HU2 := Lib.hid (ho2.at sgC_len)
  replace HU1 := Lib.hid (SlcAt.mono HU1.out hb)
  replace HO1 := Lib.hid (HO1.out.mono hb)
  obtain ⟨p2, d2, rfl⟩ := sg_slice ho2
  obtain ⟨nb, hnb⟩ : ∃ n, n = T2.length := ⟨_, rfl⟩
  rw [← hnb] at HU2 ⊢
  have HNb := Lib.hid hnb
  clear hb ho2 hnb
  have hb := below_alloc w2 (.cells #[.int .i64 c2, .int .i64 z2] 26)
  have HO2 := Lib.hid (flt_obj w2 c2 z2)
  replace HB := Lib.hid (below_step HB.out hb)
  replace HU1 := Lib.hid (SlcAt.mono HU1.out hb)
  replace HU2 := Lib.hid (SlcAt.mono HU2.out hb)
  replace HO1 := Lib.hid (HO1.out.mono hb)
  clear hb
  go_wp2_with fail
  refine (HF.out _ HB.out).mono ?_
  rintro e w3 ⟨rfl, hb⟩
  replace HB := Lib.hid (below_step HB.out hb)
  replace HU1 := Lib.hid (SlcAt.mono HU1.out hb)
  replace HU2 := Lib.hid (SlcAt.mono HU2.out hb)
  obtain ⟨q1, _⟩ := two_of13 (HO1.out.mono hb)
  obtain ⟨q2, _⟩ := two_of13 (HO2.out.mono hb)
  clear hb HO1 HO2
  by_cases hc1 : c1 = 0
  · by_cases hc2 : c2 = 0
    · by_cases h1 : na ≤ 40
      · by_cases h2 : nb ≤ 40
        · have g1 : ¬ ((40 : Int) < (na : Int)) := by omega
          have g2 : ¬ ((40 : Int) < (nb : Int)) := by omega
          subst hc1
          subst hc2
          obtain ⟨hm1, hp1, rfl⟩ := Sg.parse_ok HR1.out.symm
          obtain ⟨hm2, hp2, rfl⟩ := Sg.parse_ok HR2.out.symm
          have l1 := print_len T1
          have l2 := print_len T2
          rw [hp1] at l1
          rw [hp2] at l2
          have HPP := Lib.hid (Sg.parse_parts HR1.out.symm HR2.out.symm (by rw [← HNa.out, ← HNb.out]; omega))
          obtain ⟨su, hsu⟩ : ∃ c, c = s ++ u := ⟨_, rfl⟩
          have HP3 := Lib.hid (fun wx => parse_any su (by rw [hsu, List.length_append]; omega) wx)
          have a1 := fun wx => sum_str13 s u su (by omega) hsu wx
          rw [← hsu] at HPP
          unfold ParsePost at HP3
          clear hsu hm1 hm2 hp1 hp2 l1 l2
          go_wp2_with fail
          clear q1 q2
          obtain ⟨R3, hR3⟩ : ∃ R, R = Sg.parse su := ⟨_, rfl⟩
          rw [← hR3] at HP3 HPP
          obtain ⟨T3, c3, z3⟩ := R3
          simp only [flt] at HP3
          have wsum := wr_sum13 h1 h2
          obtain ⟨ws1, ws2⟩ := wsum
          clear hR3 HR1 HR2
          refine (HP3.out _).mono ?_
          rintro e w4 ⟨u3, rfl, ho3, hb⟩
          have HB := Lib.hid (below_step HB.out hb)
          have HU3 := Lib.hid (ho3.at sgC_len)
          have HU1 := Lib.hid (SlcAt.mono HU1.out hb)
          have HU2 := Lib.hid (SlcAt.mono HU2.out hb)
          clear hb ho3
          have hb := below_alloc w4 (.cells #[.int .i64 c3, .int .i64 z3] 26)
          have HO3 := Lib.hid (flt_obj w4 c3 z3)
          have HB := Lib.hid (below_step HB.out hb)
          have HU1 := Lib.hid (SlcAt.mono HU1.out hb)
          have HU2 := Lib.hid (SlcAt.mono HU2.out hb)
          have HU3 := Lib.hid (SlcAt.mono HU3.out hb)
          clear hb
          have HT0 : Hid (∀ y ∈ T2.take 0, y.k ∉ Sg.keys T1) := Lib.hid (by simp)
          obtain ⟨W4, hW4⟩ : ∃ W4, W4 = w4.alloc (.cells #[.int .i64 c3, .int .i64 z3] 26) := ⟨_, rfl⟩
          rw [← hW4] at HB HU1 HU2 HU3 HO3
          go_wp2_with fail
          rw [← hW4]
          clear hW4
          go_loopw [11] (fun iv wr => ∃ i : Nat, i ≤ nb ∧ iv = .int .i64 i ∧ Hid (Below W4.heap.size W4 wr) ∧ Hid (∀ y ∈ T2.take i, y.k ∉ Sg.keys T1)) (fun iv _ => nb - (intOf iv).toNat)
          case atStart => exact ⟨0, Nat.zero_le _, rfl, Lib.hid (Below.refl _ _), HT0⟩
          case round =>
            obtain ⟨i, hi, rfl, HW, HT⟩ := hrel
            clear HT0
            by_cases hlt : i < nb
            · obtain ⟨b1, o1, d3, e1, r1⟩ := HU2.out.2.2 (by rw [← HNb.out]; omega)
              rw [← HNb.out] at e1
              obtain ⟨rfl, rfl⟩ : p2 = some ⟨b1, o1, none⟩ ∧ d2 = d3 := by injection e1 with a1 a2 a3; exact ⟨a1, a3⟩
              obtain ⟨x, hx⟩ : ∃ x, T2[i]? = some x := ⟨_, List.getElem?_eq_getElem (by rw [← HNb.out]; exact hlt)⟩
              obtain ⟨y0, y1⟩ := sg_cells ((r1 i x hx).mono HW.out)
              have hmem := List.mem_of_getElem? hx
              have k0 : (0 : Int) ≤ (i : Int) := by omega
              have kl : (i : Int) < (nb : Int) := by omega
              have HFd := Lib.hid (fun wx hh => find_any (.slice p1 na d1) T1 x.k wx hh)
              by_cases hk : x.k ∈ Sg.keys T1
              · obtain ⟨j, j1, j2, j3⟩ := HPP.out.2 ⟨x, hmem, hk⟩
                rw [← HNa.out] at j1 j2
                rw [← HNb.out] at j2
                obtain ⟨rfl, rfl, rfl⟩ : T3 = [] ∧ c3 = 131 ∧ z3 = (j : Int) := by injection j3 with f1 f2; injection f2 with f2 f3; exact ⟨f1, f2, f3⟩
                have hfd : ¬ Sg.find T1 x.k < 0 := fun h => Sg.find_neg.1 h hk
                obtain ⟨q, hq⟩ : ∃ q, q = Sg.find T1 x.k := ⟨_, rfl⟩
                rw [← hq] at hfd HFd
                have hfd' : (0 : Int) ≤ q := by omega
                have jj1 : (na : Int) ≤ (j : Int) := by omega
                have jj2 : (j : Int) < (na : Int) + (nb : Int) := by omega
                clear e1 r1 hx hk hmem j1 j2 j3 hq
                go_wp2_with fail
                refine (HFd.out _ (SlcAt.mono HU1.out HW.out)).mono ?_
                rintro e w5 ⟨rfl, hb⟩
                have HW := Lib.hid (below_step HW.out hb)
                obtain ⟨q1, q2⟩ := two_of13 (HO3.out.mono HW.out)
                clear hb y0 y1
                go_wp2
                go_ret
                exact ⟨rfl, below_step HB.out HW.out⟩
              · have hfd : Sg.find T1 x.k < 0 := Sg.find_neg.2 hk
                have HN : Hid (∀ y ∈ T2.take (i + 1), y.k ∉ Sg.keys T1) := Lib.hid (fun y hy => by
                  rw [It.take_snoc hx] at hy
                  rcases List.mem_append.1 hy with hy | hy
                  · exact HT.out y hy
                  · simp at hy; subst hy; exact hk)
                obtain ⟨q, hq⟩ : ∃ q, q = Sg.find T1 x.k := ⟨_, rfl⟩
                rw [← hq] at hfd HFd
                have hfd' : ¬ (0 : Int) ≤ q := by omega
                clear e1 r1 hx hk hmem hq
                go_wp2_with fail
                refine (HFd.out _ (SlcAt.mono HU1.out HW.out)).mono ?_
                rintro e w5 ⟨rfl, hb⟩
                have HW := Lib.hid (below_step HW.out hb)
                clear hb y0 y1
                go_wp2
                go_roundw
                case rel => exact ⟨i + 1, by omega, by go_num, HW, HN⟩
                case measure => simp [intOf]; omega
            · have hall : ∀ x ∈ T2, x.k ∉ Sg.keys T1 := by
                have := HT.out
                rwa [List.take_of_length_le (by rw [← HNb.out]; omega)] at this
              have j3 := HPP.out.1 hall
              obtain ⟨rfl, rfl, rfl⟩ : T3 = T1 ++ T2 ∧ c3 = 0 ∧ z3 = 0 := by injection j3 with f1 f2; injection f2 with f2 f3; exact ⟨f1, f2, f3⟩
              have HU1 := Lib.hid (SlcAt.mono HU1.out HW.out)
              have HU2 := Lib.hid (SlcAt.mono HU2.out HW.out)
              have HU3 := Lib.hid (SlcAt.mono HU3.out HW.out)
              have HB := Lib.hid (below_step HB.out HW.out)
              obtain ⟨q1, q2⟩ := two_of13 (HO3.out.mono HW.out)
              clear hall j3
              have HK0 : Hid (OwnSg wr.heap.size (.slice (some ⟨wr.heap.size, 0, none⟩) 0 0) ([] : List Sg.Sig) (wr.alloc (.cells #[] 45))) := Lib.hid (own_empty _ _ _ _)
              have hb0 := below_alloc wr (.cells #[] 45)
              have hz0 := hb0.size
              go_wp2_with (at_builtin; first
                | (refine wpList_append_slc Tryd.underlying22 infoSg13 rfl (by decide) sgC_len sgC_cell rfl _ _ rfl wr.heap.size _ _ ([] : List Sg.Sig) T1 rfl HK0.out rfl (SlcAt.mono HU1.out hb0) (by rw [← HNa.out]; simp; omega) (by rw [← HNa.out]; unfold maxLen; simp; omega) hz0 ?_; intro v9 w9 h9 hg9; rw [List.nil_append] at h9; have HK9 := Lib.hid h9; have HZ9 := Lib.hid (Nat.le_trans hz0 hg9.size); have HW9 := Lib.hid (below_app hb0 hg9 HK0.out hz0); clear h9 hg9)
                | (refine wpList_append_slc Tryd.underlying22 infoSg13 rfl (by decide) sgC_len sgC_cell rfl _ _ rfl wr.heap.size _ _ T1 T2 rfl HK9.out rfl (SlcAt.mono HU2.out HW9.out) (by rw [← HNa.out, ← HNb.out]; omega) (by rw [← HNa.out, ← HNb.out]; unfold maxLen; omega) HZ9.out ?_; intro v8 w8 h8 hg8; have HK8 := Lib.hid h8; have HW8 := Lib.hid (below_app HW9.out hg8 HK9.out HZ9.out); clear h8 hg8))
              refine (same_self _ _ _ _ (SlcAt.mono HU3.out HW8.out) (HK8.out.at sgC_len)).mono ?_
              rintro e w6 ⟨rfl, nd, rfl⟩
              go_wp2
              go_ret
              exact ⟨rfl, below_step HB.out (below_step HW8.out (below_drew _ _))⟩
        · have g1 : ¬ ((40 : Int) < (na : Int)) := by omega
          have g2 : ((40 : Int) < (nb : Int)) := by omega
          subst hc1
          subst hc2
          go_wp2_with fail
          refine (HF.out _ HB.out).mono ?_
          rintro e w4 ⟨rfl, hb⟩
          have HB := Lib.hid (below_step HB.out hb)
          clear hb
          go_wp2
          go_ret
          exact ⟨rfl, HB.out⟩
      · have g1 : ((40 : Int) < (na : Int)) := by omega
        subst hc1
        subst hc2
        go_wp2_with fail
        refine (HF.out _ HB.out).mono ?_
        rintro e w4 ⟨rfl, hb⟩
        have HB := Lib.hid (below_step HB.out hb)
        clear hb
        go_wp2
        go_ret
        exact ⟨rfl, HB.out⟩
    · have hcb : (c2 == 0) = false := by rw [beq_eq_false_iff_ne]; exact hc2
      subst hc1
      go_wp2_with fail
      refine (HF.out _ HB.out).mono ?_
      rintro e w4 ⟨rfl, hb⟩
      have HB := Lib.hid (below_step HB.out hb)
      clear hb
      go_wp2
      go_ret
      exact ⟨rfl, HB.out⟩
  · have hcb : (c1 == 0) = false := by rw [beq_eq_false_iff_ne]; exact hc1
    go_wp2_with fail
    refine (HF.out _ HB.out).mono ?_
    rintro e w4 ⟨rfl, hb⟩
    have HB := Lib.hid (below_step HB.out hb)
    clear hb
    go_wp2
    go_ret
    exact ⟨rfl, HB.out⟩
end Go.Proofs.YtlgfmkmpopcciaaDoor
