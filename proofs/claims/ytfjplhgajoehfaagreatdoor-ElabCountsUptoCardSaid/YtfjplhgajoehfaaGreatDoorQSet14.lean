/-
  The landed takeSet: the number that is set.
-/
import Derived.Test.YtfjplhgajoehfaaGreatDoorQMath
set_option linter.unusedVariables false
set_option linter.unusedSimpArgs false
namespace Go.Proofs.YtfjplhgajoehfaaGreatDoor
open Go.RowKit

set_option maxHeartbeats 4000000 in
set_option maxRecDepth 100000 in
theorem takeSet_any (E : Env14) (hL : LibEnv E.w0) : OpA E 0 2 57 (fun v => #[E.m, v]) (fun l => l = 1) El.setOp := by
  intro S w1 hst n va s w hva har hsz hmk
  have hva2 := hva
  obtain ⟨⟨pa, ca, rfl, _⟩, _, _⟩ := hva2
  have hb := below_alloc w (.cells #[.bool (El.isCmd n), .string (str (El.text n)), .slice pa (El.args n).length ca, .int .i64 (El.loc n)] 89)
  have HS := Lib.hid (single_any E S w1 0 2 hst n _ s _ hva har hsz (hmk.mono hb))
  show Calls _ _ #[E.m, ndV n (.slice pa (El.args n).length ca)] _ (Out14 E S w1 0 2 ((El.single n).then (fun x => if El.value (El.text x) = 0 then .bad 146 (El.loc x) else .ok { s with num := El.value (El.text x) })))
  have q1 := err_nil
  have q2 := err_some
  obtain ⟨r, hr⟩ : ∃ r, r = El.single n := ⟨_, rfl⟩
  rw [← hr] at HS ⊢
  have HZ : Hid (El.sz s ≤ lim14) := Lib.hid (by omega)
  generalize (El.args n).length = la at *
  clear hb hst hmk hsz hva hr har
  unfold Env14.m ndV at HS ⊢
  go_enter Tryz.func57, Tryz.ntmps57
  go_wp2_with fail
  refine HS.out.mono ?_
  intro e w2 ho
  cases r with
  | bad c a =>
    obtain ⟨ns, T, x, s2, rfl, he, hm2⟩ := ho
    have HE := Lib.hid he
    have HM := Lib.hid (hm2.mono (below_alloc w2 (.cells #[.bool false, .string ⟨#[]⟩, .slice none 0 0, .int .i64 0] 89)))
    clear he hm2 HS
    go_wp2
    go_ret
    exact ⟨ns, _, s2, rfl, HE.out, HM.out⟩
  | word x =>
    obtain ⟨hm2, a2, k2, c2, rfl, hx⟩ := ho
    obtain ⟨wb, hwb⟩ : ∃ wb, wb = w2.alloc (.cells #[.bool (El.isCmd x), .string (str (El.text x)), .slice a2 k2 c2, .int .i64 (El.loc x)] 89) := ⟨_, rfl⟩
    have hb : Below w2.heap.size w2 wb := by rw [hwb]; exact below_alloc _ _
    have hbx : wb.heap[w2.heap.size]? = some (.cells #[.bool (El.isCmd x), .string (str (El.text x)), .slice a2 k2 c2, .int .i64 (El.loc x)] 89 (0, 0)) := by rw [hwb]; exact obj_new _ _ rfl _ _
    have hmb := hm2.mono hb
    have hLb := hL.mono hmb.below
    have HA := Lib.hid (atoi14 (str (El.text x)) (by rw [str_size13]; unfold lim14 at hx; omega) wb hLb)
    have HLB := Lib.hid hLb
    have HMB := Lib.hid hmb
    have HBX := Lib.hid hbx
    have b1 := mcell hbx 1 rfl
    have hval := value_num (El.text x)
    have hns := str_data (El.text x)
    have HVAL := Lib.hid hval
    have HNS := Lib.hid hns
    clear hb hm2 hmb hLb hbx HS hx hval hns hL
    unfold ndV
    go_upto_region 4 with fail
    rw [← hwb]
    clear hwb
    go_wp2_with fail
    refine HA.out.mono ?_
    intro e w3 ho3
    obtain ⟨hb3, ho3⟩ := ho3
    have HB3 := Lib.hid hb3
    have d1 := cell_below hb3 b1
    have d3 := cell_below hb3 (mcell HBX.out 3 (v := .int .i64 (El.loc x)) rfl)
    have HF := Lib.hid (fun w9 (hb9 : Below w3.heap.size w3 w9) => fail_out (d := 2) (HMB.out.mono (below_step HB3.out hb9)) (fail_any 146 (El.loc x) w9))
    clear hb3 HA b1
    rcases ho3 with ⟨v, hv, rfl⟩ | ⟨hbad, nn, T, xe, rfl⟩
    · rw [HNS.out] at hv
      have hnum := num_of_ok hv
      have hr9 := Fm.atoi_range hv
      by_cases h1 : v < 1
      · have hz : El.value (El.text x) = 0 := by
          rw [HVAL.out, hnum]
          split
          · rename_i u hu
            split at hu
            · cases hu
              rw [if_neg (by omega)]
            · cases hu
          · rfl
        clear hnum hr9 hv
        go_wp2_with fail
        go_quiet (fail)
        go_wp2_with fail
        refine (HF.out _ (below_drew w3 nq)).mono ?_
        rintro e w9 ⟨ns, ev, s2, rfl, he, hm9⟩
        have HE := Lib.hid he
        have HM9 := Lib.hid hm9
        clear he hm9 HF d1 d3
        go_wp2
        go_ret
        show Out14 E S w1 0 2 (if El.value (El.text x) = 0 then .bad 146 (El.loc x) else .ok { s with num := El.value (El.text x) }) _ _
        rw [if_pos hz]
        exact ⟨ns, ev, s2, rfl, HE.out, HM9.out⟩
      · by_cases h2 : 9999 < v
        · have hz : El.value (El.text x) = 0 := by
            rw [HVAL.out, hnum]
            split
            · rename_i u hu
              split at hu
              · cases hu
                rw [if_neg (by omega)]
              · cases hu
            · rfl
          clear hnum hr9 hv
          go_wp2_with fail
          go_quiet (fail)
          go_wp2_with fail
          refine (HF.out _ (below_drew w3 nq)).mono ?_
          rintro e w9 ⟨ns, ev, s2, rfl, he, hm9⟩
          have HE := Lib.hid he
          have HM9 := Lib.hid hm9
          clear he hm9 HF d1 d3
          go_wp2
          go_ret
          show Out14 E S w1 0 2 (if El.value (El.text x) = 0 then .bad 146 (El.loc x) else .ok { s with num := El.value (El.text x) }) _ _
          rw [if_pos hz]
          exact ⟨ns, ev, s2, rfl, HE.out, HM9.out⟩
        · have HI := Lib.hid (itoa14 v (by omega) (by omega) w3.drew (HLB.out.mono (below_step HB3.out (below_drew9 w3))))
          by_cases hq : Lib.itoa v = El.text x
          · have hz : El.value (El.text x) = v.toNat := by
              rw [HVAL.out, hnum, if_pos hq]
              simp only []
              rw [if_pos ⟨by omega, by omega⟩]
            have hzn : ¬ El.value (El.text x) = 0 := by omega
            have hzv : ((El.value (El.text x) : Nat) : Int) = v := by omega
            have hq2 : (Lib.itoa v == (str (El.text x)).toList) = true := by rw [Lib.toList_data, str_data, hq]; simp
            have hq3 : (Lib.itoa v != (str (El.text x)).toList) = false := by rw [Lib.toList_data, str_data, hq]; simp
            have HZN := Lib.hid hzn
            have HZV := Lib.hid hzv
            clear hnum hr9 hv hq hz hzn hzv
            go_wp2_with fail
            have e1 : decide (v < 1) = false := decide_eq_false (by omega)
            have e2 : decide (9999 < v) = false := decide_eq_false (by omega)
            go_region_held3 (fun w' => w'.cell? ⟨w2.heap.size, 1, none⟩ = some (.string (str (El.text x)))) (first | exact hS9 | exact d1 | go_keep)
              (first | (go_at_call 85; refine HI.out.mono ?_; rintro e w7 ⟨rfl, hb7⟩; have HB7 := Lib.hid (below_step (below_drew9 w3) hb7); have hS9 := cell_below hb7 d1; have x3 := cell_below hb7 d3))
            all_goals (
              obtain ⟨K, y, hp⟩ := HMB.out.mono (below_step HB3.out HB7.out)
              have c36 := hp.c36
              have f36 := hp.fr 36
              have hp2 := hp.set (s' := { s with num := El.value (El.text x) }) (y' := y) (lev' := 0) (hp.rows.num _) rfl 36 (.int .i64 ((El.value (El.text x) : Nat) : Int)) rfl
              rw [HZV.out] at hp2
              have HP2 := Lib.hid hp2
              clear hp hp2 d1 d3 x3 HF e1 e2
              go_wp2
              go_ret
              show Out14 E S w1 0 2 (if El.value (El.text x) = 0 then .bad 146 (El.loc x) else .ok { s with num := El.value (El.text x) }) _ _
              rw [if_neg HZN.out]
              exact ⟨rfl, _, _, HP2.out⟩)
          · have hz : El.value (El.text x) = 0 := by rw [HVAL.out, hnum, if_neg hq]
            have hq2 : (Lib.itoa v == (str (El.text x)).toList) = false := by rw [Lib.toList_data, str_data]; exact beq_eq_false_iff_ne.2 hq
            have hq3 : (Lib.itoa v != (str (El.text x)).toList) = true := by rw [Lib.toList_data, str_data]; exact bne_iff_ne.2 hq
            clear hnum hr9 hv hq
            go_wp2_with fail
            have e1 : decide (v < 1) = false := decide_eq_false (by omega)
            have e2 : decide (9999 < v) = false := decide_eq_false (by omega)
            go_region_held3 (fun w' => w'.cell? ⟨w2.heap.size, 1, none⟩ = some (.string (str (El.text x)))) (first | exact hS9 | exact d1 | go_keep)
              (first | (go_at_call 85; refine HI.out.mono ?_; rintro e w7 ⟨rfl, hb7⟩; have HB7 := Lib.hid (below_step (below_drew9 w3) hb7); have hS9 := cell_below hb7 d1; have x3 := cell_below hb7 d3))
            all_goals (
              go_wp2_with fail
              refine (HF.out _ (HB7.out)).mono ?_
              rintro e w9 ⟨ns, ev, s2, rfl, he, hm9⟩
              have HE := Lib.hid he
              have HM9 := Lib.hid hm9
              clear he hm9 HF d1 d3 x3
              go_wp2
              go_ret
              show Out14 E S w1 0 2 (if El.value (El.text x) = 0 then .bad 146 (El.loc x) else .ok { s with num := El.value (El.text x) }) _ _
              rw [if_pos hz]
              exact ⟨ns, ev, s2, rfl, HE.out, HM9.out⟩)
    · have hz : El.value (El.text x) = 0 := by rw [HVAL.out, num_of_bad (by rw [← HNS.out]; exact hbad)]
      clear hbad
      go_wp2_with fail
      go_quiet (fail)
      go_wp2_with fail
      refine (HF.out _ (below_drew w3 nq)).mono ?_
      rintro e w9 ⟨ns, ev, s2, rfl, he, hm9⟩
      have HE := Lib.hid he
      have HM9 := Lib.hid hm9
      clear he hm9 HF d1 d3
      go_wp2
      go_ret
      show Out14 E S w1 0 2 (if El.value (El.text x) = 0 then .bad 146 (El.loc x) else .ok { s with num := El.value (El.text x) }) _ _
      rw [if_pos hz]
      exact ⟨ns, ev, s2, rfl, HE.out, HM9.out⟩
end Go.Proofs.YtfjplhgajoehfaaGreatDoor
