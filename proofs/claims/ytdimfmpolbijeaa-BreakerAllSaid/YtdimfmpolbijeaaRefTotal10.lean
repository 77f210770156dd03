/-
  The reference's Total: what breaks cost together.
-/
import Derived.Test.YtdimfmpolbijeaaRefCost10
import Derived.Test.YtdimfmpolbijeaaTot10
set_option linter.unusedVariables false
set_option linter.unusedSimpArgs false
namespace Go.Proofs.Ytdimfmpolbijeaa
open Go.RowKit

theorem dem_wr (l : List It.Itm) (a b : Int) (S : It.Stg) : It.wr (It.dem l a b S) = It.dem l a b S := by
  unfold It.dem
  split <;> exact It.wr_wr _
theorem cost_wr {l : List It.Itm} {a b t tol d c : Int} (h : It.costOf l a b t tol = some (d, c)) : It.wr d = d := by
  obtain ⟨S, _, _, _, rfl, _⟩ := It.costOf_some h
  exact dem_wr _ _ _ _

set_option maxHeartbeats 8000000 in
set_option maxRecDepth 100000 in
theorem refDemTotal_any (v vb : Value) (l : List It.Itm) (bs : List Int) (t tol : Int) (w : World) (h : ItsAt w v l) (hlen : l.length ≤ 2000) (hbs : IntsAt .i64 w vb bs) : Calls Try.prog 15 #[v, vb, .int .i64 t, .int .i64 tol] w (Ret (tolV (It.total l bs t tol)) w) := by
  obtain ⟨r, hr⟩ : ∃ r, r = It.total l bs t tol := ⟨_, rfl⟩
  have HQ := Lib.hid hr
  rw [← hr]
  clear hr
  have HA := Lib.hid h
  have HS := Lib.hid hbs
  obtain ⟨⟨p, cp, rfl, hcap⟩, hm, _⟩ := h
  obtain ⟨⟨pb, cb, rfl, hcb⟩, hmb, _⟩ := hbs
  have hzb : bs.length ≤ 9223372036854775807 := by unfold maxLen at hmb; omega
  have HCo := Lib.hid (fun (w' : World) (hb : Below w.heap.size w w') (a b : Int) => refCost_any (.slice p l.length cp) l a b t tol w' (SlcAt.mono HA.out hb) hlen)
  obtain ⟨n, hn⟩ : ∃ n, n = l.length := ⟨_, rfl⟩
  have Hn := Lib.hid hn
  have hn2 : n ≤ 2000 := by omega
  rw [← hn] at HCo ⊢
  clear hn hm hmb hcap hcb
  by_cases h0 : bs.length = 0
  · have HE : Hid (r = none) := Lib.hid (by
      obtain rfl := List.eq_nil_of_length_eq_zero h0
      rw [HQ.out]; exact total_bad (totOk_nil l))
    rw [h0]
    go_enter Try.func15, Try.ntmps15
    go_wp2
    go_ret2
    rw [HE.out]
    exact ⟨rfl, Below.refl _ _⟩
  · obtain ⟨m, hm⟩ : ∃ m, bs.length = m + 1 := ⟨bs.length - 1, by omega⟩
    obtain ⟨b1, o1, d1, e1, r1⟩ := HS.out.2.2 (by omega)
    obtain ⟨rfl, rfl⟩ : pb = some ⟨b1, o1, none⟩ ∧ cb = d1 := by injection e1 with a1 a2 a3; exact ⟨a1, a3⟩
    obtain ⟨x, hx⟩ : ∃ x, bs[m]? = some x := ⟨_, List.getElem?_eq_getElem (by omega)⟩
    have y0 := r1 m x hx
    have HO := Lib.hid (totOk_at (l := l) hm hx)
    have Hm := Lib.hid hm
    have Hr1 := Lib.hid r1
    have m0 : (0 : Int) ≤ (m : Int) := by omega
    have ml : (m : Int) < (m : Int) + 1 := by omega
    have hm63 : m + 1 ≤ 9223372036854775807 := by omega
    rw [hm]
    rw [← Hn.out] at HO
    clear hm h0 e1 r1 hx hzb
    by_cases hxn : x = (n : Int) - 1
    · have HO2 : Hid (It.totOk l bs = true) := Lib.hid (by rw [HO.out, decide_eq_true hxn])
      have HT : Hid (r = (It.goS l t tol (-1) 2 0 bs).map (·.2.2)) := Lib.hid (HQ.out.trans (total_ok HO2.out))
      subst hxn
      go_enter Try.func15, Try.ntmps15
      go_wp2_with fail
      go_loopw [11, 12, 13, 14] (fun av pv qv iv wr => ∃ (j : Nat) (acc a q : Int), j ≤ m + 1 ∧ av = .int .i64 acc ∧ pv = .int .i64 a ∧ qv = .int .i64 q ∧ iv = .int .i64 j ∧ Hid (Below w.heap.size w wr) ∧ Hid (0 ≤ q ∧ q ≤ 3) ∧ Hid (It.goS l t tol (-1) 2 0 (bs.take j) = some (a, q, acc))) (fun _ _ _ iv _ => m + 1 - (intOf iv).toNat)
      case atStart => exact ⟨0, 0, -1, 2, Nat.zero_le _, rfl, rfl, rfl, rfl, Lib.hid (Below.refl _ _), Lib.hid (by omega), Lib.hid rfl⟩
      case round =>
        obtain ⟨j, acc, a, q, hj, rfl, rfl, rfl, rfl, HB, Hq, HG⟩ := hrel
        by_cases hlt : j < m + 1
        · obtain ⟨b, hb⟩ : ∃ b, bs[j]? = some b := ⟨_, List.getElem?_eq_getElem (by rw [Hm.out]; exact hlt)⟩
          have z0 := cell_below HB.out (Hr1.out j b hb)
          have j0 : (0 : Int) ≤ (j : Int) := by omega
          have jl : (j : Int) < (m : Int) + 1 := by omega
          have HN := Lib.hid (goS_next hb HG.out)
          have HC := Lib.hid (HCo.out wr HB.out a b)
          clear hb y0
          cases hc : It.costOf l a b t tol with
          | none =>
            have HE : Hid (r = none) := Lib.hid (by
              have := HN.out
              rw [hc] at this
              rw [HT.out, goS_stop this]; rfl)
            rw [hc] at HC
            unfold costV at HC
            clear hc
            go_wp2_with fail
            refine HC.out.mono ?_
            rintro e w1 ⟨rfl, hb1⟩
            have HB1 := Lib.hid (below_step HB.out hb1)
            clear hb1
            go_wp2
            go_ret2
            rw [HE.out]
            exact ⟨rfl, HB1.out⟩
          | some dc =>
            obtain ⟨d, c⟩ := dc
            have Hc := Lib.hid (cost_cls hc)
            have Hdw := Lib.hid (cost_wr hc)
            have HN2 : Hid (It.goS l t tol (-1) 2 0 (bs.take (j + 1)) = some (b, c, It.stepT acc d (It.unlike c q))) := Lib.hid (by
              have := HN.out
              rw [hc] at this
              exact this)
            have HU := Lib.hid (fun w => refApart_any c q Hc.out Hq.out w)
            rw [hc] at HC
            unfold costV at HC
            simp only [] at HC
            clear hc HN
            have hdw : It.wr d = d := Hdw.out
            cases hu : It.unlike c q with
            | true =>
              rw [hu] at HN2 HU
              obtain ⟨D, hD⟩ : ∃ D, D = IntKind.i64.wrap (d + 10000) := ⟨_, rfl⟩
              have hDz : IntKind.i64.wrap (d + 10000) = D := hD.symm
              obtain ⟨E, hE⟩ : ∃ E, E = IntKind.i64.wrap (acc + D) := ⟨_, rfl⟩
              have hEz : IntKind.i64.wrap (acc + D) = E := hE.symm
              have HSt : Hid (It.stepT acc d true = E) := Lib.hid (by
                unfold It.stepT; rw [if_pos rfl, hE, hD]; exact (It.wr_add3 acc d 10000).symm)
              clear hu hD hE hdw
              simp only [if_true] at HU
              go_wp2_with fail
              refine HC.out.mono ?_
              rintro e w1 ⟨rfl, hb1⟩
              have HB1 := Lib.hid (below_step HB.out hb1)
              have z1 := cell_below hb1 z0
              clear hb1
              go_wp2_with fail
              refine (HU.out _).mono ?_
              rintro e w2 ⟨rfl, rfl⟩
              go_wp2
              go_roundw
              case rel => exact ⟨j + 1, E, b, c, by omega, rfl, rfl, rfl, by go_num, HB1, Hc, Lib.hid (by rw [HN2.out, HSt.out])⟩
              case measure => simp [intOf]; omega
            | false =>
              rw [hu] at HN2 HU
              obtain ⟨E, hE⟩ : ∃ E, E = IntKind.i64.wrap (acc + d) := ⟨_, rfl⟩
              have hEz : IntKind.i64.wrap (acc + d) = E := hE.symm
              have hd1 : IntKind.i64.wrap d = d := hdw
              have hd2 : wrap64 d = d := (It.wr_is d).symm.trans hdw
              have HSt : Hid (It.stepT acc d false = E) := Lib.hid (by unfold It.stepT; rw [if_neg (by simp), hE]; rfl)
              clear hu hE hdw
              simp only [Bool.false_eq_true, if_false] at HU
              go_wp2_with fail
              refine HC.out.mono ?_
              rintro e w1 ⟨rfl, hb1⟩
              have HB1 := Lib.hid (below_step HB.out hb1)
              have z1 := cell_below hb1 z0
              clear hb1
              go_wp2_with fail
              refine (HU.out _).mono ?_
              rintro e w2 ⟨rfl, rfl⟩
              go_wp2
              go_roundw
              case rel => exact ⟨j + 1, E, b, c, by omega, rfl, rfl, rfl, by go_num, HB1, Hc, Lib.hid (by rw [HN2.out, HSt.out])⟩
              case measure => simp [intOf]; omega
        · have HE : Hid (r = some acc) := Lib.hid (by
            have := HG.out
            rw [List.take_of_length_le (by rw [Hm.out]; omega)] at this
            rw [HT.out, this]; rfl)
          have hjn : ¬ ((j : Int) < (m : Int) + 1) := by omega
          go_wp2
          go_ret2
          rw [HE.out]
          exact ⟨rfl, HB.out⟩
    · have HE : Hid (r = none) := Lib.hid (HQ.out.trans (total_bad (by rw [HO.out, decide_eq_false hxn])))
      have hxw : (x == (n : Int) - 1) = false := by simp [hxn]
      have hxv : (x != (n : Int) - 1) = true := by simp [hxn]
      go_enter Try.func15, Try.ntmps15
      go_wp2
      go_ret2
      rw [HE.out]
      exact ⟨rfl, Below.refl _ _⟩
end Go.Proofs.Ytdimfmpolbijeaa
