/-
  The landed glue.May, and the reference's: may a list of glue be?
-/
import Derived.Test.YthcilpijiindeaaTotal9
set_option linter.unusedVariables false
set_option linter.unusedSimpArgs false
namespace Go.Proofs.Ythcilpijiindeaa
open Go.RowKit

set_option maxHeartbeats 2000000 in
set_option maxRecDepth 100000 in
theorem glueMay_any (v : Value) (l : List It.Gl) (w : World) (h : GlsAt w v l) : Calls Try.prog 27 #[v] w (Ret (.bool (It.glMay l)) w) := by
  have HT := Lib.hid (total_any v l w h)
  obtain ⟨⟨a, cp, rfl, hcap⟩, hm, _⟩ := h
  obtain ⟨n, hn⟩ : ∃ n, n = l.length := ⟨_, rfl⟩
  rw [← hn] at HT ⊢
  clear hn hm hcap
  unfold totV at HT
  cases hq : It.glMay l
  all_goals
    rw [hq] at HT
    simp only [Bool.false_eq_true, if_true, if_false] at HT
    first | unfold sumC at HT | unfold zeroS at HT
    go_enter Try.func27, Try.ntmps27
    go_wp2_with fail
    refine HT.out.mono ?_
    rintro e w1 ⟨rfl, hb1⟩
    have HB1 := Lib.hid hb1
    clear hb1
    go_wp2
    go_ret
    exact ⟨rfl, below_step HB1.out (below_alloc _ _)⟩

theorem all_bad {l : List It.Gl} {k : Nat} {x : It.Gl} (hx : l[k]? = some x) (h : It.glOk x = false) : It.glMay l = false := by
  have : l.all It.glOk = false := by
    rw [List.all_eq_false]
    exact ⟨x, List.mem_of_getElem? hx, by rw [h]; decide⟩
  unfold It.glMay
  rw [this, Bool.and_false]; rfl
theorem ok_order (a st sk o : Int) : It.glOk ⟨a, st, sk, o⟩ = (decide (0 ≤ o ∧ o ≤ 3) && Sc.fits a && (decide (0 ≤ st) && Sc.fits st) && (decide (0 ≤ sk) && Sc.fits sk)) := rfl

set_option maxHeartbeats 8000000 in
set_option maxRecDepth 100000 in
theorem refGlMay_any (v : Value) (l : List It.Gl) (w : World) (h : GlsAt w v l) : Calls Try.prog 23 #[v] w (Ret (.bool (It.glMay l)) w) := by
  have HA := Lib.hid h
  obtain ⟨⟨va, cp, rfl, hcap⟩, hm, _⟩ := h
  have hza : l.length ≤ 9223372036854775807 := by unfold maxLen at hm; omega
  obtain ⟨n, hn⟩ : ∃ n, n = l.length := ⟨_, rfl⟩
  have Hn := Lib.hid hn
  obtain ⟨q, hq⟩ : ∃ q, q = It.glMay l := ⟨_, rfl⟩
  rw [← hn] at hza ⊢
  rw [← hq]
  clear hm hcap
  by_cases hlen : n ≤ 2000
  · have g1 : ¬ ((2000 : Int) < (n : Int)) := by omega
    have HQ := Lib.hid hq
    have HEnd : Hid (l.all It.glOk = true → q = (Sc.fits (It.sumZ l) && Sc.fits (It.sumT l) && Sc.fits (It.sumK l))) := Lib.hid (fun h => by
      rw [HQ.out]; unfold It.glMay It.sumsOk; rw [h, decide_eq_true (by rw [← Hn.out]; exact hlen), Bool.true_and, Bool.true_and])
    have HL2 := Lib.hid hlen
    clear hq hn
    go_enter Try.func23, Try.ntmps23
    go_wp2_with fail
    go_loopw [3, 4, 5, 6] (fun av bv cv iv wr => ∃ (k : Nat) (A B C : Int), k ≤ n ∧ av = .int .i64 A ∧ bv = .int .i64 B ∧ cv = .int .i64 C ∧ iv = .int .i64 k ∧ 0 ≤ A ∧ A ≤ 1073741823 * (k : Int) ∧ 0 ≤ B ∧ B ≤ 1073741823 * (k : Int) ∧ 0 ≤ C ∧ C ≤ 1073741823 * (k : Int) ∧ Hid (Below w.heap.size w wr) ∧ Hid ((l.take k).all It.glOk = true) ∧ Hid (It.sumZ (l.take k) = A) ∧ Hid (It.sumT (l.take k) = B) ∧ Hid (It.sumK (l.take k) = C)) (fun _ _ _ iv _ => n - (intOf iv).toNat)
    case atStart => exact ⟨0, 0, 0, 0, Nat.zero_le _, rfl, rfl, rfl, rfl, by omega, by omega, by omega, by omega, by omega, by omega, Lib.hid (Below.refl _ _), Lib.hid rfl, Lib.hid rfl, Lib.hid rfl, Lib.hid rfl⟩
    case round =>
      obtain ⟨k, A, B, C, hk, rfl, rfl, rfl, rfl, hA0, hA1, hB0, hB1, hC0, hC1, HB, HAll, HA1, HA2, HA3⟩ := hrel
      by_cases hlt : k < n
      · obtain ⟨b1, o1, d1, e1, r1⟩ := HA.out.2.2 (by rw [← Hn.out]; omega)
        obtain ⟨rfl, rfl⟩ : va = some ⟨b1, o1, none⟩ ∧ cp = d1 := by injection e1 with a1 a2 a3; exact ⟨a1, a3⟩
        obtain ⟨⟨a, st, sk, o⟩, hx⟩ : ∃ x, l[k]? = some x := ⟨_, List.getElem?_eq_getElem (by rw [← Hn.out]; exact hlt)⟩
        obtain ⟨y0, y1, y2, y3⟩ := gl_cells ((r1 k _ hx).mono HB.out)
        simp only [] at y0 y1 y2 y3
        have k0 : (0 : Int) ≤ (k : Int) := by omega
        have kl : (k : Int) < (n : Int) := by omega
        have HX : Hid (It.glOk ⟨a, st, sk, o⟩ = false → q = false) := Lib.hid (fun h => by rw [HQ.out]; exact all_bad hx h)
        have HNx : Hid (It.glOk ⟨a, st, sk, o⟩ = true → (l.take (k + 1)).all It.glOk = true ∧ It.sumZ (l.take (k + 1)) = It.sumZ (l.take k) + It.size a ∧ It.sumT (l.take (k + 1)) = It.sumT (l.take k) + st ∧ It.sumK (l.take (k + 1)) = It.sumK (l.take k) + sk) := Lib.hid (fun h => by
          rw [It.take_snoc hx, It.sumZ_app, It.sumT_app, It.sumK_app, List.all_append, HAll.out]
          refine ⟨?_, by simp [It.sumZ], by simp [It.sumT], by simp [It.sumK]⟩
          rw [List.all_cons, h]; rfl)
        have HO := Lib.hid (ok_order a st sk o)
        have H1 := Lib.hid (fun w => refFits_any a _ rfl w)
        have H2 := Lib.hid (fun w => refFits_any st _ rfl w)
        have H3 := Lib.hid (fun w => refFits_any sk _ rfl w)
        generalize Sc.fits a = c1 at HO H1
        generalize Sc.fits st = r2 at HO H2
        generalize Sc.fits sk = r3 at HO H3
        have HB2 := Lib.hid (below_step HB.out (below_alloc wr (.cells #[.int .i64 a, .int .i64 st, .int .i64 sk, .int .i64 o] 38)))
        have hl2 := HL2.out
        clear r1 e1 hx
        cases c1 with
        | false =>
          have HE : Hid (q = false) := Lib.hid (HX.out (by rw [HO.out]; simp))
          go_wp2_with fail
          refine (H1.out _).mono ?_
          rintro e w1 ⟨rfl, rfl⟩
          go_wp2
          go_ret
          rw [HE.out]
          exact ⟨rfl, HB2.out⟩
        | true =>
          by_cases hz1 : st < 0
          ·
            have HE : Hid (q = false) := Lib.hid (HX.out (by rw [HO.out, decide_eq_false (show ¬ 0 ≤ st by omega)]; simp))
            go_wp2_with fail
            refine (H1.out _).mono ?_
            rintro e w1 ⟨rfl, rfl⟩
            go_wp2
            go_ret
            rw [HE.out]
            exact ⟨rfl, HB2.out⟩
          ·
            cases r2 with
            | false =>
              have HE : Hid (q = false) := Lib.hid (HX.out (by rw [HO.out]; simp))
              go_wp2_with fail
              refine (H1.out _).mono ?_
              rintro e w1 ⟨rfl, rfl⟩
              go_wp2_with fail
              refine (H2.out _).mono ?_
              rintro e w1 ⟨rfl, rfl⟩
              go_wp2
              go_ret
              rw [HE.out]
              exact ⟨rfl, HB2.out⟩
            | true =>
              by_cases hz2 : sk < 0
              ·
                have HE : Hid (q = false) := Lib.hid (HX.out (by rw [HO.out, decide_eq_false (show ¬ 0 ≤ sk by omega)]; simp))
                go_wp2_with fail
                refine (H1.out _).mono ?_
                rintro e w1 ⟨rfl, rfl⟩
                go_wp2_with fail
                refine (H2.out _).mono ?_
                rintro e w1 ⟨rfl, rfl⟩
                go_wp2
                go_ret
                rw [HE.out]
                exact ⟨rfl, HB2.out⟩
              ·
                cases r3 with
                | false =>
                  have HE : Hid (q = false) := Lib.hid (HX.out (by rw [HO.out]; simp))
                  go_wp2_with fail
                  refine (H1.out _).mono ?_
                  rintro e w1 ⟨rfl, rfl⟩
                  go_wp2_with fail
                  refine (H2.out _).mono ?_
                  rintro e w1 ⟨rfl, rfl⟩
                  go_wp2_with fail
                  refine (H3.out _).mono ?_
                  rintro e w1 ⟨rfl, rfl⟩
                  go_wp2
                  go_ret
                  rw [HE.out]
                  exact ⟨rfl, HB2.out⟩
                | true =>
                  by_cases hz3 : o < 0
                  ·
                    have HE : Hid (q = false) := Lib.hid (HX.out (by rw [HO.out, decide_eq_false (show ¬ (0 ≤ o ∧ o ≤ 3) by omega)]; simp))
                    go_wp2_with fail
                    refine (H1.out _).mono ?_
                    rintro e w1 ⟨rfl, rfl⟩
                    go_wp2_with fail
                    refine (H2.out _).mono ?_
                    rintro e w1 ⟨rfl, rfl⟩
                    go_wp2_with fail
                    refine (H3.out _).mono ?_
                    rintro e w1 ⟨rfl, rfl⟩
                    go_wp2
                    go_ret
                    rw [HE.out]
                    exact ⟨rfl, HB2.out⟩
                  ·
                    by_cases hz4 : 3 < o
                    ·
                      have HE : Hid (q = false) := Lib.hid (HX.out (by rw [HO.out, decide_eq_false (show ¬ (0 ≤ o ∧ o ≤ 3) by omega)]; simp))
                      go_wp2_with fail
                      refine (H1.out _).mono ?_
                      rintro e w1 ⟨rfl, rfl⟩
                      go_wp2_with fail
                      refine (H2.out _).mono ?_
                      rintro e w1 ⟨rfl, rfl⟩
                      go_wp2_with fail
                      refine (H3.out _).mono ?_
                      rintro e w1 ⟨rfl, rfl⟩
                      go_wp2
                      go_ret
                      rw [HE.out]
                      exact ⟨rfl, HB2.out⟩
                    ·
                      have hok : It.glOk ⟨a, st, sk, o⟩ = true := by rw [HO.out, decide_eq_true (show 0 ≤ o ∧ o ≤ 3 by omega), decide_eq_true (show 0 ≤ st by omega), decide_eq_true (show 0 ≤ sk by omega)]; rfl
                      obtain ⟨go, gw, gt, gk⟩ := It.glOk_yes hok
                      simp only [] at go gw gt gk
                      by_cases hneg : a < 0
                      · have hsz : It.size a = -a := by unfold It.size; rw [if_pos hneg]
                        go_wp2_with fail
                        refine (H1.out _).mono ?_
                        rintro e w1 ⟨rfl, rfl⟩
                        go_wp2_with fail
                        refine (H2.out _).mono ?_
                        rintro e w1 ⟨rfl, rfl⟩
                        go_wp2_with fail
                        refine (H3.out _).mono ?_
                        rintro e w1 ⟨rfl, rfl⟩
                        go_wp2
                        go_roundw
                        case rel => exact ⟨k + 1, A + -a, B + st, C + sk, by omega, by go_num, by go_num, by go_num, by go_num, by omega, by omega, by omega, by omega, by omega, by omega, HB2, Lib.hid ((HNx.out hok).1), Lib.hid (by rw [(HNx.out hok).2.1, HA1.out, hsz]), Lib.hid (by rw [(HNx.out hok).2.2.1, HA2.out]), Lib.hid (by rw [(HNx.out hok).2.2.2, HA3.out])⟩
                        case measure => simp [intOf]; omega
                      · have hsz : It.size a = a := by unfold It.size; rw [if_neg hneg]
                        go_wp2_with fail
                        refine (H1.out _).mono ?_
                        rintro e w1 ⟨rfl, rfl⟩
                        go_wp2_with fail
                        refine (H2.out _).mono ?_
                        rintro e w1 ⟨rfl, rfl⟩
                        go_wp2_with fail
                        refine (H3.out _).mono ?_
                        rintro e w1 ⟨rfl, rfl⟩
                        go_wp2
                        go_roundw
                        case rel => exact ⟨k + 1, A + a, B + st, C + sk, by omega, by go_num, by go_num, by go_num, by go_num, by omega, by omega, by omega, by omega, by omega, by omega, HB2, Lib.hid ((HNx.out hok).1), Lib.hid (by rw [(HNx.out hok).2.1, HA1.out, hsz]), Lib.hid (by rw [(HNx.out hok).2.2.1, HA2.out]), Lib.hid (by rw [(HNx.out hok).2.2.2, HA3.out])⟩
                        case measure => simp [intOf]; omega
      · have hall : l.take k = l := List.take_of_length_le (by rw [← Hn.out]; omega)
        rw [hall] at HAll HA1 HA2 HA3
        have HE := Lib.hid (HEnd.out HAll.out)
        rw [HA1.out, HA2.out, HA3.out] at HE
        have H1 := Lib.hid (fun w => refFits_any A _ rfl w)
        have H2 := Lib.hid (fun w => refFits_any B _ rfl w)
        have H3 := Lib.hid (fun w => refFits_any C _ rfl w)
        clear hall HAll HA1 HA2 HA3 HEnd hA0 hA1 hB0 hB1 hC0 hC1
        generalize Sc.fits A = r1 at HE H1
        generalize Sc.fits B = r2 at HE H2
        generalize Sc.fits C = r3 at HE H3
        cases r1 with
        | false =>
          go_wp2_with fail
          refine (H1.out _).mono ?_
          rintro e w1 ⟨rfl, rfl⟩
          go_wp2
          go_ret
          rw [HE.out]
          exact ⟨rfl, HB.out⟩
        | true =>
          cases r2 with
          | false =>
            go_wp2_with fail
            refine (H1.out _).mono ?_
            rintro e w1 ⟨rfl, rfl⟩
            go_wp2_with fail
            refine (H2.out _).mono ?_
            rintro e w1 ⟨rfl, rfl⟩
            go_wp2
            go_ret
            rw [HE.out]
            exact ⟨rfl, HB.out⟩
          | true =>
            go_wp2_with fail
            refine (H1.out _).mono ?_
            rintro e w1 ⟨rfl, rfl⟩
            go_wp2_with fail
            refine (H2.out _).mono ?_
            rintro e w1 ⟨rfl, rfl⟩
            go_wp2_with fail
            refine (H3.out _).mono ?_
            rintro e w1 ⟨rfl, rfl⟩
            go_wp2
            go_ret
            rw [HE.out]
            exact ⟨rfl, HB.out⟩
  · have g1 : (2000 : Int) < (n : Int) := by omega
    have HE : Hid (q = false) := Lib.hid (by rw [hq]; unfold It.glMay; rw [decide_eq_false (by rw [← Hn.out]; exact hlen)]; rfl)
    clear hlen hq hn
    go_enter Try.func23, Try.ntmps23
    go_wp2
    go_ret
    rw [HE.out]
    exact ⟨rfl, Below.refl _ _⟩
end Go.Proofs.Ythcilpijiindeaa
