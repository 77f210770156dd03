/-
  The landed areSizes and validSpace: lengths that fit and are not below 0.
-/
import Derived.Test.YtmehldekebphfaaGreatDoorUp7
import Derived.Test.YtmehldekebphfaaGreatDoorFixed7
import Derived.Test.YtmehldekebphfaaGreatDoorArith
set_option linter.unusedVariables false
set_option linter.unusedSimpArgs false
namespace Go.Proofs.YtmehldekebphfaaGreatDoor
open Go.RowKit

theorem ints_three (w : World) (p : Nat) (hp : w.heap.size = p) (a b c : Int) : IntsAt .i64 (w.alloc (.cells #[.int .i64 a, .int .i64 b, .int .i64 c] 2)) (.slice (some ⟨p, 0, none⟩) 3 3) [a, b, c] := by
  subst hp
  refine ⟨⟨_, 3, rfl, Nat.le_refl _⟩, by unfold maxLen; simp, fun _ => ⟨w.heap.size, 0, 3, rfl, fun i x hi => ?_⟩⟩
  rw [Nat.zero_add]
  match i, hi with
  | 0, hi => simp at hi; subst hi; exact cell_lay w _ _ 0 _ rfl
  | 1, hi => simp at hi; subst hi; exact cell_lay w _ _ 1 _ rfl
  | 2, hi => simp at hi; subst hi; exact cell_lay w _ _ 2 _ rfl
  | n + 3, hi => simp at hi
set_option maxHeartbeats 2000000 in
set_option maxRecDepth 100000 in
theorem areSizes_any (v : Value) (xs : List Int) (w : World) (h : IntsAt .i64 w v xs) : Calls Tryz.prog 62 #[v] w (Is (.bool (xs.all Mt.amount)) w) := by
  have HA := Lib.hid h
  obtain ⟨⟨a, cp, rfl, _⟩, hm, _⟩ := h
  have hza : xs.length ≤ 9223372036854775807 := by unfold maxLen at hm; omega
  obtain ⟨n, hn⟩ : ∃ n, n = xs.length := ⟨_, rfl⟩
  have Hn := Lib.hid hn
  obtain ⟨r, hr⟩ : ∃ r, r = xs.all Mt.amount := ⟨_, rfl⟩
  rw [← hr]
  rw [← hn] at hza ⊢
  have HR : Hid (r = (xs.drop 0).all Mt.amount) := Lib.hid hr
  clear hr hn hm
  go_enter Tryz.func62, Tryz.ntmps62
  go_wp2_with fail
  go_loop [7] (fun iv => ∃ k : Nat, k ≤ n ∧ iv = .int .i64 k ∧ Hid (r = (xs.drop k).all Mt.amount)) (fun iv => n - (intOf iv).toNat)
  case atStart => exact ⟨0, Nat.zero_le _, rfl, HR⟩
  case round =>
    obtain ⟨k, hk, rfl, HK⟩ := hrel
    clear HR
    by_cases hlt : k < n
    · obtain ⟨b1, o1, d1, e1, r1⟩ := HA.out.2.2 (by rw [← Hn.out]; omega)
      obtain ⟨rfl, rfl⟩ : a = some ⟨b1, o1, none⟩ ∧ cp = d1 := by injection e1 with a1 a2 a3; exact ⟨a1, a3⟩
      obtain ⟨x, hx⟩ : ∃ x, xs[k]? = some x := ⟨_, List.getElem?_eq_getElem (by rw [← Hn.out]; exact hlt)⟩
      have y0 := r1 k x hx
      have k0 : (0 : Int) ≤ (k : Int) := by omega
      have kl : (k : Int) < (n : Int) := by omega
      have HE := Lib.hid (HK.out.trans (all_on hx))
      clear r1 e1 hx
      by_cases hz : x < 0
      · have HE2 : Hid (r = false) := Lib.hid (by rw [HE.out]; unfold Mt.amount; rw [decide_eq_false (by omega)]; rfl)
        go_wp2
        go_ret
        rw [HE2.out]
        exact ⟨rfl, rfl⟩
      · cases hf : Sc.fits x with
        | false =>
          have HE2 : Hid (r = false) := Lib.hid (by rw [HE.out]; unfold Mt.amount; rw [hf, Bool.and_false]; rfl)
          have HF := Lib.hid (fun w => fits_any x false hf w)
          clear hf
          go_wp2_with fail
          refine (HF.out _).mono ?_
          rintro e w1 ⟨rfl, rfl⟩
          go_wp2
          go_ret
          rw [HE2.out]
          exact ⟨rfl, rfl⟩
        | true =>
          have HE2 : Hid (r = (xs.drop (k + 1)).all Mt.amount) := Lib.hid (by rw [HE.out]; unfold Mt.amount; rw [hf, decide_eq_true (by omega)]; rfl)
          have HF := Lib.hid (fun w => fits_any x true hf w)
          clear hf
          go_wp2_with fail
          refine (HF.out _).mono ?_
          rintro e w1 ⟨rfl, rfl⟩
          go_wp2
          go_round
          case rel => exact ⟨k + 1, by omega, by go_num, HE2⟩
          case measure => simp [intOf]; omega
    · have HE : Hid (r = true) := Lib.hid (HK.out.trans (all_end (by rw [← Hn.out]; omega)))
      go_wp2
      go_ret
      rw [HE.out]
      exact ⟨rfl, rfl⟩

theorem all_three (a b c : Int) : [a, b, c].all Mt.amount = (Mt.amount a && Mt.amount b && Mt.amount c) := by
  simp only [List.all_cons, List.all_nil, Bool.and_true, Bool.and_assoc]
set_option maxHeartbeats 2000000 in
set_option maxRecDepth 100000 in
theorem space_any (a b c o : Int) (w : World) : Calls Tryz.prog 34 #[.agg #[.int .i64 a, .int .i64 b, .int .i64 c, .int .i64 o]] w (Ret (.bool (decide (o = 0) && (Mt.amount a && Mt.amount b && Mt.amount c))) w) := by
  have hb1 := below_alloc w (.cells #[.int .i64 a, .int .i64 b, .int .i64 c, .int .i64 o] 23)
  by_cases ho : o = 0
  · subst ho
    have HI := Lib.hid (areSizes_any _ _ _ (ints_three (w.alloc (.cells #[.int .i64 a, .int .i64 b, .int .i64 c, .int .i64 0] 23)) (w.heap.size + 1) (World.size_alloc _ _) a b c))
    have HB := Lib.hid (below_step hb1 (below_alloc _ (.cells #[.int .i64 a, .int .i64 b, .int .i64 c] 2)))
    rw [all_three] at HI
    generalize (Mt.amount a && Mt.amount b && Mt.amount c) = r at HI ⊢
    clear hb1
    go_enter Tryz.func34, Tryz.ntmps34
    go_wp2_with fail
    refine HI.out.mono ?_
    rintro e w1 ⟨rfl, rfl⟩
    go_wp2
    go_ret
    exact ⟨by simp, HB.out⟩
  · have q : (o == 0) = false := beq_eq_false_iff_ne.2 ho
    rw [decide_eq_false ho]
    have HB := Lib.hid hb1
    clear hb1 ho
    go_enter Tryz.func34, Tryz.ntmps34
    go_wp2
    go_ret
    exact ⟨rfl, HB.out⟩
end Go.Proofs.YtmehldekebphfaaGreatDoor
