/-
  Which items begin a line, or force a break; the landed search among items; where a line begins, the landed Start and the reference's.
-/
import Derived.Test.YthcilpijiindeaaLeg10
set_option linter.unusedVariables false
set_option linter.unusedSimpArgs false
namespace Go.Proofs.Ythcilpijiindeaa
open Go.RowKit

theorem forced_no {x : It.Itm} (h : x.k ≠ 2) : It.forced x = false := by unfold It.forced; rw [decide_eq_false h, Bool.false_and]
theorem forced_if {x : It.Itm} (h : x.k = 2) : It.forced x = decide (x.p = -10000) := by unfold It.forced; rw [decide_eq_true h, Bool.true_and]

set_option maxHeartbeats 1000000 in
set_option maxRecDepth 100000 in
theorem isForced_any (x : It.Itm) (w : World) : Calls Try.prog 65 #[itV x] w (Ret (.bool (It.forced x)) w) := by
  have HB := Lib.hid (below_alloc w (.cells #[.int .i64 x.k, .int .i64 x.g.w, .int .i64 x.g.st, .int .i64 x.g.sk, .int .i64 x.g.o, .int .i64 x.p, .bool x.f, .int .i64 x.n, .int .i64 x.q] 40))
  unfold itV
  by_cases h : x.k = 2
  · have HE := Lib.hid (forced_if h)
    rw [h] at HB ⊢
    go_enter Try.func65, Try.ntmps65
    go_wp2
    go_ret
    rw [HE.out]
    exact ⟨rfl, HB.out⟩
  · have HE := Lib.hid (forced_no h)
    go_enter Try.func65, Try.ntmps65
    go_wp2
    go_ret
    rw [HE.out]
    exact ⟨rfl, HB.out⟩
set_option maxHeartbeats 1000000 in
set_option maxRecDepth 100000 in
theorem refForced_any (x : It.Itm) (w : World) : Calls Try.prog 35 #[itV x] w (Ret (.bool (It.forced x)) w) := by
  have HB := Lib.hid (below_alloc w (.cells #[.int .i64 x.k, .int .i64 x.g.w, .int .i64 x.g.st, .int .i64 x.g.sk, .int .i64 x.g.o, .int .i64 x.p, .bool x.f, .int .i64 x.n, .int .i64 x.q] 40))
  unfold itV
  by_cases h : x.k = 2
  · have HE := Lib.hid (forced_if h)
    rw [h] at HB ⊢
    go_enter Try.func35, Try.ntmps35
    go_wp2
    go_ret
    rw [HE.out]
    exact ⟨rfl, HB.out⟩
  · have HE := Lib.hid (forced_no h)
    go_enter Try.func35, Try.ntmps35
    go_wp2
    go_ret
    rw [HE.out]
    exact ⟨rfl, HB.out⟩
set_option maxHeartbeats 1000000 in
set_option maxRecDepth 100000 in
theorem startsLine_any (x : It.Itm) (w : World) : Calls Try.prog 49 #[itV x] w (Ret (.bool (It.startsB x)) w) := by
  have HB := Lib.hid (below_alloc w (.cells #[.int .i64 x.k, .int .i64 x.g.w, .int .i64 x.g.st, .int .i64 x.g.sk, .int .i64 x.g.o, .int .i64 x.p, .bool x.f, .int .i64 x.n, .int .i64 x.q] 40))
  have HF := Lib.hid (fun w => isForced_any x w)
  unfold itV at HF ⊢
  by_cases h : x.k = 0
  · have HE : Hid (It.startsB x = true) := Lib.hid (by unfold It.startsB; rw [decide_eq_true h]; rfl)
    rw [h] at HB HF ⊢
    go_enter Try.func49, Try.ntmps49
    go_wp2
    go_ret
    rw [HE.out]
    exact ⟨rfl, HB.out⟩
  · have HE : Hid (It.startsB x = It.forced x) := Lib.hid (by unfold It.startsB; rw [decide_eq_false h]; rfl)
    cases hq : It.forced x
    all_goals
      rw [hq] at HF HE
      clear hq
      obtain ⟨W1, hW1⟩ : ∃ W1, W1 = w.alloc (.cells #[.int .i64 x.k, .int .i64 x.g.w, .int .i64 x.g.st, .int .i64 x.g.sk, .int .i64 x.g.o, .int .i64 x.p, .bool x.f, .int .i64 x.n, .int .i64 x.q] 40) := ⟨_, rfl⟩
      rw [← hW1] at HB
      go_enter Try.func49, Try.ntmps49
      go_wp2_with fail
      rw [← hW1]
      clear hW1
      refine (HF.out _).mono ?_
      rintro e w2 ⟨rfl, hb2⟩
      have HB2 := Lib.hid (below_step HB.out hb2)
      clear hb2
      go_wp2
      go_ret
      rw [HE.out]
      exact ⟨by first | rfl | exact ret_bool (by simp [h]), HB2.out⟩

/-! ### the search -/
/-- where the first of the items stands, or -1 -/
def idxOf (P : It.Itm → Bool) (l : List It.Itm) : Int := if l.findIdx P < l.length then (l.findIdx P : Int) else -1
theorem findIdx_drop_here {P : It.Itm → Bool} {l : List It.Itm} {k : Nat} {x : It.Itm} (hx : l[k]? = some x) (hp : P x = true) : (l.drop k).findIdx P = 0 := by
  rw [It.drop_at hx, List.findIdx_cons, hp]; rfl
theorem findIdx_drop_next {P : It.Itm → Bool} {l : List It.Itm} {k : Nat} {x : It.Itm} (hx : l[k]? = some x) (hp : P x = false) : (l.drop k).findIdx P = (l.drop (k + 1)).findIdx P + 1 := by
  rw [It.drop_at hx, List.findIdx_cons, hp]; rfl

set_option maxHeartbeats 4000000 in
set_option maxRecDepth 100000 in
theorem idx_any (g : Nat) (eg : ∀ args w, (callFunc g args).run Try.prog w = .ok (.enter g args) w) (P : It.Itm → Bool) (hclo : ∀ (x : It.Itm) w1, Calls Try.prog g #[itV x] w1 (Ret (.bool (P x)) w1)) (v : Value) (l : List It.Itm) (w : World) (h : ItsAt w v l) :
    Calls Try.prog 48 #[v, .func (.func g) #[] #[]] w (Ret (.int .i64 (idxOf P l)) w) := by
  have HA := Lib.hid h
  obtain ⟨⟨a, cp, rfl, _⟩, hm, _⟩ := h
  have hza : l.length ≤ 9223372036854775807 := by unfold maxLen at hm; omega
  obtain ⟨na, hna⟩ : ∃ n, n = l.length := ⟨_, rfl⟩
  have Hna := Lib.hid hna
  obtain ⟨r, hr⟩ : ∃ r, r = idxOf P l := ⟨_, rfl⟩
  have HR := Lib.hid hr
  rw [← hna] at hza ⊢
  rw [← hr]
  have HC := Lib.hid hclo
  clear hm hna hr hclo
  go_enter Try.func48, Try.ntmps48
  go_wp2_with fail
  go_loopw [8] (fun iv wr => ∃ k : Nat, k ≤ na ∧ iv = .int .i64 k ∧ Hid (Below w.heap.size w wr) ∧ Hid (l.findIdx P = k + (l.drop k).findIdx P)) (fun iv _ => na - (intOf iv).toNat)
  case atStart => exact ⟨0, Nat.zero_le _, rfl, Lib.hid (Below.refl _ _), Lib.hid (by rw [List.drop_zero, Nat.zero_add])⟩
  case round =>
    obtain ⟨k, hk, rfl, HB, HK⟩ := hrel
    by_cases hlt : k < na
    · obtain ⟨b1, o1, d1, e1, r1⟩ := HA.out.2.2 (by rw [← Hna.out]; omega)
      obtain ⟨rfl, rfl⟩ : a = some ⟨b1, o1, none⟩ ∧ cp = d1 := by injection e1 with a1 a2 a3; exact ⟨a1, a3⟩
      obtain ⟨x, hx⟩ : ∃ x, l[k]? = some x := ⟨_, List.getElem?_eq_getElem (by rw [← Hna.out]; exact hlt)⟩
      obtain ⟨y0, y1, y2, y3, y4, y5, y6, y7, y8⟩ := it_cells ((r1 k x hx).mono HB.out)
      have Hx := Lib.hid hx
      have Hlt := Lib.hid (show k < l.length by rw [← Hna.out]; exact hlt)
      have k0 : (0 : Int) ≤ (k : Int) := by omega
      have kl : (k : Int) < (na : Int) := by omega
      have HCx := Lib.hid (fun w1 => HC.out x w1)
      unfold itV at HCx
      cases hq : P x with
      | true =>
        have HE : Hid (r = (k : Int)) := Lib.hid (by
          have := HK.out
          rw [findIdx_drop_here Hx.out hq] at this
          rw [HR.out]; unfold idxOf; rw [this, Nat.add_zero, if_pos Hlt.out])
        rw [hq] at HCx
        clear r1 e1 hx hq
        go_wp2_with fail
        refine (HCx.out _).mono ?_
        rintro e w1 ⟨rfl, hb1⟩
        have HB1 := Lib.hid (below_step HB.out hb1)
        clear hb1 y0 y1 y2 y3 y4 y5 y6 y7 y8 HCx
        go_wp2
        go_ret
        rw [HE.out]
        exact ⟨rfl, HB1.out⟩
      | false =>
        have HN := Lib.hid (findIdx_drop_next Hx.out hq)
        rw [hq] at HCx
        clear r1 e1 hx hq
        go_wp2_with fail
        refine (HCx.out _).mono ?_
        rintro e w1 ⟨rfl, hb1⟩
        have HB1 := Lib.hid (below_step HB.out hb1)
        clear hb1 y0 y1 y2 y3 y4 y5 y6 y7 y8 HCx
        go_wp2
        go_roundw
        case rel => exact ⟨k + 1, by omega, by go_num, HB1, Lib.hid (by rw [HK.out, HN.out]; omega)⟩
        case measure => simp [intOf]; omega
    · have HE : Hid (r = -1) := Lib.hid (by
        have := HK.out
        rw [It.drop_end (by rw [← Hna.out]; omega)] at this
        have h2 : l.length ≤ k := by rw [← Hna.out]; omega
        rw [HR.out]; unfold idxOf; rw [this, if_neg (by omega)])
      go_wp2
      go_ret
      rw [HE.out]
      exact ⟨rfl, HB.out⟩
end Go.Proofs.Ythcilpijiindeaa
