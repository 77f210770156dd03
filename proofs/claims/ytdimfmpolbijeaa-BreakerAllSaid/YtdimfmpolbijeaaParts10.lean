/-
  What the landed Cost is made of: squares, what a break costs, a line's class; classes that are unlike.
-/
import Derived.Test.YtdimfmpolbijeaaLineAll10
set_option linter.unusedVariables false
set_option linter.unusedSimpArgs false
namespace Go.Proofs.Ytdimfmpolbijeaa
open Go.RowKit

set_option maxHeartbeats 1000000 in
set_option maxRecDepth 100000 in
theorem square_any (n : Int) (w : World) : Calls Try.prog 69 #[.int .i64 n] w (Is (.int .i64 (It.sqW n)) w) := by
  have HE : Hid (It.sqW n = wrap64 (n * n)) := Lib.hid (It.wr_is _)
  go_enter Try.func69, Try.ntmps69
  go_wp2
  go_ret
  exact ⟨ret_int HE.out.symm, rfl⟩

theorem brk_no {x : It.Itm} (h : x.k ≠ 2) : It.brk x = 0 := by unfold It.brk; rw [if_pos (.inl h)]
theorem brk_forced {x : It.Itm} (h : It.forced x = true) : It.brk x = 0 := by
  unfold It.forced at h
  rw [Bool.and_eq_true, decide_eq_true_eq, decide_eq_true_eq] at h
  unfold It.brk; rw [if_pos (.inr h.2)]
theorem brk_pen {x : It.Itm} (h2 : x.k = 2) (h : It.forced x = false) : It.brk x = if x.p < 0 then It.wr (-(It.sqW x.p)) else It.sqW x.p := by
  unfold It.forced at h
  rw [decide_eq_true h2, Bool.true_and, decide_eq_false_iff_not] at h
  unfold It.brk
  rw [if_neg]
  rintro (h' | h')
  · exact h' h2
  · exact h h'
set_option maxHeartbeats 2000000 in
set_option maxRecDepth 100000 in
theorem brk_any (x : It.Itm) (w : World) : Calls Try.prog 70 #[itV x] w (Ret (.int .i64 (It.brk x)) w) := by
  have HB := Lib.hid (below_alloc w (.cells #[.int .i64 x.k, .int .i64 x.g.w, .int .i64 x.g.st, .int .i64 x.g.sk, .int .i64 x.g.o, .int .i64 x.p, .bool x.f, .int .i64 x.n, .int .i64 x.q] 47))
  have HG := Lib.hid (obj_new w _ rfl #[.int .i64 x.k, .int .i64 x.g.w, .int .i64 x.g.st, .int .i64 x.g.sk, .int .i64 x.g.o, .int .i64 x.p, .bool x.f, .int .i64 x.n, .int .i64 x.q] 47)
  have HF := Lib.hid (fun w => isForced_any x w)
  obtain ⟨r, hr⟩ : ∃ r, r = It.brk x := ⟨_, rfl⟩
  have HR := Lib.hid hr
  rw [← hr]
  clear hr
  unfold itV at HF ⊢
  by_cases h : x.k = 2
  · cases hf : It.forced x with
    | true =>
      have HE := Lib.hid (HR.out.trans (brk_forced hf))
      rw [hf] at HF
      rw [h] at HB HG HF ⊢
      obtain ⟨W1, hW1⟩ : ∃ W1, W1 = w.alloc (.cells #[.int .i64 2, .int .i64 x.g.w, .int .i64 x.g.st, .int .i64 x.g.sk, .int .i64 x.g.o, .int .i64 x.p, .bool x.f, .int .i64 x.n, .int .i64 x.q] 47) := ⟨_, rfl⟩
      rw [← hW1] at HB HG
      clear hf
      go_enter Try.func70, Try.ntmps70
      go_wp2_with fail
      rw [← hW1]
      clear hW1
      refine (HF.out _).mono ?_
      rintro e w2 ⟨rfl, hb2⟩
      have HB2 := Lib.hid (below_step HB.out hb2)
      clear hb2
      go_wp2
      go_ret
      rw [HE.out]
      exact ⟨rfl, HB2.out⟩
    | false =>
      have HE0 := Lib.hid (HR.out.trans (brk_pen h hf))
      have HSq := Lib.hid (fun w => square_any x.p w)
      rw [hf] at HF
      rw [h] at HB HG HF ⊢
      obtain ⟨W1, hW1⟩ : ∃ W1, W1 = w.alloc (.cells #[.int .i64 2, .int .i64 x.g.w, .int .i64 x.g.st, .int .i64 x.g.sk, .int .i64 x.g.o, .int .i64 x.p, .bool x.f, .int .i64 x.n, .int .i64 x.q] 47) := ⟨_, rfl⟩
      rw [← hW1] at HB HG
      generalize It.sqW x.p = z at HE0 HSq
      clear hf
      by_cases hp : x.p < 0
      · have HE : Hid (r = wrap64 (-z)) := Lib.hid (by rw [HE0.out, if_pos hp]; exact It.wr_is _)
        go_enter Try.func70, Try.ntmps70
        go_wp2_with fail
        rw [← hW1]
        clear hW1
        refine (HF.out _).mono ?_
        rintro e w2 ⟨rfl, hb2⟩
        have HB2 := Lib.hid (below_step HB.out hb2)
        have HG2 := Lib.hid (obj_kept hb2 HG.out)
        clear hb2
        have c5 := Lib.cell_of_heap HG2.out 5
        go_wp2_with fail
        refine (HSq.out _).mono ?_
        rintro e w3 ⟨rfl, rfl⟩
        go_wp2
        go_ret
        exact ⟨ret_int HE.out.symm, HB2.out⟩
      · have HE : Hid (r = z) := Lib.hid (by rw [HE0.out, if_neg hp])
        go_enter Try.func70, Try.ntmps70
        go_wp2_with fail
        rw [← hW1]
        clear hW1
        refine (HF.out _).mono ?_
        rintro e w2 ⟨rfl, hb2⟩
        have HB2 := Lib.hid (below_step HB.out hb2)
        have HG2 := Lib.hid (obj_kept hb2 HG.out)
        clear hb2
        have c5 := Lib.cell_of_heap HG2.out 5
        go_wp2_with fail
        refine (HSq.out _).mono ?_
        rintro e w3 ⟨rfl, rfl⟩
        go_wp2
        go_ret
        exact ⟨ret_int HE.out.symm, HB2.out⟩
  · have HE := Lib.hid (HR.out.trans (brk_no h))
    go_enter Try.func70, Try.ntmps70
    go_wp2
    go_ret
    rw [HE.out]
    exact ⟨rfl, HB.out⟩

set_option maxHeartbeats 2000000 in
set_option maxRecDepth 100000 in
theorem classOf_any (S : It.Stg) (w : World) : Calls Try.prog 71 #[stgV S] w (Ret (.int .i64 (It.cls S)) w) := by
  have HB := Lib.hid (below_alloc w (.cells #[.int .i64 S.sg, .int .i64 S.o, .int .i64 S.e, .int .i64 S.bad] 74))
  unfold stgV
  by_cases h1 : S.bad ≤ 12
  · have HE : Hid (It.cls S = 2) := Lib.hid (by unfold It.cls; rw [if_pos h1])
    go_enter Try.func71, Try.ntmps71
    go_wp2
    go_ret
    rw [HE.out]
    exact ⟨rfl, HB.out⟩
  · by_cases h2 : S.sg < 0
    · have HE : Hid (It.cls S = 3) := Lib.hid (by unfold It.cls; rw [if_neg h1, if_pos h2])
      go_enter Try.func71, Try.ntmps71
      go_wp2
      go_ret
      rw [HE.out]
      exact ⟨rfl, HB.out⟩
    · by_cases h3 : S.bad < 100
      · have HE : Hid (It.cls S = 1) := Lib.hid (by unfold It.cls; rw [if_neg h1, if_neg h2, if_pos h3])
        go_enter Try.func71, Try.ntmps71
        go_wp2
        go_ret
        rw [HE.out]
        exact ⟨rfl, HB.out⟩
      · have HE : Hid (It.cls S = 0) := Lib.hid (by unfold It.cls; rw [if_neg h1, if_neg h2, if_neg h3])
        go_enter Try.func71, Try.ntmps71
        go_wp2
        go_ret
        rw [HE.out]
        exact ⟨rfl, HB.out⟩

set_option maxHeartbeats 2000000 in
set_option maxRecDepth 100000 in
theorem refApart_any (p q : Int) (hp : 0 ≤ p ∧ p ≤ 3) (hq : 0 ≤ q ∧ q ≤ 3) (w : World) : Calls Try.prog 29 #[.int .i64 p, .int .i64 q] w (Is (.int .i64 (if It.unlike p q then 10000 else 0)) w) := by
  obtain ⟨p0, p1⟩ := hp
  obtain ⟨q0, q1⟩ := hq
  obtain ⟨r, hr⟩ : ∃ r : Int, r = (if It.unlike p q then 10000 else 0) := ⟨_, rfl⟩
  have HR := Lib.hid hr
  rw [← hr]
  clear hr
  by_cases h1 : q + 1 < p
  · have HE : Hid (r = 10000) := Lib.hid (by rw [HR.out]; unfold It.unlike; rw [decide_eq_true (.inl h1)]; rfl)
    go_enter Try.func29, Try.ntmps29
    go_wp2
    go_ret
    rw [HE.out]
    exact ⟨rfl, rfl⟩
  · by_cases h2 : p + 1 < q
    · have HE : Hid (r = 10000) := Lib.hid (by rw [HR.out]; unfold It.unlike; rw [decide_eq_true (.inr h2)]; rfl)
      go_enter Try.func29, Try.ntmps29
      go_wp2
      go_ret
      rw [HE.out]
      exact ⟨rfl, rfl⟩
    · have HE : Hid (r = 0) := Lib.hid (by rw [HR.out]; unfold It.unlike; rw [decide_eq_false (by omega)]; rfl)
      go_enter Try.func29, Try.ntmps29
      go_wp2
      go_ret
      rw [HE.out]
      exact ⟨rfl, rfl⟩
end Go.Proofs.Ytdimfmpolbijeaa
