/-
  PROVED: the law MetricBack where what it is handed is of bulk at most 1048576: a table that may be is parsed from its print as it was; what is parsed may be, and is printed as it stood.
  Conditions: the bulk.
-/
import Derived.Test.YtmehldekebphfaaGreatDoorFixedW7
import Derived.Test.YtmehldekebphfaaGreatDoorRefIs7
import Derived.Test.YtmehldekebphfaaGreatDoorLen7
import Derived.Test.YtmehldekebphfaaGreatDoorFrameM7
set_option linter.unusedVariables false
set_option linter.unusedSimpArgs false
namespace Go.Proofs.YtmehldekebphfaaGreatDoor
open Go.RowKit

theorem bne7 {n k : Int} (h : n ≠ k) : (n == k) = false := beq_eq_false_iff_ne.2 h
set_option maxHeartbeats 8000000 in
set_option maxRecDepth 100000 in
theorem lawBack7 {W0 : World} (C : MetW W0) (v : Value) (m : Mt.Tab) (s : ByteArray) (hs : s.size ≤ 1073741824) (w : World) (hw : Below W0.heap.size W0 w) (h : MetAt w v m) : Calls Tryz.prog 5 #[v, .string s] w (Ret (.bool true) w) := by
  have HFx := Lib.hid (fun w' (hb : Below w.heap.size w w') => fixedW7 C w' (below_step hw hb))
  obtain ⟨sw, st, sk, so, hy, pc, na, cc, pk, nb, ck, pl, nc, cl, rfl⟩ := met_open h
  have HM := Lib.hid (h.mono (below_alloc w (.cells #[.int .i64 sw, .int .i64 st, .int .i64 sk, .int .i64 so, .int .i32 hy, .slice pc na cc, .slice pk nb ck, .slice pl nc cl] 28)))
  have HL := Lib.hid (laid_one w #[.int .i64 sw, .int .i64 st, .int .i64 sk, .int .i64 so, .int .i32 hy, .slice pc na cc, .slice pk nb ck, .slice pl nc cl] 28)
  have HB := Lib.hid (below_alloc w (.cells #[.int .i64 sw, .int .i64 st, .int .i64 sk, .int .i64 so, .int .i32 hy, .slice pc na cc, .slice pk nb ck, .slice pl nc cl] 28))
  have cCh := Lib.hid (fun v w h => C.check v m w h)
  have cPr := Lib.hid (fun v w' (hb : Below w.heap.size w w') h => C.print v m w' (below_step hw hb) h)
  obtain ⟨X, hX⟩ : ∃ X, X = Mt.print m := ⟨_, rfl⟩
  rw [← hX] at cPr
  have HX := Lib.hid hX
  have cPs := Lib.hid (fun w' (hb : Below w.heap.size w w') => C.parse s w' (below_step hw hb) hs)
  have cPx := Lib.hid (fun w' (hb : Below w.heap.size w w') => C.parse (str X) w' (below_step hw hb) (by have := Mt.print_small m; rw [← hX] at this; rw [str_size]; omega))
  rw [str_data] at cPx
  have HC := Lib.hid C
  have HW := Lib.hid hw
  clear C h hw hs hX
  have hps : (∃ b, Mt.parse s.data.toList = .inl b) ∨ ∃ xc xa, Mt.parse s.data.toList = .inr (xc, xa) := by
    cases h : Mt.parse s.data.toList with
    | inl b => exact .inl ⟨b, rfl⟩
    | inr x => exact .inr ⟨x.1, x.2, rfl⟩
  cases hmay : Mt.may m with
  | true =>
    rw [hmay] at cCh
    have hpx : Mt.parse X = .inl m := by rw [HX.out]; exact Mt.parse_print hmay
    have cPx := Lib.hid (fun w' hw1 => (cPx.out w' hw1).mono fun e w2 h => parse_inl hpx h)
    simp only [if_true] at cCh
    clear hpx hmay
    rcases hps with ⟨b, hb⟩ | ⟨xc, xa, hx⟩
    · have cPs := Lib.hid (fun w' hw1 => (cPs.out w' hw1).mono fun e w2 h => parse_inl hb h)
      have hbm := may_of_parse hb
      have cCb := Lib.hid (fun v w h => HC.out.check v b w h)
      have cPb := Lib.hid (fun v w' (hb : Below w.heap.size w w') h => HC.out.print v b w' (below_step HW.out hb) h)
      rw [hbm] at cCb
      simp only [if_true] at cCb
      rw [(Mt.print_parse hb).2, str_of] at cPb
      clear hb hbm
      go_enter Tryz.func5, Tryz.ntmps5
      have y0 := HL.out.at_ 0 _ rfl
      have y1 := HL.out.at_ 1 _ rfl
      have y2 := HL.out.at_ 2 _ rfl
      have y3 := HL.out.at_ 3 _ rfl
      have y4 := HL.out.at_ 4 _ rfl
      have y5 := HL.out.at_ 5 _ rfl
      have y6 := HL.out.at_ 6 _ rfl
      have y7 := HL.out.at_ 7 _ rfl
      go_wp2_with fail
      refine (cPr.out _ _ HB.out HM.out).mono ?_
      rintro e w1 ⟨rfl, hb1⟩
      have HB := Lib.hid (below_step HB.out hb1)
      have HM := Lib.hid (HM.out.mono hb1)
      have HL := Lib.hid (HL.out.mono hb1)
      clear y0 y1 y2 y3 y4 y5 y6 y7
      clear hb1
      go_wp2_with fail
      refine (cPx.out _ HB.out).mono ?_
      rintro e w2 ⟨v1, rfl, hm1, hb2⟩
      obtain ⟨sw1, st1, sk1, so1, hy1, pc1, na1, cc1, pk1, nb1, ck1, pl1, nc1, cl1, rfl⟩ := met_open hm1
      have HB := Lib.hid (below_step HB.out hb2)
      have HM := Lib.hid (HM.out.mono hb2)
      have HL := Lib.hid (HL.out.mono hb2)
      have HM1 := Lib.hid hm1
      clear hb2 hm1
      have hbs1 := below_two w2 (.cells #[.int .i64 sw1, .int .i64 st1, .int .i64 sk1, .int .i64 so1, .int .i32 hy1, .slice pc1 na1 cc1, .slice pk1 nb1 ck1, .slice pl1 nc1 cl1] 28) (.cells #[.int .i64 0, .int .i64 0] 31)
      have HL1 := Lib.hid (laid_two w2 #[.int .i64 sw1, .int .i64 st1, .int .i64 sk1, .int .i64 so1, .int .i32 hy1, .slice pc1 na1 cc1, .slice pk1 nb1 ck1, .slice pl1 nc1 cl1] 28 (.cells #[.int .i64 0, .int .i64 0] 31))
      have HF1 := Lib.hid (flt_two7 w2 (.cells #[.int .i64 sw1, .int .i64 st1, .int .i64 sk1, .int .i64 so1, .int .i32 hy1, .slice pc1 na1 cc1, .slice pk1 nb1 ck1, .slice pl1 nc1 cl1] 28) 0 0)
      have HB := Lib.hid (below_step HB.out hbs1)
      have HM := Lib.hid (HM.out.mono hbs1)
      have HL := Lib.hid (HL.out.mono hbs1)
      have HM1 := Lib.hid (HM1.out.mono hbs1)
      clear hbs1
      go_wp2_with fail
      refine (HFx.out _ HB.out).mono ?_
      rintro e w3 ⟨rfl, hb3⟩
      have HB := Lib.hid (below_step HB.out hb3)
      have HM := Lib.hid (HM.out.mono hb3)
      have HL := Lib.hid (HL.out.mono hb3)
      have HM1 := Lib.hid (HM1.out.mono hb3)
      have HL1 := Lib.hid (HL1.out.mono hb3)
      have HF1 := Lib.hid (HF1.out.mono hb3)
      clear hb3
      have y0 := HL.out.at_ 0 _ rfl
      have y1 := HL.out.at_ 1 _ rfl
      have y2 := HL.out.at_ 2 _ rfl
      have y3 := HL.out.at_ 3 _ rfl
      have y4 := HL.out.at_ 4 _ rfl
      have y5 := HL.out.at_ 5 _ rfl
      have y6 := HL.out.at_ 6 _ rfl
      have y7 := HL.out.at_ 7 _ rfl
      go_wp2_with fail
      refine (cCh.out _ _ HM.out).mono ?_
      rintro e w4 ⟨rfl, hb4⟩
      have HB := Lib.hid (below_step HB.out hb4)
      have HM := Lib.hid (HM.out.mono hb4)
      have HL := Lib.hid (HL.out.mono hb4)
      have HM1 := Lib.hid (HM1.out.mono hb4)
      have HL1 := Lib.hid (HL1.out.mono hb4)
      have HF1 := Lib.hid (HF1.out.mono hb4)
      clear hb4
      clear y0 y1 y2 y3 y4 y5 y6 y7
      have y0 := HL.out.at_ 0 _ rfl
      have y1 := HL.out.at_ 1 _ rfl
      have y2 := HL.out.at_ 2 _ rfl
      have y3 := HL.out.at_ 3 _ rfl
      have y4 := HL.out.at_ 4 _ rfl
      have y5 := HL.out.at_ 5 _ rfl
      have y6 := HL.out.at_ 6 _ rfl
      have y7 := HL.out.at_ 7 _ rfl
      have z0 := HL1.out.at_ 0 _ rfl
      have z1 := HL1.out.at_ 1 _ rfl
      have z2 := HL1.out.at_ 2 _ rfl
      have z3 := HL1.out.at_ 3 _ rfl
      have z4 := HL1.out.at_ 4 _ rfl
      have z5 := HL1.out.at_ 5 _ rfl
      have z6 := HL1.out.at_ 6 _ rfl
      have z7 := HL1.out.at_ 7 _ rfl
      have f0 := HF1.out.c0
      go_wp2_with fail
      refine (is_self _ _ m _ HM1.out HM.out).mono ?_
      rintro e w5 ⟨rfl, hb5⟩
      have HB := Lib.hid (below_step HB.out hb5)
      clear hb5 f0
      clear y0 y1 y2 y3 y4 y5 y6 y7
      clear z0 z1 z2 z3 z4 z5 z6 z7
      go_wp2_with fail
      refine (cPs.out _ HB.out).mono ?_
      rintro e w6 ⟨v2, rfl, hm2, hb6⟩
      obtain ⟨sw2, st2, sk2, so2, hy2, pc2, na2, cc2, pk2, nb2, ck2, pl2, nc2, cl2, rfl⟩ := met_open hm2
      have HB := Lib.hid (below_step HB.out hb6)
      have HM2 := Lib.hid hm2
      clear hb6 hm2
      have hbs2 := below_two w6 (.cells #[.int .i64 sw2, .int .i64 st2, .int .i64 sk2, .int .i64 so2, .int .i32 hy2, .slice pc2 na2 cc2, .slice pk2 nb2 ck2, .slice pl2 nc2 cl2] 28) (.cells #[.int .i64 0, .int .i64 0] 31)
      have HL2 := Lib.hid (laid_two w6 #[.int .i64 sw2, .int .i64 st2, .int .i64 sk2, .int .i64 so2, .int .i32 hy2, .slice pc2 na2 cc2, .slice pk2 nb2 ck2, .slice pl2 nc2 cl2] 28 (.cells #[.int .i64 0, .int .i64 0] 31))
      have HF2 := Lib.hid (flt_two7 w6 (.cells #[.int .i64 sw2, .int .i64 st2, .int .i64 sk2, .int .i64 so2, .int .i32 hy2, .slice pc2 na2 cc2, .slice pk2 nb2 ck2, .slice pl2 nc2 cl2] 28) 0 0)
      have HB := Lib.hid (below_step HB.out hbs2)
      have HM2 := Lib.hid (HM2.out.mono hbs2)
      clear hbs2
      have u0 := HL2.out.at_ 0 _ rfl
      have u1 := HL2.out.at_ 1 _ rfl
      have u2 := HL2.out.at_ 2 _ rfl
      have u3 := HL2.out.at_ 3 _ rfl
      have u4 := HL2.out.at_ 4 _ rfl
      have u5 := HL2.out.at_ 5 _ rfl
      have u6 := HL2.out.at_ 6 _ rfl
      have u7 := HL2.out.at_ 7 _ rfl
      have g0 := HF2.out.c0
      go_wp2_with fail
      refine (cCb.out _ _ HM2.out).mono ?_
      rintro e w7 ⟨rfl, hb7⟩
      have HB := Lib.hid (below_step HB.out hb7)
      have HM2 := Lib.hid (HM2.out.mono hb7)
      have HL2 := Lib.hid (HL2.out.mono hb7)
      clear hb7 g0
      clear u0 u1 u2 u3 u4 u5 u6 u7
      have u0 := HL2.out.at_ 0 _ rfl
      have u1 := HL2.out.at_ 1 _ rfl
      have u2 := HL2.out.at_ 2 _ rfl
      have u3 := HL2.out.at_ 3 _ rfl
      have u4 := HL2.out.at_ 4 _ rfl
      have u5 := HL2.out.at_ 5 _ rfl
      have u6 := HL2.out.at_ 6 _ rfl
      have u7 := HL2.out.at_ 7 _ rfl
      go_wp2_with fail
      refine (cPb.out _ _ HB.out HM2.out).mono ?_
      rintro e w8 ⟨rfl, hb8⟩
      have HB := Lib.hid (below_step HB.out hb8)
      clear hb8
      clear u0 u1 u2 u3 u4 u5 u6 u7
      go_wp2
      go_ret
      exact ⟨rfl, HB.out⟩
    · have cPs := Lib.hid (fun w' hw1 => (cPs.out w' hw1).mono fun e w2 h => parse_inr hx h)
      unfold zeroM at cPs
      have hxc : xc ≠ 0 := by rcases Mt.parse_codes hx with h | h <;> simp_all <;> omega
      have hx1 := bne7 hxc
      have hx2 : (xc != 0) = true := by simp only [bne, hx1]; rfl
      clear hx hxc
      go_enter Tryz.func5, Tryz.ntmps5
      have y0 := HL.out.at_ 0 _ rfl
      have y1 := HL.out.at_ 1 _ rfl
      have y2 := HL.out.at_ 2 _ rfl
      have y3 := HL.out.at_ 3 _ rfl
      have y4 := HL.out.at_ 4 _ rfl
      have y5 := HL.out.at_ 5 _ rfl
      have y6 := HL.out.at_ 6 _ rfl
      have y7 := HL.out.at_ 7 _ rfl
      go_wp2_with fail
      refine (cPr.out _ _ HB.out HM.out).mono ?_
      rintro e w1 ⟨rfl, hb1⟩
      have HB := Lib.hid (below_step HB.out hb1)
      have HM := Lib.hid (HM.out.mono hb1)
      have HL := Lib.hid (HL.out.mono hb1)
      clear y0 y1 y2 y3 y4 y5 y6 y7
      clear hb1
      go_wp2_with fail
      refine (cPx.out _ HB.out).mono ?_
      rintro e w2 ⟨v1, rfl, hm1, hb2⟩
      obtain ⟨sw1, st1, sk1, so1, hy1, pc1, na1, cc1, pk1, nb1, ck1, pl1, nc1, cl1, rfl⟩ := met_open hm1
      have HB := Lib.hid (below_step HB.out hb2)
      have HM := Lib.hid (HM.out.mono hb2)
      have HL := Lib.hid (HL.out.mono hb2)
      have HM1 := Lib.hid hm1
      clear hb2 hm1
      have hbs1 := below_two w2 (.cells #[.int .i64 sw1, .int .i64 st1, .int .i64 sk1, .int .i64 so1, .int .i32 hy1, .slice pc1 na1 cc1, .slice pk1 nb1 ck1, .slice pl1 nc1 cl1] 28) (.cells #[.int .i64 0, .int .i64 0] 31)
      have HL1 := Lib.hid (laid_two w2 #[.int .i64 sw1, .int .i64 st1, .int .i64 sk1, .int .i64 so1, .int .i32 hy1, .slice pc1 na1 cc1, .slice pk1 nb1 ck1, .slice pl1 nc1 cl1] 28 (.cells #[.int .i64 0, .int .i64 0] 31))
      have HF1 := Lib.hid (flt_two7 w2 (.cells #[.int .i64 sw1, .int .i64 st1, .int .i64 sk1, .int .i64 so1, .int .i32 hy1, .slice pc1 na1 cc1, .slice pk1 nb1 ck1, .slice pl1 nc1 cl1] 28) 0 0)
      have HB := Lib.hid (below_step HB.out hbs1)
      have HM := Lib.hid (HM.out.mono hbs1)
      have HL := Lib.hid (HL.out.mono hbs1)
      have HM1 := Lib.hid (HM1.out.mono hbs1)
      clear hbs1
      go_wp2_with fail
      refine (HFx.out _ HB.out).mono ?_
      rintro e w3 ⟨rfl, hb3⟩
      have HB := Lib.hid (below_step HB.out hb3)
      have HM := Lib.hid (HM.out.mono hb3)
      have HL := Lib.hid (HL.out.mono hb3)
      have HM1 := Lib.hid (HM1.out.mono hb3)
      have HL1 := Lib.hid (HL1.out.mono hb3)
      have HF1 := Lib.hid (HF1.out.mono hb3)
      clear hb3
      have y0 := HL.out.at_ 0 _ rfl
      have y1 := HL.out.at_ 1 _ rfl
      have y2 := HL.out.at_ 2 _ rfl
      have y3 := HL.out.at_ 3 _ rfl
      have y4 := HL.out.at_ 4 _ rfl
      have y5 := HL.out.at_ 5 _ rfl
      have y6 := HL.out.at_ 6 _ rfl
      have y7 := HL.out.at_ 7 _ rfl
      go_wp2_with fail
      refine (cCh.out _ _ HM.out).mono ?_
      rintro e w4 ⟨rfl, hb4⟩
      have HB := Lib.hid (below_step HB.out hb4)
      have HM := Lib.hid (HM.out.mono hb4)
      have HL := Lib.hid (HL.out.mono hb4)
      have HM1 := Lib.hid (HM1.out.mono hb4)
      have HL1 := Lib.hid (HL1.out.mono hb4)
      have HF1 := Lib.hid (HF1.out.mono hb4)
      clear hb4
      clear y0 y1 y2 y3 y4 y5 y6 y7
      have y0 := HL.out.at_ 0 _ rfl
      have y1 := HL.out.at_ 1 _ rfl
      have y2 := HL.out.at_ 2 _ rfl
      have y3 := HL.out.at_ 3 _ rfl
      have y4 := HL.out.at_ 4 _ rfl
      have y5 := HL.out.at_ 5 _ rfl
      have y6 := HL.out.at_ 6 _ rfl
      have y7 := HL.out.at_ 7 _ rfl
      have z0 := HL1.out.at_ 0 _ rfl
      have z1 := HL1.out.at_ 1 _ rfl
      have z2 := HL1.out.at_ 2 _ rfl
      have z3 := HL1.out.at_ 3 _ rfl
      have z4 := HL1.out.at_ 4 _ rfl
      have z5 := HL1.out.at_ 5 _ rfl
      have z6 := HL1.out.at_ 6 _ rfl
      have z7 := HL1.out.at_ 7 _ rfl
      have f0 := HF1.out.c0
      go_wp2_with fail
      refine (is_self _ _ m _ HM1.out HM.out).mono ?_
      rintro e w5 ⟨rfl, hb5⟩
      have HB := Lib.hid (below_step HB.out hb5)
      clear hb5 f0
      clear y0 y1 y2 y3 y4 y5 y6 y7
      clear z0 z1 z2 z3 z4 z5 z6 z7
      go_wp2_with fail
      refine (cPs.out _ HB.out).mono ?_
      rintro e w6 ⟨rfl, hb6⟩
      have HB := Lib.hid (below_step HB.out hb6)
      clear hb6
      have hbs2 := below_two w6 (.cells #[.int .i64 0, .int .i64 0, .int .i64 0, .int .i64 0, .int .i32 0, .slice none 0 0, .slice none 0 0, .slice none 0 0] 28) (.cells #[.int .i64 xc, .int .i64 xa] 31)
      have HL2 := Lib.hid (laid_two w6 #[.int .i64 0, .int .i64 0, .int .i64 0, .int .i64 0, .int .i32 0, .slice none 0 0, .slice none 0 0, .slice none 0 0] 28 (.cells #[.int .i64 xc, .int .i64 xa] 31))
      have HF2 := Lib.hid (flt_two7 w6 (.cells #[.int .i64 0, .int .i64 0, .int .i64 0, .int .i64 0, .int .i32 0, .slice none 0 0, .slice none 0 0, .slice none 0 0] 28) xc xa)
      have HB := Lib.hid (below_step HB.out hbs2)
      clear hbs2
      have g0 := HF2.out.c0
      go_wp2
      go_ret
      exact ⟨rfl, HB.out⟩
  | false =>
    rw [hmay] at cCh
    have hpx : Mt.parse X = .inr (70, 0) := by rw [HX.out, Mt.print_not hmay]; exact parse_0
    have cPx := Lib.hid (fun w' hw1 => (cPx.out w' hw1).mono fun e w2 h => parse_inr hpx h)
    unfold zeroM at cPx
    simp only [Bool.false_eq_true, if_false] at cCh
    clear hpx hmay
    rcases hps with ⟨b, hb⟩ | ⟨xc, xa, hx⟩
    · have cPs := Lib.hid (fun w' hw1 => (cPs.out w' hw1).mono fun e w2 h => parse_inl hb h)
      have hbm := may_of_parse hb
      have cCb := Lib.hid (fun v w h => HC.out.check v b w h)
      have cPb := Lib.hid (fun v w' (hb : Below w.heap.size w w') h => HC.out.print v b w' (below_step HW.out hb) h)
      rw [hbm] at cCb
      simp only [if_true] at cCb
      rw [(Mt.print_parse hb).2, str_of] at cPb
      clear hb hbm
      go_enter Tryz.func5, Tryz.ntmps5
      have y0 := HL.out.at_ 0 _ rfl
      have y1 := HL.out.at_ 1 _ rfl
      have y2 := HL.out.at_ 2 _ rfl
      have y3 := HL.out.at_ 3 _ rfl
      have y4 := HL.out.at_ 4 _ rfl
      have y5 := HL.out.at_ 5 _ rfl
      have y6 := HL.out.at_ 6 _ rfl
      have y7 := HL.out.at_ 7 _ rfl
      go_wp2_with fail
      refine (cPr.out _ _ HB.out HM.out).mono ?_
      rintro e w1 ⟨rfl, hb1⟩
      have HB := Lib.hid (below_step HB.out hb1)
      have HM := Lib.hid (HM.out.mono hb1)
      have HL := Lib.hid (HL.out.mono hb1)
      clear y0 y1 y2 y3 y4 y5 y6 y7
      clear hb1
      go_wp2_with fail
      refine (cPx.out _ HB.out).mono ?_
      rintro e w2 ⟨rfl, hb2⟩
      have HB := Lib.hid (below_step HB.out hb2)
      have HM := Lib.hid (HM.out.mono hb2)
      have HL := Lib.hid (HL.out.mono hb2)
      clear hb2
      have hbs1 := below_two w2 (.cells #[.int .i64 0, .int .i64 0, .int .i64 0, .int .i64 0, .int .i32 0, .slice none 0 0, .slice none 0 0, .slice none 0 0] 28) (.cells #[.int .i64 70, .int .i64 0] 31)
      have HL1 := Lib.hid (laid_two w2 #[.int .i64 0, .int .i64 0, .int .i64 0, .int .i64 0, .int .i32 0, .slice none 0 0, .slice none 0 0, .slice none 0 0] 28 (.cells #[.int .i64 70, .int .i64 0] 31))
      have HF1 := Lib.hid (flt_two7 w2 (.cells #[.int .i64 0, .int .i64 0, .int .i64 0, .int .i64 0, .int .i32 0, .slice none 0 0, .slice none 0 0, .slice none 0 0] 28) 70 0)
      have HB := Lib.hid (below_step HB.out hbs1)
      have HM := Lib.hid (HM.out.mono hbs1)
      have HL := Lib.hid (HL.out.mono hbs1)
      clear hbs1
      go_wp2_with fail
      refine (HFx.out _ HB.out).mono ?_
      rintro e w3 ⟨rfl, hb3⟩
      have HB := Lib.hid (below_step HB.out hb3)
      have HM := Lib.hid (HM.out.mono hb3)
      have HL := Lib.hid (HL.out.mono hb3)
      clear hb3
      have y0 := HL.out.at_ 0 _ rfl
      have y1 := HL.out.at_ 1 _ rfl
      have y2 := HL.out.at_ 2 _ rfl
      have y3 := HL.out.at_ 3 _ rfl
      have y4 := HL.out.at_ 4 _ rfl
      have y5 := HL.out.at_ 5 _ rfl
      have y6 := HL.out.at_ 6 _ rfl
      have y7 := HL.out.at_ 7 _ rfl
      go_wp2_with fail
      refine (cCh.out _ _ HM.out).mono ?_
      rintro e w4 ⟨rfl, hb4⟩
      have HB := Lib.hid (below_step HB.out hb4)
      clear hb4
      clear y0 y1 y2 y3 y4 y5 y6 y7
      go_wp2_with fail
      refine (cPs.out _ HB.out).mono ?_
      rintro e w6 ⟨v2, rfl, hm2, hb6⟩
      obtain ⟨sw2, st2, sk2, so2, hy2, pc2, na2, cc2, pk2, nb2, ck2, pl2, nc2, cl2, rfl⟩ := met_open hm2
      have HB := Lib.hid (below_step HB.out hb6)
      have HM2 := Lib.hid hm2
      clear hb6 hm2
      have hbs2 := below_two w6 (.cells #[.int .i64 sw2, .int .i64 st2, .int .i64 sk2, .int .i64 so2, .int .i32 hy2, .slice pc2 na2 cc2, .slice pk2 nb2 ck2, .slice pl2 nc2 cl2] 28) (.cells #[.int .i64 0, .int .i64 0] 31)
      have HL2 := Lib.hid (laid_two w6 #[.int .i64 sw2, .int .i64 st2, .int .i64 sk2, .int .i64 so2, .int .i32 hy2, .slice pc2 na2 cc2, .slice pk2 nb2 ck2, .slice pl2 nc2 cl2] 28 (.cells #[.int .i64 0, .int .i64 0] 31))
      have HF2 := Lib.hid (flt_two7 w6 (.cells #[.int .i64 sw2, .int .i64 st2, .int .i64 sk2, .int .i64 so2, .int .i32 hy2, .slice pc2 na2 cc2, .slice pk2 nb2 ck2, .slice pl2 nc2 cl2] 28) 0 0)
      have HB := Lib.hid (below_step HB.out hbs2)
      have HM2 := Lib.hid (HM2.out.mono hbs2)
      clear hbs2
      have u0 := HL2.out.at_ 0 _ rfl
      have u1 := HL2.out.at_ 1 _ rfl
      have u2 := HL2.out.at_ 2 _ rfl
      have u3 := HL2.out.at_ 3 _ rfl
      have u4 := HL2.out.at_ 4 _ rfl
      have u5 := HL2.out.at_ 5 _ rfl
      have u6 := HL2.out.at_ 6 _ rfl
      have u7 := HL2.out.at_ 7 _ rfl
      have g0 := HF2.out.c0
      go_wp2_with fail
      refine (cCb.out _ _ HM2.out).mono ?_
      rintro e w7 ⟨rfl, hb7⟩
      have HB := Lib.hid (below_step HB.out hb7)
      have HM2 := Lib.hid (HM2.out.mono hb7)
      have HL2 := Lib.hid (HL2.out.mono hb7)
      clear hb7 g0
      clear u0 u1 u2 u3 u4 u5 u6 u7
      have u0 := HL2.out.at_ 0 _ rfl
      have u1 := HL2.out.at_ 1 _ rfl
      have u2 := HL2.out.at_ 2 _ rfl
      have u3 := HL2.out.at_ 3 _ rfl
      have u4 := HL2.out.at_ 4 _ rfl
      have u5 := HL2.out.at_ 5 _ rfl
      have u6 := HL2.out.at_ 6 _ rfl
      have u7 := HL2.out.at_ 7 _ rfl
      go_wp2_with fail
      refine (cPb.out _ _ HB.out HM2.out).mono ?_
      rintro e w8 ⟨rfl, hb8⟩
      have HB := Lib.hid (below_step HB.out hb8)
      clear hb8
      clear u0 u1 u2 u3 u4 u5 u6 u7
      go_wp2
      go_ret
      exact ⟨rfl, HB.out⟩
    · have cPs := Lib.hid (fun w' hw1 => (cPs.out w' hw1).mono fun e w2 h => parse_inr hx h)
      unfold zeroM at cPs
      have hxc : xc ≠ 0 := by rcases Mt.parse_codes hx with h | h <;> simp_all <;> omega
      have hx1 := bne7 hxc
      have hx2 : (xc != 0) = true := by simp only [bne, hx1]; rfl
      clear hx hxc
      go_enter Tryz.func5, Tryz.ntmps5
      have y0 := HL.out.at_ 0 _ rfl
      have y1 := HL.out.at_ 1 _ rfl
      have y2 := HL.out.at_ 2 _ rfl
      have y3 := HL.out.at_ 3 _ rfl
      have y4 := HL.out.at_ 4 _ rfl
      have y5 := HL.out.at_ 5 _ rfl
      have y6 := HL.out.at_ 6 _ rfl
      have y7 := HL.out.at_ 7 _ rfl
      go_wp2_with fail
      refine (cPr.out _ _ HB.out HM.out).mono ?_
      rintro e w1 ⟨rfl, hb1⟩
      have HB := Lib.hid (below_step HB.out hb1)
      have HM := Lib.hid (HM.out.mono hb1)
      have HL := Lib.hid (HL.out.mono hb1)
      clear y0 y1 y2 y3 y4 y5 y6 y7
      clear hb1
      go_wp2_with fail
      refine (cPx.out _ HB.out).mono ?_
      rintro e w2 ⟨rfl, hb2⟩
      have HB := Lib.hid (below_step HB.out hb2)
      have HM := Lib.hid (HM.out.mono hb2)
      have HL := Lib.hid (HL.out.mono hb2)
      clear hb2
      have hbs1 := below_two w2 (.cells #[.int .i64 0, .int .i64 0, .int .i64 0, .int .i64 0, .int .i32 0, .slice none 0 0, .slice none 0 0, .slice none 0 0] 28) (.cells #[.int .i64 70, .int .i64 0] 31)
      have HL1 := Lib.hid (laid_two w2 #[.int .i64 0, .int .i64 0, .int .i64 0, .int .i64 0, .int .i32 0, .slice none 0 0, .slice none 0 0, .slice none 0 0] 28 (.cells #[.int .i64 70, .int .i64 0] 31))
      have HF1 := Lib.hid (flt_two7 w2 (.cells #[.int .i64 0, .int .i64 0, .int .i64 0, .int .i64 0, .int .i32 0, .slice none 0 0, .slice none 0 0, .slice none 0 0] 28) 70 0)
      have HB := Lib.hid (below_step HB.out hbs1)
      have HM := Lib.hid (HM.out.mono hbs1)
      have HL := Lib.hid (HL.out.mono hbs1)
      clear hbs1
      go_wp2_with fail
      refine (HFx.out _ HB.out).mono ?_
      rintro e w3 ⟨rfl, hb3⟩
      have HB := Lib.hid (below_step HB.out hb3)
      have HM := Lib.hid (HM.out.mono hb3)
      have HL := Lib.hid (HL.out.mono hb3)
      clear hb3
      have y0 := HL.out.at_ 0 _ rfl
      have y1 := HL.out.at_ 1 _ rfl
      have y2 := HL.out.at_ 2 _ rfl
      have y3 := HL.out.at_ 3 _ rfl
      have y4 := HL.out.at_ 4 _ rfl
      have y5 := HL.out.at_ 5 _ rfl
      have y6 := HL.out.at_ 6 _ rfl
      have y7 := HL.out.at_ 7 _ rfl
      go_wp2_with fail
      refine (cCh.out _ _ HM.out).mono ?_
      rintro e w4 ⟨rfl, hb4⟩
      have HB := Lib.hid (below_step HB.out hb4)
      clear hb4
      clear y0 y1 y2 y3 y4 y5 y6 y7
      go_wp2_with fail
      refine (cPs.out _ HB.out).mono ?_
      rintro e w6 ⟨rfl, hb6⟩
      have HB := Lib.hid (below_step HB.out hb6)
      clear hb6
      have hbs2 := below_two w6 (.cells #[.int .i64 0, .int .i64 0, .int .i64 0, .int .i64 0, .int .i32 0, .slice none 0 0, .slice none 0 0, .slice none 0 0] 28) (.cells #[.int .i64 xc, .int .i64 xa] 31)
      have HL2 := Lib.hid (laid_two w6 #[.int .i64 0, .int .i64 0, .int .i64 0, .int .i64 0, .int .i32 0, .slice none 0 0, .slice none 0 0, .slice none 0 0] 28 (.cells #[.int .i64 xc, .int .i64 xa] 31))
      have HF2 := Lib.hid (flt_two7 w6 (.cells #[.int .i64 0, .int .i64 0, .int .i64 0, .int .i64 0, .int .i32 0, .slice none 0 0, .slice none 0 0, .slice none 0 0] 28) xc xa)
      have HB := Lib.hid (below_step HB.out hbs2)
      clear hbs2
      have g0 := HF2.out.c0
      go_wp2
      go_ret
      exact ⟨rfl, HB.out⟩
end Go.Proofs.YtmehldekebphfaaGreatDoor

namespace Go.Proofs.YtmehldekebphfaaGreatDoor
open Go.ChangeShapes Go.WideShapes Go.ChangeAt Go.RowKit

set_option maxRecDepth 100000 in
/-- WHAT THE WALK GIVES, FOR EVERY ARGUMENT OF SUCH A BULK AND EVERY WORLD. -/
theorem metricBack_contract (H : Type) (enc : TypeId × Value → H) (W : World) (base : Nat) (args : Array Value) (ds gs : List (DataW H)) (before : List MemPlace)
    (hval : ∀ (j : Nat) t v, Tryz.f5.params[j]? = some t → args[j]? = some v → Value.okWide Tryz.prog W .any base t v)
    (hW : DataW.Whole enc Tryz.prog Tryz.f5.params.toList Rows.metricBackSpec.vars false W args.toList ds gs before) (hk : Rows.uptoSmall H (ds ++ gs) = true) (C : MetW W) :
    Calls Tryz.prog 5 args W fun e W' => ∃ v, e = .returned v ∧ Rows.metricBackSpec.post enc Tryz.prog Tryz.f5 false true false false W args v W' := by
  have hW' := hW
  have hlt : ∀ x ∈ before, x.block < W.heap.size := fun x hx => hW'.lt x hx
  obtain ⟨p, q, hA0, hV, hbe, hfz, hnd⟩ := hW
  have hA : DataW.TrodAll enc Tryz.prog W 0 (fun _ => true) true Tryz.f5.params.toList args.toList ds p := hA0
  rw [Tryz.params5] at hA hval
  have hAk := hA
  obtain ⟨v0, vs0, d0, ds0, p0, q0, hargs, rfl, rfl, h0, r0⟩ := trodAll_cons hA
  obtain ⟨v1, vs1, d1, ds1, p1, q1, rfl, rfl, rfl, h1, r1⟩ := trodAll_cons r0
  obtain ⟨rfl, rfl, rfl⟩ := trodAll_nil r1
  obtain rfl : args = #[v0, v1] := by cases args; simp_all
  obtain ⟨rfl, rfl⟩ := trodVars_none hV
  have hb : Rows.uptoBulkAll ([d0, d1] ++ []) ≤ 1048576 := of_decide_eq_true hk
  simp only [List.append_nil, Rows.uptoBulkAll] at hb
  obtain ⟨cs0, hv0, _⟩ := okWide_struct uMt7 (hval 0 _ v0 rfl rfl)
  obtain ⟨m0, hm0, hT0, hbulk0⟩ := met_in h0 hv0
  obtain ⟨x1, rfl, rfl, _, _⟩ := Go.ChangeMaps.open_string Tryz.underlying9 (hval 1 _ v1 rfl rfl) h1
  have hsz1 := Lib.size_eq x1
  try simp only [Rows.uptoBulk] at hb
  refine (lawBack7 C v0 m0 x1 (by omega) W (Below.refl _ _) hm0).mono fun e W' ⟨he, hb⟩ => ?_
  subst he
  obtain ⟨D1, hD1⟩ : ∃ D, D = (DataW.lit (H := H) (.string x1.data.toList)) := ⟨_, rfl⟩
  rw [← hD1] at hAk hW'
  have e1 : Rows.metricBackSpec.fn H ([d0, D1] ++ []) = { results := [.lit (.bool true)], args := [d0, D1] } := rfl
  refine ⟨_, rfl, [d0, D1], [], before, [], p0 ++ (p1 ++ []), [], hW', ?_, ?_, ?_, hb.frame _, fun h => by cases h⟩
  · rw [e1]; exact trodAll_mk1 (shut_bool Tryz.underlying4 true)
  · rw [e1, Tryz.params5]
    exact args_kept laidOut hb _ _ _ _ (by
      intro t ht
      have : t = 28 ∨ t = 9 := by simpa using ht
      rcases this with rfl | rfl
      all_goals exact ⟨by kernel_rfl, of_decide_eq_true (by kernel_rfl)⟩) hAk (fun x hx => hlt x (by rw [hbe]; exact List.mem_append_left _ hx))
  · rw [e1]; rfl

theorem metricBack_laid_met (os : Os) : laidMet Tryz.prog Rows.metricBackRow.laid ((World.laidAll Tryz.prog os laidList).forCall (fun _ _ => 0) ⟨#[], #[.agg #[.int .i64 0, .int .i64 0, .int .i64 0, .int .i64 0, .int .i32 0, .slice none 0 0, .slice none 0 0, .slice none 0 0], .string ByteArray.empty], []⟩).memory :=
  laidMet_laidAll _ (by kernel_rfl) (by kernel_rfl)
theorem metricBack_reads (os : Os) {H : Type} (enc : TypeId × Value → H) : ∃ places, DataW.whole enc Tryz.prog ((World.laidAll Tryz.prog os laidList).forCall (fun _ _ => 0) ⟨#[], #[.agg #[.int .i64 0, .int .i64 0, .int .i64 0, .int .i64 0, .int .i32 0, .slice none 0 0, .slice none 0 0, .slice none 0 0], .string ByteArray.empty], []⟩).memory Tryz.f5.params.toList Rows.metricBackSpec.vars false #[Value.agg #[.int .i64 0, .int .i64 0, .int .i64 0, .int .i64 0, .int .i32 0, .slice none 0 0, .slice none 0 0, .slice none 0 0], .string ByteArray.empty].toList 8 = some ([.agg [.agg [.lit (.int .i64 0), .lit (.int .i64 0), .lit (.int .i64 0), .lit (.int .i64 0)], .lit (.int .i32 0), .nil, .nil, .nil], .lit (.string [])], [], places) :=
  ⟨[], by kernel_rfl⟩

set_option maxRecDepth 100000 in
theorem metricBack_lifted (os : Os) (started : os.Started) (H : Type) (enc : TypeId × Value → H) (F : Stop.Interp) :
    ReturnsInHanded {} Tryz.checked os 5 .any ((Rows.OpenSpec.upto Rows.metricBackSpec).preRow enc Tryz.prog Tryz.f5 Rows.metricBackUptoRow.domain false Rows.metricBackUptoRow.laid) (((Rows.OpenSpec.upto Rows.metricBackSpec).at F).post enc Tryz.prog Tryz.f5 false true false false) := by
  obtain ⟨places, hx⟩ := metricBack_reads os enc
  refine returnsInHanded_of_row (C := Tryz.checked) (s := Rows.OpenSpec.upto Rows.metricBackSpec) own started (by kernel_rfl) Tryz.func5
    (witness_row_atRef (enc := enc) (C := Tryz.checked) false (World.laidAll Tryz.prog os laidList) #[.agg #[.int .i64 0, .int .i64 0, .int .i64 0, .int .i64 0, .int .i32 0, .slice none 0 0, .slice none 0 0, .slice none 0 0], .string ByteArray.empty] (World.laidAll_os _ _ _) (by kernel_rfl) (by kernel_rfl) (by kernel_rfl)
      (OpenSpec.preRow_of_cond 8 hx (by kernel_rfl) (fun k hk => by cases hk; kernel_rfl) (by kernel_rfl) (metricBack_laid_met os))) ?_
  intro W base args ds gs before hval hW _ hcond _ hL hsh _
  exact metricBack_contract H enc W base args ds gs before hval hW (hcond _ rfl) (metW_of_laid hL hsh)

theorem metricBack_upto_said : Rows.MetricBackUptoSaid :=
  OpenClaim.holds_of_cond 5 Tryz.f5 rfl rfl rfl rfl rfl rfl rfl ⟨rfl, rfl, rfl, rfl, rfl⟩ rfl rfl rfl rfl rfl (by kernel_rfl) Tryz.func5 (by kernel_rfl)
    (of_decide_eq_true (by kernel_rfl)) (by unfold Func.isWrapper; first | (rw [if_pos (by decide +kernel)]; kernel_rfl) | (rw [if_neg (by decide +kernel)]; exact ⟨rfl, rfl⟩))
    (fun os started H enc _ F => by rw [OpenClaim.pre_eq_preRow]; exact metricBack_lifted os started H enc F)

/-- No parameter wants a stand-in; what the program's own reckoning says of looks: what the card asks. -/
theorem metricBack_plain (f : FuncId) (fn : Func) (hf : Tryz.pinned.checked.prog.funcNamed "variorum/variorumlaw07.MetricBack" = some f) (hfn : Tryz.pinned.checked.prog.funcs[f]? = some fn) :
    true = Tryz.pinned.checked.prog.looks [] ∧ ∀ (j : Nat) t, fn.params[j]? = some t → Tryz.pinned.checked.prog.wantsStandIn t = false := by
  obtain rfl : f = 5 := Option.some.inj ((show Tryz.prog.funcNamed "variorum/variorumlaw07.MetricBack" = some 5 by kernel_rfl).symm.trans hf) |>.symm
  obtain rfl : fn = Tryz.f5 := (Option.some.inj (Tryz.func5.symm.trans hfn)).symm
  refine ⟨by kernel_rfl, fun j t ht => ?_⟩
  rw [Tryz.params5] at ht
  have : t = 28 ∨ t = 9 := by simpa using Array.mem_of_getElem? ht
  rcases this with rfl | rfl
  · exact (show Tryz.prog.wantsStandIn 28 = false by kernel_rfl)
  · exact (show Tryz.prog.wantsStandIn 9 = false by kernel_rfl)

/-- THE CARD. -/
theorem metricBack_upto_card : Rows.MetricBackUptoCardSaid :=
  Claim7.holds_tied_plain_at .later [] _ _ _ _ metricBack_upto_said (fun _ h => by cases h) (by kernel_rfl) (fun _ h => by cases h) metricBackUpto_row_tie rfl ⟨rfl, rfl⟩ (by kernel_rfl) rfl metricBack_plain (by kernel_rfl)
end Go.Proofs.YtmehldekebphfaaGreatDoor
