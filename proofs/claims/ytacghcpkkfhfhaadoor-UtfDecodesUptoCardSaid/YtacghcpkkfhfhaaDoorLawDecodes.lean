/-
  The walk of the law UtfDecodes: it returns true.
-/
import Derived.Test.YtacghcpkkfhfhaaDoorFixed4
import Derived.Test.YtacghcpkkfhfhaaDoorRefDecode
set_option linter.unusedVariables false
set_option linter.unusedSimpArgs false
namespace Go.Proofs.YtacghcpkkfhfhaaDoor
open Go.RowKit

theorem refDecode_is (s : ByteArray) (hs : s.size * 8 ≤ 140737488355328) (xs : List Int) (c a : Int) (h1 : decL s.data.toList = xs) (h2 : decC s.data.toList = c) (h3 : decA s.data.toList = a) (w : World) :
    Calls Tryd.prog 9 #[.string s] w (DecIs xs c a w) := (refDecode_any s hs w).mono fun _ _ h => dec_post (l' := []) h h1 h2 h3

set_option maxHeartbeats 2000000 in
set_option maxRecDepth 100000 in
theorem lawDecodes_any (s : ByteArray) (hs : s.size * 8 ≤ 140737488355328) (w : World) (hT : Tabs w) : Calls Tryd.prog 3 #[.string s] w (Ret (.bool true) w) := by
  have HT := Lib.hid hT
  clear hT
  obtain ⟨c, hcd⟩ : ∃ c, c = decC s.data.toList := ⟨_, rfl⟩
  obtain ⟨a, had⟩ : ∃ a, a = decA s.data.toList := ⟨_, rfl⟩
  have HD := Lib.hid (fun w hT => decode_is s hs (decL s.data.toList) c a rfl hcd.symm had.symm w hT)
  have HR := Lib.hid (fun w => refDecode_is s hs (decL s.data.toList) c a rfl hcd.symm had.symm w)
  have HW := Lib.hid (fun w => refWalk_any s hs w)
  have q1 : ∀ wx, (binOp .eql 25 (.agg #[.int .i64 c, .int .i64 a]) (.agg #[.int .i64 c, .int .i64 a])).run Tryd.prog wx = .ok (.bool true) wx := fun wx => by rw [eqFlt]; simp
  have s0 : 0 ≤ (Ut.stop s.data.toList : Int) := by omega
  clear hcd had
  cases hc : Ut.clean s.data.toList with
  | true =>
    have HS := Lib.hid (fun w hT => starts_yes s hs hc w hT)
    have HX := Lib.hid (dec_yes hc)
    clear hc s0
    go_enter Tryd.func3, Tryd.ntmps3
    go_wp2_with fail
    refine (HD.out _ HT.out).mono ?_
    rintro e w1 ⟨v1, rfl, h1, hb1⟩
    have HB1 := Lib.hid (below_step hb1 (below_alloc w1 (.cells #[.int .i64 c, .int .i64 a] 25)))
    have HF1 := Lib.hid (flt_new w1 c a)
    have HV1 := Lib.hid (h1.mono (below_alloc w1 (.cells #[.int .i64 c, .int .i64 a] 25)))
    clear h1 hb1
    go_wp2_with fail
    refine (HR.out _).mono ?_
    rintro e w2 ⟨v2, rfl, h2, hb2⟩
    have hb2' := below_step hb2 (below_alloc w2 (.cells #[.int .i64 c, .int .i64 a] 25))
    have HB2 := Lib.hid (below_step HB1.out hb2')
    have HF2 := Lib.hid (HF1.out.mono hb2')
    have HG2 := Lib.hid (flt_new w2 c a)
    have HV2 := Lib.hid (HV1.out.mono hb2')
    have HU2 := Lib.hid (h2.mono (below_alloc w2 (.cells #[.int .i64 c, .int .i64 a] 25)))
    clear h2 hb2 hb2'
    go_wp2_with fail
    refine (HS.out _ (HT.out.mono HB2.out)).mono ?_
    rintro e w3 ⟨v3, rfl, h3, hb3⟩
    have HB3 := Lib.hid (below_step HB2.out hb3)
    have HF3 := Lib.hid (HF2.out.mono hb3)
    have HG3 := Lib.hid (HG2.out.mono hb3)
    have HV3 := Lib.hid (HV2.out.mono hb3)
    have HU3 := Lib.hid (HU2.out.mono hb3)
    have HS3 := Lib.hid h3
    clear h3 hb3
    go_wp2_with fail
    refine (HW.out _).mono ?_
    rintro e w4 ⟨v4, v5, rfl, h4, h5, hb4⟩
    rw [HX.out.2.2.2]
    have HB4 := Lib.hid (below_step HB3.out hb4)
    have HF4 := Lib.hid (HF3.out.mono hb4)
    have HG4 := Lib.hid (HG3.out.mono hb4)
    have HV4 := Lib.hid (HV3.out.mono hb4)
    have HU4 := Lib.hid (HU3.out.mono hb4)
    have HS4 := Lib.hid (HS3.out.kept hb4)
    have HP4 := Lib.hid h5
    clear h4 h5 hb4
    go_wp2_with fail
    refine (fixed_any _ (HT.out.mono HB4.out)).mono ?_
    rintro e w5 ⟨rfl, hb5⟩
    have HB5 := Lib.hid (below_step HB4.out hb5)
    have HF5 := Lib.hid (HF4.out.mono hb5)
    have HG5 := Lib.hid (HG4.out.mono hb5)
    have HV5 := Lib.hid (HV4.out.mono hb5)
    have HU5 := Lib.hid (HU4.out.mono hb5)
    have HS5 := Lib.hid (HS4.out.kept hb5)
    have HP5 := Lib.hid (HP4.out.kept hb5)
    clear hb5
    go_wp2_with fail
    refine (runes_same _ _ _ _ HV5.out.at HU5.out.at).mono ?_
    rintro e w6 ⟨rfl, hb6⟩
    have HB6 := Lib.hid (below_step HB5.out hb6)
    have HF6 := Lib.hid (HF5.out.mono hb6)
    have HG6 := Lib.hid (HG5.out.mono hb6)
    have HS6 := Lib.hid (HS5.out.kept hb6)
    have HP6 := Lib.hid (HP5.out.kept hb6)
    clear hb6
    have x0 := HF6.out.c0
    have x1 := HF6.out.c1
    have y0 := HG6.out.c0
    have y1 := HG6.out.c1
    go_wp2_with fail
    refine (ints_same _ _ _ _ HS6.out.at HP6.out.at).mono ?_
    rintro e w7 ⟨rfl, hb7⟩
    have HB7 := Lib.hid (below_step HB6.out hb7)
    clear hb7 x0 x1 y0 y1
    go_wp2_with fail
    go_ret
    exact ⟨rfl, HB7.out⟩
  | false =>
    have HS := Lib.hid (fun w hT => starts_no s hs hc w hT)
    have HX := Lib.hid (dec_no hc)
    obtain ⟨st, hst⟩ : ∃ st : Nat, st = Ut.stop s.data.toList := ⟨_, rfl⟩
    rw [← hst] at s0 HX
    clear hc hst
    go_enter Tryd.func3, Tryd.ntmps3
    go_wp2_with fail
    refine (HD.out _ HT.out).mono ?_
    rintro e w1 ⟨v1, rfl, h1, hb1⟩
    have HB1 := Lib.hid (below_step hb1 (below_alloc w1 (.cells #[.int .i64 c, .int .i64 a] 25)))
    have HF1 := Lib.hid (flt_new w1 c a)
    have HV1 := Lib.hid (h1.mono (below_alloc w1 (.cells #[.int .i64 c, .int .i64 a] 25)))
    clear h1 hb1
    go_wp2_with fail
    refine (HR.out _).mono ?_
    rintro e w2 ⟨v2, rfl, h2, hb2⟩
    have hb2' := below_step hb2 (below_alloc w2 (.cells #[.int .i64 c, .int .i64 a] 25))
    have HB2 := Lib.hid (below_step HB1.out hb2')
    have HF2 := Lib.hid (HF1.out.mono hb2')
    have HG2 := Lib.hid (flt_new w2 c a)
    have HV2 := Lib.hid (HV1.out.mono hb2')
    have HU2 := Lib.hid (h2.mono (below_alloc w2 (.cells #[.int .i64 c, .int .i64 a] 25)))
    clear h2 hb2 hb2'
    go_wp2_with fail
    refine (HS.out _ (HT.out.mono HB2.out)).mono ?_
    rintro e w3 ⟨v3, rfl, h3, hb3⟩
    have HB3 := Lib.hid (below_step HB2.out hb3)
    have HF3 := Lib.hid (HF2.out.mono hb3)
    have HG3 := Lib.hid (HG2.out.mono hb3)
    have HV3 := Lib.hid (HV2.out.mono hb3)
    have HU3 := Lib.hid (HU2.out.mono hb3)
    have HS3 := Lib.hid h3
    clear h3 hb3
    go_wp2_with fail
    refine (HW.out _).mono ?_
    rintro e w4 ⟨v4, v5, rfl, h4, h5, hb4⟩
    rw [HX.out.2.2.2]
    have HB4 := Lib.hid (below_step HB3.out hb4)
    have HF4 := Lib.hid (HF3.out.mono hb4)
    have HG4 := Lib.hid (HG3.out.mono hb4)
    have HV4 := Lib.hid (HV3.out.mono hb4)
    have HU4 := Lib.hid (HU3.out.mono hb4)
    have HS4 := Lib.hid (HS3.out.kept hb4)
    have HP4 := Lib.hid h5
    clear h4 h5 hb4
    go_wp2_with fail
    refine (fixed_any _ (HT.out.mono HB4.out)).mono ?_
    rintro e w5 ⟨rfl, hb5⟩
    have HB5 := Lib.hid (below_step HB4.out hb5)
    have HF5 := Lib.hid (HF4.out.mono hb5)
    have HG5 := Lib.hid (HG4.out.mono hb5)
    have HV5 := Lib.hid (HV4.out.mono hb5)
    have HU5 := Lib.hid (HU4.out.mono hb5)
    have HS5 := Lib.hid (HS4.out.kept hb5)
    have HP5 := Lib.hid (HP4.out.kept hb5)
    clear hb5
    go_wp2_with fail
    refine (runes_same _ _ _ _ HV5.out.at HU5.out.at).mono ?_
    rintro e w6 ⟨rfl, hb6⟩
    have HB6 := Lib.hid (below_step HB5.out hb6)
    have HF6 := Lib.hid (HF5.out.mono hb6)
    have HG6 := Lib.hid (HG5.out.mono hb6)
    have HS6 := Lib.hid (HS5.out.kept hb6)
    have HP6 := Lib.hid (HP5.out.kept hb6)
    clear hb6
    obtain ⟨⟨p3, cap3, e3, _⟩, _, _⟩ := HS6.out.at
    have e3 : v3 = .slice p3 0 cap3 := e3
    subst e3
    have x0 := HF6.out.c0
    have x1 := HF6.out.c1
    have y0 := HG6.out.c0
    have y1 := HG6.out.c1
    go_wp2_with fail
    go_ret
    exact ⟨rfl, HB6.out⟩
end Go.Proofs.YtacghcpkkfhfhaaDoor
