/-
  The answers that the document fixes: the statements' 'fixed' returns true.
-/
import Derived.Test.YtjaaajlghlcioaaDoorRefPrint
import Derived.Test.YtjaaajlghlcioaaDoorRefParse2
set_option linter.unusedVariables false
set_option linter.unusedSimpArgs false
namespace Go.Proofs.YtjaaajlghlcioaaDoor
open Go.RowKit

theorem fix_parse (w : World) : Calls Tryd.prog 21 #[.string ⟨#[48, 46, 53]⟩] w (Ret (Two 32768 true) w) := by
  have h := parse_any ⟨#[48, 46, 53]⟩ (by decide) w
  have e1 : parseV (⟨#[48, 46, 53]⟩ : ByteArray).data.toList = 32768 := by decide +kernel
  have e2 : parseB (⟨#[48, 46, 53]⟩ : ByteArray).data.toList = true := by decide +kernel
  rw [e1, e2] at h
  exact h
theorem fix_over (w : World) : Calls Tryd.prog 14 #[.int .i64 (-7), .int .i64 2] w (Ret (Three (-3) (-1) true) w) := by
  have h := over_any (-7) 2 w
  have e1 : Sc.overQ (-7) 2 = -3 := by decide +kernel
  have e2 : Sc.overR (-7) 2 = -1 := by decide +kernel
  have e3 : Sc.overB (-7) 2 = true := by decide +kernel
  rw [e1, e2, e3] at h
  exact h
theorem fix_part (w : World) : Calls Tryd.prog 16 #[.int .i64 7, .int .i64 1, .int .i64 2] w (Ret (Two 4 true) w) := by
  have h := part_any 7 1 2 w
  have e1 : Sc.partV 7 1 2 = 4 := by decide +kernel
  have e2 : Sc.partB 7 1 2 = true := by decide +kernel
  rw [e1, e2] at h
  exact h
theorem fix_add (w : World) : Calls Tryd.prog 8 #[.int .i64 1073741823, .int .i64 1] w (Ret (Two 0 false) w) := by
  have h := add_any 1073741823 1 w
  have e1 : Sc.addV 1073741823 1 = 0 := by decide +kernel
  have e2 : Sc.addB 1073741823 1 = false := by decide +kernel
  rw [e1, e2] at h
  exact h.mono fun _ _ h => h.ret
theorem fix_print1 (w : World) (hE : Env w) : Calls Tryd.prog 23 #[.int .i64 65536] w (Ret (.string ⟨#[49, 46, 48]⟩) w) := by
  have h := print_any 65536 w hE
  have e : Sc.print 65536 = [49, 46, 48] := by
    rw [print_yes (by decide)]
    have e1 : (Sc.size 65536 / 65536).toNat = 1 := by decide
    have e2 : (Sc.size 65536 % 65536).toNat = 0 := by decide
    rw [e1, e2, Lib.decDigits_one (by decide)]
    decide +kernel
  rw [e] at h
  exact h
theorem fix_print2 (w : World) (hE : Env w) : Calls Tryd.prog 23 #[.int .i64 1] w (Ret (.string ⟨#[48, 46, 48, 48, 48, 48, 50]⟩) w) := by
  have h := print_any 1 w hE
  have e : Sc.print 1 = [48, 46, 48, 48, 48, 48, 50] := by
    rw [print_yes (by decide)]
    have e1 : (Sc.size 1 / 65536).toNat = 0 := by decide
    have e2 : (Sc.size 1 % 65536).toNat = 1 := by decide
    rw [e1, e2, Lib.decDigits_one (by decide)]
    decide +kernel
  rw [e] at h
  exact h

set_option maxHeartbeats 1000000 in
set_option maxRecDepth 100000 in
theorem fixed_any (w : World) (hE : Env w) : Calls Tryd.prog 18 #[] w (Ret (.bool true) w) := by
  have HE := Lib.hid hE
  clear hE
  go_enter Tryd.func18, Tryd.ntmps18
  go_wp2_with fail
  refine (fix_parse _).mono ?_
  rintro e w1 ⟨rfl, hb1⟩
  have HB1 := Lib.hid hb1
  clear hb1
  go_wp2_with fail
  refine (fix_over _).mono ?_
  rintro e w2 ⟨rfl, hb2⟩
  have HB2 := Lib.hid (below_step HB1.out hb2)
  clear hb2
  go_wp2_with fail
  refine (fix_part _).mono ?_
  rintro e w3 ⟨rfl, hb3⟩
  have HB3 := Lib.hid (below_step HB2.out hb3)
  clear hb3
  go_wp2_with fail
  refine (fix_add _).mono ?_
  rintro e w4 ⟨rfl, hb4⟩
  have HB4 := Lib.hid (below_step HB3.out hb4)
  clear hb4
  go_wp2_with fail
  refine (fix_print1 _ (HE.out.mono HB4.out)).mono ?_
  rintro e w5 ⟨rfl, hb5⟩
  have HB5 := Lib.hid (below_step HB4.out hb5)
  clear hb5
  go_wp2_with fail
  refine (fix_print2 _ (HE.out.mono HB5.out)).mono ?_
  rintro e w6 ⟨rfl, hb6⟩
  have HB6 := Lib.hid (below_step HB5.out hb6)
  clear hb6
  go_wp2_with fail
  refine (fits_any _ true (by decide) _).mono ?_
  rintro e w7 ⟨rfl, rfl⟩
  go_wp2_with fail
  go_ret
  exact ⟨rfl, HB6.out⟩
end Go.Proofs.YtjaaajlghlcioaaDoor
