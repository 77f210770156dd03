/-
  The walk of the law UtfEncodes: it returns true.
-/
import Derived.Test.YtacghcpkkfhfhaaDoorFixed4
set_option linter.unusedVariables false
set_option linter.unusedSimpArgs false
namespace Go.Proofs.YtacghcpkkfhfhaaDoor
open Go.RowKit

set_option maxHeartbeats 1000000 in
set_option maxRecDepth 100000 in
theorem lawEncodes_any (v : Value) (xs : List Int) (hn : 4 * xs.length ≤ 140737488355328) (c : Int) (w : World) (hT : Tabs w) (h : IntsAt .i32 w v xs) : Calls Tryd.prog 4 #[v, .int .i32 c] w (Ret (.bool true) w) := by
  have HT := Lib.hid hT
  clear hT
  have H := Lib.hid h
  have HE := Lib.hid (fun w h => encode_any v xs hn w h)
  have HR := Lib.hid (fun w h => refEncode_any v xs (by omega) w h)
  clear h hn
  go_enter Tryd.func4, Tryd.ntmps4
  go_wp2_with fail
  refine (HE.out _ H.out).mono ?_
  rintro e w1 ⟨rfl, hb1⟩
  have HB1 := Lib.hid hb1
  clear hb1
  go_wp2_with fail
  refine (HR.out _ (H.out.mono HB1.out)).mono ?_
  rintro e w2 ⟨rfl, hb2⟩
  have HB2 := Lib.hid (below_step HB1.out hb2)
  clear hb2
  go_wp2_with fail
  refine (fixed_any _ (HT.out.mono HB2.out)).mono ?_
  rintro e w3 ⟨rfl, hb3⟩
  have HB3 := Lib.hid (below_step HB2.out hb3)
  clear hb3
  go_wp2_with fail
  refine (letter_any _ _).mono ?_
  rintro e w4 ⟨rfl, hb4⟩
  have HB4 := Lib.hid (below_step HB3.out hb4)
  clear hb4
  go_wp2_with fail
  refine (refLetter_any _ _).mono ?_
  rintro e w' ⟨rfl, rfl⟩
  go_wp2_with fail
  go_ret
  exact ⟨rfl, HB4.out⟩
end Go.Proofs.YtacghcpkkfhfhaaDoor
