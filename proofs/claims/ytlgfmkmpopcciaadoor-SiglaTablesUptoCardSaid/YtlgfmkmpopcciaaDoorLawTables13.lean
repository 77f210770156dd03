/-
  The law SiglaTables: what table any text is of, or what is wrong with it first, its print, and where a key stands, is as the document says.
-/
import Derived.Test.YtlgfmkmpopcciaaDoorLawKept13
import Derived.Test.YtlgfmkmpopcciaaDoorRefParse13
import Derived.Test.YtlgfmkmpopcciaaDoorRefPrint13
import Derived.Test.YtlgfmkmpopcciaaDoorFltEq
import Derived.LaidEql
set_option linter.unusedVariables false
set_option linter.unusedSimpArgs false
namespace Go.Proofs.YtlgfmkmpopcciaaDoor
open Go.RowKit Go.Extern.Stop Go.Stop Go.Extern

theorem f24 : (Tryd.prog.fieldsOf 26).toList.map (fun f => (f.name, f.type, f.offset)) = [("Code", 24, 0), ("At", 3, 1)] := by kernel_rfl
theorem u24 : Tryd.prog.underlying 26 = some (.struct (Tryd.prog.fieldsOf 26)) := by kernel_rfl
theorem s24 : Tryd.prog.stoodInHeld 26 = false := by kernel_rfl
theorem p22 (c a : Int) (w : World) : (part 24 #[.int .i64 c, .int .i64 a] 0).run Tryd.prog w = .ok (.int .i64 c) w := by kernel_rfl
theorem eqin24 (d : Nat) (c a code z : Int) (w : World) : (Op.equalIn (d + 2) 26 (.agg #[.int .i64 c, .int .i64 a]) (.agg #[.int .i64 code, .int .i64 z])).run Tryd.prog w = .ok ((c == code) && (a == z)) w := by
  rw [run_equalIn_agg w (d + 1) 26 _ _ u24 s24]
  obtain ⟨f1, h1, e1⟩ := eqFields_names (d + 1) #[.int .i64 c, .int .i64 a] #[.int .i64 code, .int .i64 z] _ _ _ _ _ f24 (by decide)
  obtain ⟨f2, h2, e2⟩ := eqFields_names (d + 1) #[.int .i64 c, .int .i64 a] #[.int .i64 code, .int .i64 z] _ _ _ _ _ h1 (by decide)
  obtain rfl : f2 = [] := by simpa using h2
  rw [e1]
  simp only [Sem.run_bind, p22, Result.andThen_ok]
  rw [run_equalIn_int w d 24 .i64 .i64 c code Tryd.underlying24]
  cases c == code <;> simp [e2, Op.eqFields, p3, run_equalIn_int w d 3 .i64 .i64 a z Tryd.underlying3]
  by_cases h : a = z <;> simp [h]
theorem eqFlt13 (c z : Int) (w : World) : (binOp .eql 26 (.agg #[.int .i64 c, .int .i64 z]) (.agg #[.int .i64 c, .int .i64 z])).run Tryd.prog w = .ok (.bool true) w := by
  rw [run_eql_struct, eqin24 9998]
  simp [Result.andThen]
set_option maxHeartbeats 8000000 in
set_option maxRecDepth 100000 in
theorem siglaTables_any (v : Value) (t : List Sg.Sig) (s key : List UInt8) (m : Int) (w : World) (h : SgsAt w v t) (hs : SgSmall t) (hsl : s.length ≤ 4294967296) (hm : w.cell? ⟨0, 0, none⟩ = some (.int .i64 m)) :
    Calls Tryd.prog 3 #[v, .string (str s), .string (str key)] w (Ret (.bool true) w) := by
  have HA := Lib.hid h
  have HF := Lib.hid (fun wx (hb : Below w.heap.size w wx) => fixed_any m wx (cell_below hb hm))
  have HPr := Lib.hid (fun wx (hx : SgsAt wx v t) => print_any v t wx hx hs)
  have HPr2 := Lib.hid (fun wx (hx : SgsAt wx v t) => refPrint13_any v t wx hx hs)
  have HMy := Lib.hid (fun wx (hx : SgsAt wx v t) => may_any v t wx hx hs)
  have HMy2 := Lib.hid (fun wx (hx : SgsAt wx v t) => refMay13_any v t wx hx hs)
  have HFd := Lib.hid (fun wx (hx : SgsAt wx v t) => find_any v t key wx hx)
  have HFd2 := Lib.hid (fun wx (hx : SgsAt wx v t) => refFind_any v t key wx hx)
  have HP1 := Lib.hid (fun wx => parse_any s (by omega) wx)
  have HP2 := Lib.hid (fun wx => refParse_any s hsl wx)
  obtain ⟨⟨a, cp, rfl, hcap⟩, hmx, hd1⟩ := h
  have hza : t.length ≤ 9223372036854775807 := by unfold maxLen at hmx; omega
  obtain ⟨n, hn⟩ : ∃ n, n = t.length := ⟨_, rfl⟩
  rw [← hn] at HA HPr HPr2 HMy HMy2 HFd HFd2 hza ⊢
  generalize Sg.print t = P at HPr HPr2
  generalize Sg.may t = M at HMy HMy2
  generalize Sg.find t key = q at HFd HFd2
  clear hcap hmx hm hs hsl hn hd1
  by_cases hlen : n ≤ 200
  · have g1 : ¬ ((200 : Int) < (n : Int)) := by omega
    unfold ParsePost at HP1 HP2
    generalize Sg.parse s = R at HP1 HP2
    obtain ⟨T, c, z⟩ := R
    simp only [flt] at HP1 HP2
    have hE := fun wx => eqFlt13 c z wx
    go_enter Tryd.func3, Tryd.ntmps3
    go_wp2_with fail
    refine (HP1.out _).mono ?_
    rintro e w1 ⟨u1, rfl, ho, hb⟩
    have HB := Lib.hid hb
    have HU1 := Lib.hid (ho.at sgC_len)
    clear hb ho
    have hb := below_alloc w1 (.cells #[.int .i64 c, .int .i64 z] 26)
    have HO1 := Lib.hid (flt_obj w1 c z)
    replace HB := Lib.hid (below_step HB.out hb)
    replace HU1 := Lib.hid (SlcAt.mono HU1.out hb)
    clear hb
    go_wp2_with fail
    refine (HP2.out _).mono ?_
    rintro e w2 ⟨u2, rfl, ho, hb⟩
    replace HB := Lib.hid (below_step HB.out hb)
    replace HU1 := Lib.hid (SlcAt.mono HU1.out hb)
    replace HO1 := Lib.hid (HO1.out.mono hb)
    have HU2 := Lib.hid (ho.at sgC_len)
    clear hb ho
    have hb := below_alloc w2 (.cells #[.int .i64 c, .int .i64 z] 26)
    have HO2 := Lib.hid (flt_obj w2 c z)
    replace HB := Lib.hid (below_step HB.out hb)
    replace HU1 := Lib.hid (SlcAt.mono HU1.out hb)
    replace HU2 := Lib.hid (SlcAt.mono HU2.out hb)
    replace HO1 := Lib.hid (HO1.out.mono hb)
    clear hb
    go_wp2_with fail
    refine (HF.out _ HB.out).mono ?_
    rintro e w5 ⟨rfl, hb⟩
    replace HB := Lib.hid (below_step HB.out hb)
    replace HO1 := Lib.hid (HO1.out.mono hb)
    replace HO2 := Lib.hid (HO2.out.mono hb)
    replace HU1 := Lib.hid (SlcAt.mono HU1.out hb)
    replace HU2 := Lib.hid (SlcAt.mono HU2.out hb)
    clear hb
    go_wp2_with fail
    refine (same_self _ _ _ _ HU1.out HU2.out).mono ?_
    rintro e w6 ⟨rfl, nd, rfl⟩
    have hb := below_drew w5 nd
    replace HB := Lib.hid (below_step HB.out hb)
    obtain ⟨q1, q2⟩ := two_of13 (HO1.out.mono hb)
    obtain ⟨q3, q4⟩ := two_of13 (HO2.out.mono hb)
    generalize w5.drewN nd = w6 at *
    clear hb HO1 HO2 HU1 HU2
    go_wp2_with fail
    refine (HPr.out _ (SlcAt.mono HA.out HB.out)).mono ?_
    rintro e w5 ⟨rfl, hb⟩
    replace HB := Lib.hid (below_step HB.out hb)
    clear hb
    clear q1 q2 q3 q4
    go_wp2_with fail
    refine (HPr2.out _ (SlcAt.mono HA.out HB.out)).mono ?_
    rintro e w5 ⟨rfl, hb⟩
    replace HB := Lib.hid (below_step HB.out hb)
    clear hb
    go_wp2_with fail
    refine (HMy.out _ (SlcAt.mono HA.out HB.out)).mono ?_
    rintro e w5 ⟨rfl, hb⟩
    replace HB := Lib.hid (below_step HB.out hb)
    clear hb
    go_wp2_with fail
    refine (HMy2.out _ (SlcAt.mono HA.out HB.out)).mono ?_
    rintro e wy ⟨rfl, rfl⟩
    go_wp2_with fail
    refine (HFd.out _ (SlcAt.mono HA.out HB.out)).mono ?_
    rintro e w5 ⟨rfl, hb⟩
    replace HB := Lib.hid (below_step HB.out hb)
    clear hb
    go_wp2_with fail
    refine (HFd2.out _ (SlcAt.mono HA.out HB.out)).mono ?_
    rintro e wy ⟨rfl, rfl⟩
    go_wp2
    go_ret
    exact ⟨rfl, HB.out⟩
  · have g1 : ((200 : Int) < (n : Int)) := by omega
    go_enter Tryd.func3, Tryd.ntmps3
    go_wp2_with fail
    refine (HF.out _ (Below.refl _ _)).mono ?_
    rintro e w1 ⟨rfl, hb⟩
    have HB := Lib.hid hb
    clear hb
    go_wp2
    go_ret
    exact ⟨rfl, HB.out⟩
end Go.Proofs.YtlgfmkmpopcciaaDoor
