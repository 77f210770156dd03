/-
  The law SiglaKept: a table that may be is parsed from its print as it was; what is parsed may be, and is printed as it stood.
-/
import Derived.Test.YtlgfmkmpopcciaaDoorFixed13
import Derived.Test.YtlgfmkmpopcciaaDoorPrint13
set_option linter.unusedVariables false
set_option linter.unusedSimpArgs false
namespace Go.Proofs.YtlgfmkmpopcciaaDoor
open Go.RowKit

theorem may_small {t : List Sg.Sig} (h : Sg.may t = true) : SgSmall t := fun x hx => by
  obtain ⟨h1, h2⟩ := (Sg.may_yes h).2.1 x hx
  have := (Sg.keyOk_yes h1).2.2
  have := (Sg.nameOk_yes h2).2.2
  omega
theorem print_len (t : List Sg.Sig) : (Sg.print t).length ≤ 21000 := by
  unfold Sg.print
  split
  · rename_i h
    obtain ⟨h1, h2, _⟩ := Sg.may_yes h
    have := text_len t h2
    omega
  · simp
set_option maxHeartbeats 8000000 in
set_option maxRecDepth 100000 in
theorem siglaKept_any (v : Value) (t : List Sg.Sig) (s : List UInt8) (m : Int) (w : World) (h : SgsAt w v t) (hs : SgSmall t) (hsl : s.length ≤ 281474976710656) (hm : w.cell? ⟨0, 0, none⟩ = some (.int .i64 m)) :
    Calls Tryd.prog 6 #[v, .string (str s)] w (Ret (.bool true) w) := by
  have HA := Lib.hid h
  have HF := Lib.hid (fun wx (hb : Below w.heap.size w wx) => fixed_any m wx (cell_below hb hm))
  have HPr := Lib.hid (fun wx (hx : SgsAt wx v t) => print_any v t wx hx hs)
  have HMy := Lib.hid (fun wx (hx : SgsAt wx v t) => may_any v t wx hx hs)
  have HP1 := Lib.hid (fun wx => parse_any (Sg.print t) (by have := print_len t; omega) wx)
  have HP2 := Lib.hid (fun wx => parse_any s hsl wx)
  obtain ⟨⟨a, cp, rfl, hcap⟩, hmx, _⟩ := h
  have hza : t.length ≤ 9223372036854775807 := by unfold maxLen at hmx; omega
  obtain ⟨n, hn⟩ : ∃ n, n = t.length := ⟨_, rfl⟩
  rw [← hn] at HA HPr HMy hza ⊢
  clear hcap hmx hm hs hsl hn
  by_cases hlen : n ≤ 200
  · have g1 : ¬ ((200 : Int) < (n : Int)) := by omega
    unfold ParsePost at HP1 HP2
    obtain ⟨R2, hR2⟩ : ∃ R2, R2 = Sg.parse s := ⟨_, rfl⟩
    rw [← hR2] at HP2
    obtain ⟨T2, c2, z2⟩ := R2
    simp only [flt] at HP1 HP2
    go_enter Tryd.func6, Tryd.ntmps6
    go_wp2_with fail
    refine (HF.out _ (Below.refl _ _)).mono ?_
    rintro e w1 ⟨rfl, hb⟩
    have HB := Lib.hid hb
    clear hb
    go_wp2_with fail
    refine (HPr.out _ (SlcAt.mono HA.out HB.out)).mono ?_
    rintro e w2 ⟨rfl, hb⟩
    have HB := Lib.hid (below_step HB.out hb)
    clear hb
    go_wp2_with fail
    refine (HP1.out _).mono ?_
    rintro e w3 ⟨u1, rfl, ho1, hb⟩
    have HB := Lib.hid (below_step HB.out hb)
    have HU1 := Lib.hid (ho1.at sgC_len)
    clear hb ho1
    have hb := below_alloc w3 (.cells #[.int .i64 (Sg.parse (Sg.print t)).2.1, .int .i64 (Sg.parse (Sg.print t)).2.2] 26)
    have HO1 := Lib.hid (flt_obj w3 (Sg.parse (Sg.print t)).2.1 (Sg.parse (Sg.print t)).2.2)
    have HB := Lib.hid (below_step HB.out hb)
    have HU1 := Lib.hid (SlcAt.mono HU1.out hb)
    clear hb
    go_wp2_with fail
    refine (HP2.out _).mono ?_
    rintro e w4 ⟨u2, rfl, ho2, hb⟩
    have HB := Lib.hid (below_step HB.out hb)
    have HU2 := Lib.hid (ho2.at sgC_len)
    have HU1 := Lib.hid (SlcAt.mono HU1.out hb)
    have HO1 := Lib.hid (HO1.out.mono hb)
    clear hb ho2
    have hb := below_alloc w4 (.cells #[.int .i64 c2, .int .i64 z2] 26)
    have HO2 := Lib.hid (flt_obj w4 c2 z2)
    have HB := Lib.hid (below_step HB.out hb)
    have HU1 := Lib.hid (SlcAt.mono HU1.out hb)
    have HU2 := Lib.hid (SlcAt.mono HU2.out hb)
    have HO1 := Lib.hid (HO1.out.mono hb)
    clear hb
    cases hmay : Sg.may t with
    | false =>
      rw [hmay] at HMy
      by_cases hc : c2 = 0
      · subst hc
        obtain ⟨hm2, hp2, hz2⟩ := Sg.parse_ok hR2.symm
        subst hz2
        have HM2 := Lib.hid (fun wx hx => may_any u2 T2 wx hx (may_small hm2))
        have HPr2 := Lib.hid (fun wx hx => print_any u2 T2 wx hx (may_small hm2))
        rw [hm2] at HM2
        rw [hp2] at HPr2
        clear hmay hR2 hm2 hp2
        go_wp2_with fail
        refine (HMy.out _ (SlcAt.mono HA.out HB.out)).mono ?_
        rintro e w5 ⟨rfl, hb⟩
        have HB := Lib.hid (below_step HB.out hb)
        have HU2 := Lib.hid (SlcAt.mono HU2.out hb)
        obtain ⟨q2, _⟩ := two_of13 (HO2.out.mono hb)
        clear hb
        go_wp2_with fail
        refine (HM2.out _ HU2.out).mono ?_
        rintro e w6 ⟨rfl, hb⟩
        have HB := Lib.hid (below_step HB.out hb)
        have HU2 := Lib.hid (SlcAt.mono HU2.out hb)
        clear hb q2
        go_wp2_with fail
        refine (HPr2.out _ HU2.out).mono ?_
        rintro e w7 ⟨rfl, hb⟩
        have HB := Lib.hid (below_step HB.out hb)
        clear hb
        go_wp2
        go_ret
        exact ⟨rfl, HB.out⟩
      · have hcb : (c2 == 0) = false := by rw [beq_eq_false_iff_ne]; exact hc
        clear hmay hR2
        go_wp2_with fail
        refine (HMy.out _ (SlcAt.mono HA.out HB.out)).mono ?_
        rintro e w5 ⟨rfl, hb⟩
        have HB := Lib.hid (below_step HB.out hb)
        obtain ⟨q2, _⟩ := two_of13 (HO2.out.mono hb)
        clear hb
        go_wp2
        go_ret
        exact ⟨rfl, HB.out⟩
    | true =>
      rw [hmay] at HMy
      have hpp := Sg.parse_print hmay
      rw [hpp] at HO1 HU1
      by_cases hc : c2 = 0
      · subst hc
        obtain ⟨hm2, hp2, hz2⟩ := Sg.parse_ok hR2.symm
        subst hz2
        have HM2 := Lib.hid (fun wx hx => may_any u2 T2 wx hx (may_small hm2))
        have HPr2 := Lib.hid (fun wx hx => print_any u2 T2 wx hx (may_small hm2))
        rw [hm2] at HM2
        rw [hp2] at HPr2
        clear hmay hR2 hm2 hp2
        rw [hpp]
        clear hpp
        go_wp2_with fail
        refine (HMy.out _ (SlcAt.mono HA.out HB.out)).mono ?_
        rintro e w5 ⟨rfl, hb⟩
        have HB := Lib.hid (below_step HB.out hb)
        have HU2 := Lib.hid (SlcAt.mono HU2.out hb)
        have HU1 := Lib.hid (SlcAt.mono HU1.out hb)
        have HO2 := Lib.hid (HO2.out.mono hb)
        obtain ⟨q1, _⟩ := two_of13 (HO1.out.mono hb)
        clear hb
        go_wp2_with fail
        refine (same_self _ _ _ _ HU1.out (SlcAt.mono HA.out HB.out)).mono ?_
        rintro e w6 ⟨rfl, nd, rfl⟩
        have hb := below_drew w5 nd
        have HB := Lib.hid (below_step HB.out hb)
        have HU2 := Lib.hid (SlcAt.mono HU2.out hb)
        obtain ⟨q2, _⟩ := two_of13 (HO2.out.mono hb)
        generalize w5.drewN nd = w6 at *
        clear hb q1
        go_wp2_with fail
        refine (HM2.out _ HU2.out).mono ?_
        rintro e w7 ⟨rfl, hb⟩
        have HB := Lib.hid (below_step HB.out hb)
        have HU2 := Lib.hid (SlcAt.mono HU2.out hb)
        clear hb q2
        go_wp2_with fail
        refine (HPr2.out _ HU2.out).mono ?_
        rintro e w8 ⟨rfl, hb⟩
        have HB := Lib.hid (below_step HB.out hb)
        clear hb
        go_wp2
        go_ret
        exact ⟨rfl, HB.out⟩
      · have hcb : (c2 == 0) = false := by rw [beq_eq_false_iff_ne]; exact hc
        clear hmay hR2
        rw [hpp]
        clear hpp
        go_wp2_with fail
        refine (HMy.out _ (SlcAt.mono HA.out HB.out)).mono ?_
        rintro e w5 ⟨rfl, hb⟩
        have HB := Lib.hid (below_step HB.out hb)
        have HU1 := Lib.hid (SlcAt.mono HU1.out hb)
        have HO2 := Lib.hid (HO2.out.mono hb)
        obtain ⟨q1, _⟩ := two_of13 (HO1.out.mono hb)
        clear hb
        go_wp2_with fail
        refine (same_self _ _ _ _ HU1.out (SlcAt.mono HA.out HB.out)).mono ?_
        rintro e w6 ⟨rfl, nd, rfl⟩
        have hb := below_drew w5 nd
        have HB := Lib.hid (below_step HB.out hb)
        obtain ⟨q2, _⟩ := two_of13 (HO2.out.mono hb)
        generalize w5.drewN nd = w6 at *
        clear hb q1
        go_wp2
        go_ret
        exact ⟨rfl, HB.out⟩
  · have g1 : ((200 : Int) < (n : Int)) := by omega
    go_enter Tryd.func6, Tryd.ntmps6
    go_wp2_with fail
    refine (HF.out _ (Below.refl _ _)).mono ?_
    rintro e w1 ⟨rfl, hb⟩
    have HB := Lib.hid hb
    clear hb
    go_wp2_with fail
    refine (HF.out _ HB.out).mono ?_
    rintro e w2 ⟨rfl, hb⟩
    have HB := Lib.hid (below_step HB.out hb)
    clear hb
    go_wp2
    go_ret
    exact ⟨rfl, HB.out⟩
end Go.Proofs.YtlgfmkmpopcciaaDoor
