/-
  The law SiglaLists: what any keys are compacted to, and any text is expanded to, or what is wrong with it, is as the document says.
-/
import Derived.Test.YtlgfmkmpopcciaaDoorFixed13
import Derived.Test.YtlgfmkmpopcciaaDoorFltEq
import Derived.LaidEql
import Derived.Test.YtlgfmkmpopcciaaDoorRefExpand13
import Derived.Test.YtlgfmkmpopcciaaDoorRefCompact13
set_option linter.unusedVariables false
set_option linter.unusedSimpArgs false
namespace Go.Proofs.YtlgfmkmpopcciaaDoor
open Go.RowKit Go.Extern.Stop Go.Stop Go.Extern

theorem f24 : (Tryd.prog.fieldsOf 26).toList.map (fun f => (f.name, f.type, f.offset)) = [("Code", 24, 0), ("At", 3, 1)] := by kernel_rfl
theorem u24 : Tryd.prog.underlying 26 = some (.struct (Tryd.prog.fieldsOf 26)) := by kernel_rfl
theorem s24 : Tryd.prog.stoodInHeld 26 = false := by kernel_rfl
theorem p22 (c a : Int) (w : World) : (part 24 #[.int .i64 c, .int .i64 a] 0).run Tryd.prog w = .ok (.int .i64 c) w := by kernel_rfl
theorem eqin24 (d : Nat) (c a code z : Int) (w : World) : (Op.equalIn (d + 2) 26 (.agg #[.int .i64 c, .int .i64 a]) (.agg #[.int .i64 code, .int .i64 z])).run Tryd.prog w = .ok ((c == code) && (a == z)) w := by
  rw [run_equalIn_agg w (d + 1) 26 _ _ u24 s24]
  obtain ⟨f1, h1, e1⟩ := eqFields_names (d + 1) #[.int .i64 c, .int .i64 a] #[.int .i64 code, .int .i64 z] _ _ _ _ _ f24 (by decide)
  obtain ⟨f2, h2, e2⟩ := eqFields_names (d + 1) #[.int .i64 c, .int .i64 a] #[.int .i64 code, .int .i64 z] _ _ _ _ _ h1 (by decide)
  obtain rfl : f2 = [] := by simpa using h2
  rw [e1]
  simp only [Sem.run_bind, p22, Result.andThen_ok]
  rw [run_equalIn_int w d 24 .i64 .i64 c code Tryd.underlying24]
  cases c == code <;> simp [e2, Op.eqFields, p3, run_equalIn_int w d 3 .i64 .i64 a z Tryd.underlying3]
  by_cases h : a = z <;> simp [h]
theorem eqFlt13 (c z : Int) (w : World) : (binOp .eql 26 (.agg #[.int .i64 c, .int .i64 z]) (.agg #[.int .i64 c, .int .i64 z])).run Tryd.prog w = .ok (.bool true) w := by
  rw [run_eql_struct, eqin24 9998]
  simp [Result.andThen]
set_option maxHeartbeats 8000000 in
set_option maxRecDepth 100000 in
theorem siglaLists_any (v kv : Value) (t : List Sg.Sig) (sel : List (List UInt8)) (s : List UInt8) (m : Int) (w : World) (h : SgsAt w v t) (hs : SgSmall t) (hk : TxsAt w kv sel) (hks : TxSmall sel) (hsl : s.length ≤ 281474976710656) (hm : w.cell? ⟨0, 0, none⟩ = some (.int .i64 m)) :
    Calls Tryd.prog 4 #[v, kv, .string (str s)] w (Ret (.bool true) w) := by
  have HA := Lib.hid h
  have HKv := Lib.hid hk
  have HF := Lib.hid (fun wx (hb : Below w.heap.size w wx) => fixed_any m wx (cell_below hb hm))
  have HM := Lib.hid (fun wx (hb : Below w.heap.size w wx) => cell_below hb hm)
  have HC := Lib.hid (fun wx (hx : SgsAt wx v t) (hy : TxsAt wx kv sel) => compact_any v kv t sel wx hx hs hy hks)
  have HC2 := Lib.hid (fun wx (hx : SgsAt wx v t) (hy : TxsAt wx kv sel) => refCompact_any v kv t sel wx hx hs hy)
  have HEx := Lib.hid (fun wx (hx : SgsAt wx v t) (hl : s.length ≤ 1000) hmm => expand_any v t s m wx hx hs (by omega) hmm)
  have HEx2 := Lib.hid (fun wx (hx : SgsAt wx v t) (hl : s.length ≤ 1000) => refExpand_any v t s wx hx hs (by omega))
  obtain ⟨⟨a, cp, rfl, hcap⟩, hmx, hd1⟩ := h
  obtain ⟨⟨ka, kcp, rfl, hkcap⟩, hkm, hd2⟩ := hk
  have hza : t.length ≤ 9223372036854775807 := by unfold maxLen at hmx; omega
  have hzb : sel.length ≤ 9223372036854775807 := by unfold maxLen at hkm; omega
  obtain ⟨n, hn⟩ : ∃ n, n = t.length := ⟨_, rfl⟩
  obtain ⟨ns, hns⟩ : ∃ n, n = sel.length := ⟨_, rfl⟩
  rw [← hn] at HA HC HC2 HEx HEx2 hza ⊢
  rw [← hns] at HKv HC HC2 hzb ⊢
  unfold CompPost at HC HC2
  unfold ExpPost at HEx HEx2
  generalize Sg.compact t sel = R1 at HC HC2
  generalize Sg.expand t s = R2 at HEx HEx2
  obtain ⟨C, c, z⟩ := R1
  obtain ⟨L, c', z'⟩ := R2
  simp only [flt] at HC HC2 HEx HEx2
  have hE1 := fun wx => eqFlt13 c z wx
  have hE2 := fun wx => eqFlt13 c' z' wx
  clear hcap hmx hkcap hkm hd1 hd2 hm hs hks hn hns
  by_cases h1 : n ≤ 200
  · have g1 : ¬ ((200 : Int) < (n : Int)) := by omega
    by_cases h2 : ns ≤ 200
    · have g2 : ¬ ((200 : Int) < (ns : Int)) := by omega
      by_cases h3 : s.length ≤ 1000
      · have g3 : ¬ ((1000 : Int) < ((str s).size : Int)) := by rw [str_size13]; omega
        go_enter Tryd.func4, Tryd.ntmps4
        go_wp2_with fail
        refine (HC.out _ HA.out HKv.out).mono ?_
        rintro e w1 ⟨rfl, hb⟩
        have HB := Lib.hid hb
        clear hb
        have hb := below_alloc w1 (.cells #[.int .i64 c, .int .i64 z] 26)
        have HO1 := Lib.hid (flt_obj w1 c z)
        replace HB := Lib.hid (below_step HB.out hb)
        clear hb
        go_wp2_with fail
        refine (HC2.out _ (SlcAt.mono HA.out HB.out) (SlcAt.mono HKv.out HB.out)).mono ?_
        rintro e w2 ⟨rfl, hb⟩
        replace HB := Lib.hid (below_step HB.out hb)
        replace HO1 := Lib.hid (HO1.out.mono hb)
        clear hb
        have hb := below_alloc w2 (.cells #[.int .i64 c, .int .i64 z] 26)
        have HO2 := Lib.hid (flt_obj w2 c z)
        replace HB := Lib.hid (below_step HB.out hb)
        replace HO1 := Lib.hid (HO1.out.mono hb)
        clear hb
        go_wp2_with fail
        refine (HEx.out _ (SlcAt.mono HA.out HB.out) h3 (HM.out _ HB.out)).mono ?_
        rintro e w3 ⟨u1, rfl, ho, hb⟩
        have HU1 := Lib.hid (ho.at txC_len)
        replace HB := Lib.hid (below_step HB.out hb)
        replace HO1 := Lib.hid (HO1.out.mono hb)
        replace HO2 := Lib.hid (HO2.out.mono hb)
        clear hb ho
        have hb := below_alloc w3 (.cells #[.int .i64 c', .int .i64 z'] 26)
        have HO3 := Lib.hid (flt_obj w3 c' z')
        replace HB := Lib.hid (below_step HB.out hb)
        replace HO1 := Lib.hid (HO1.out.mono hb)
        replace HO2 := Lib.hid (HO2.out.mono hb)
        replace HU1 := Lib.hid (SlcAt.mono HU1.out hb)
        clear hb
        go_wp2_with fail
        refine (HEx2.out _ (SlcAt.mono HA.out HB.out) h3).mono ?_
        rintro e w4 ⟨u2, rfl, ho, hb⟩
        have HU2 := Lib.hid (ho.at txC_len)
        replace HB := Lib.hid (below_step HB.out hb)
        replace HO1 := Lib.hid (HO1.out.mono hb)
        replace HO2 := Lib.hid (HO2.out.mono hb)
        replace HO3 := Lib.hid (HO3.out.mono hb)
        replace HU1 := Lib.hid (SlcAt.mono HU1.out hb)
        clear hb ho
        have hb := below_alloc w4 (.cells #[.int .i64 c', .int .i64 z'] 26)
        have HO4 := Lib.hid (flt_obj w4 c' z')
        replace HB := Lib.hid (below_step HB.out hb)
        replace HO1 := Lib.hid (HO1.out.mono hb)
        replace HO2 := Lib.hid (HO2.out.mono hb)
        replace HO3 := Lib.hid (HO3.out.mono hb)
        replace HU1 := Lib.hid (SlcAt.mono HU1.out hb)
        replace HU2 := Lib.hid (SlcAt.mono HU2.out hb)
        clear hb
        go_wp2_with fail
        refine (HF.out _ HB.out).mono ?_
        rintro e w5 ⟨rfl, hb⟩
        replace HB := Lib.hid (below_step HB.out hb)
        replace HO1 := Lib.hid (HO1.out.mono hb)
        replace HO2 := Lib.hid (HO2.out.mono hb)
        replace HO3 := Lib.hid (HO3.out.mono hb)
        replace HO4 := Lib.hid (HO4.out.mono hb)
        replace HU1 := Lib.hid (SlcAt.mono HU1.out hb)
        replace HU2 := Lib.hid (SlcAt.mono HU2.out hb)
        clear hb
        obtain ⟨q1, q2⟩ := two_of13 HO1.out
        obtain ⟨q3, q4⟩ := two_of13 HO2.out
        go_wp2_with fail
        clear q1 q2 q3 q4
        refine (texts_self _ _ _ _ HU1.out HU2.out).mono ?_
        rintro e w6 ⟨rfl, nd, rfl⟩
        have hb := below_drew w5 nd
        replace HB := Lib.hid (below_step HB.out hb)
        obtain ⟨q1, q2⟩ := two_of13 (HO3.out.mono hb)
        obtain ⟨q3, q4⟩ := two_of13 (HO4.out.mono hb)
        generalize w5.drewN nd = w6 at *
        clear hb
        go_wp2
        go_ret
        exact ⟨rfl, HB.out⟩
      · have g3 : ((1000 : Int) < ((str s).size : Int)) := by rw [str_size13]; omega
        go_enter Tryd.func4, Tryd.ntmps4
        go_wp2_with fail
        refine (HF.out _ (Below.refl _ _)).mono ?_
        rintro e w1 ⟨rfl, hb⟩
        have HB := Lib.hid hb
        clear hb
        go_wp2
        go_ret
        exact ⟨rfl, HB.out⟩
    · have g2 : ((200 : Int) < (ns : Int)) := by omega
      go_enter Tryd.func4, Tryd.ntmps4
      go_wp2_with fail
      refine (HF.out _ (Below.refl _ _)).mono ?_
      rintro e w1 ⟨rfl, hb⟩
      have HB := Lib.hid hb
      clear hb
      go_wp2
      go_ret
      exact ⟨rfl, HB.out⟩
  · have g1 : ((200 : Int) < (n : Int)) := by omega
    go_enter Tryd.func4, Tryd.ntmps4
    go_wp2_with fail
    refine (HF.out _ (Below.refl _ _)).mono ?_
    rintro e w1 ⟨rfl, hb⟩
    have HB := Lib.hid hb
    clear hb
    go_wp2
    go_ret
    exact ⟨rfl, HB.out⟩
end Go.Proofs.YtlgfmkmpopcciaaDoor
