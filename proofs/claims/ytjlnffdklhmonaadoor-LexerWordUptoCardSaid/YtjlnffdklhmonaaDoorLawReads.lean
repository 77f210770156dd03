/-
  The walks of the laws LexerReads, LexerPrints and LexerWord: they return true.
-/
import Derived.Test.YtjlnffdklhmonaaDoorFixed5
set_option linter.unusedVariables false
set_option linter.unusedSimpArgs false
namespace Go.Proofs.YtjlnffdklhmonaaDoor
open Go.RowKit

theorem same_same (v1 v2 : Value) (ts : List Tok) (w : World) (h1 : ToksAt w v1 ts) (h2 : ToksAt w v2 ts) : Calls Tryd.prog 13 #[v1, v2] w (Ret (.bool true) w) := by
  have h := same_any v1 v2 ts ts w h1 h2
  rw [decide_eq_true rfl] at h
  exact h

set_option maxHeartbeats 2000000 in
set_option maxRecDepth 100000 in
theorem lawReads_any (s : ByteArray) (hs : s.size * 32 ≤ 140737488355328) (w : World) (hT : Tabs w) : Calls Tryd.prog 3 #[.string s] w (Ret (.bool true) w) := by
  have HT := Lib.hid hT
  obtain ⟨c, hcd⟩ : ∃ c, c = Lx.lexC s.data.toList := ⟨_, rfl⟩
  obtain ⟨a, had⟩ : ∃ a, a = Lx.lexA s.data.toList := ⟨_, rfl⟩
  have HD := Lib.hid (fun w hT => lex_is s hs _ c a rfl hcd.symm had.symm w hT)
  have HR : Hid (∀ w, Calls Tryd.prog 11 #[.string s] w (LexIs (Lx.lexL s.data.toList) c a w)) := Lib.hid (fun w => (refLex_any s hs w).mono fun _ _ h => lex_post h rfl hcd.symm had.symm)
  have q1 : ∀ wx, (binOp .eql 25 (.agg #[.int .i64 c, .int .i64 a]) (.agg #[.int .i64 c, .int .i64 a])).run Tryd.prog wx = .ok (.bool true) wx := fun wx => by rw [eqFlt]; simp
  clear hT hcd had
  go_enter Tryd.func3, Tryd.ntmps3
  go_wp2_with fail
  refine (HD.out _ HT.out).mono ?_
  rintro e w1 ⟨v1, rfl, h1, hb1⟩
  have HB1 := Lib.hid (below_step hb1 (below_alloc w1 (.cells #[.int .i64 c, .int .i64 a] 25)))
  have HF1 := Lib.hid (flt_new w1 c a)
  have HV1 := Lib.hid (h1.mono (below_alloc w1 (.cells #[.int .i64 c, .int .i64 a] 25)))
  clear h1 hb1
  go_wp2_with fail
  refine (HR.out _).mono ?_
  rintro e w2 ⟨v2, rfl, h2, hb2⟩
  have hb2' := below_step hb2 (below_alloc w2 (.cells #[.int .i64 c, .int .i64 a] 25))
  have HB2 := Lib.hid (below_step HB1.out hb2')
  have HF2 := Lib.hid (HF1.out.mono hb2')
  have HG2 := Lib.hid (flt_new w2 c a)
  have HV2 := Lib.hid (HV1.out.mono hb2')
  have HU2 := Lib.hid (h2.mono (below_alloc w2 (.cells #[.int .i64 c, .int .i64 a] 25)))
  clear h2 hb2 hb2'
  go_wp2_with fail
  refine (fixed_any _ (HT.out.mono HB2.out)).mono ?_
  rintro e w3 ⟨rfl, hb3⟩
  have HB3 := Lib.hid (below_step HB2.out hb3)
  have HF3 := Lib.hid (HF2.out.mono hb3)
  have HG3 := Lib.hid (HG2.out.mono hb3)
  have HV3 := Lib.hid (HV2.out.mono hb3)
  have HU3 := Lib.hid (HU2.out.mono hb3)
  clear hb3
  go_wp2_with fail
  refine (same_same v1 v2 _ _ HV3.out.at HU3.out.at).mono ?_
  rintro e w4 ⟨rfl, hb4⟩
  have HB4 := Lib.hid (below_step HB3.out hb4)
  have HF4 := Lib.hid (HF3.out.mono hb4)
  have HG4 := Lib.hid (HG3.out.mono hb4)
  clear hb4
  have x0 := HF4.out.c0
  have x1 := HF4.out.c1
  have y0 := HG4.out.c0
  have y1 := HG4.out.c1
  go_wp2_with fail
  go_ret
  exact ⟨rfl, HB4.out⟩

set_option maxHeartbeats 2000000 in
set_option maxRecDepth 100000 in
theorem lawPrints_any (v : Value) (ts : List Tok) (s : ByteArray) (hr : Lx.room ts ≤ 17592186044416) (hs : s.size ≤ 17592186044416) (w : World) (hT : Tabs w) (h : ToksAt w v ts) : Calls Tryd.prog 4 #[v, .string s] w (Ret (.bool true) w) := by
  have HT := Lib.hid hT
  have H := Lib.hid h
  obtain ⟨m, hm⟩ : ∃ m, m = Lx.may ts := ⟨_, rfl⟩
  obtain ⟨P, hP⟩ : ∃ P, P = str (Lx.print ts) := ⟨_, rfl⟩
  obtain ⟨E, hE⟩ : ∃ E, E = str (Lx.escape s.data.toList) := ⟨_, rfl⟩
  have HM : Hid (∀ w, Tabs w → ToksAt w v ts → Calls Tryd.prog 14 #[v] w (Ret (.bool m) w)) := Lib.hid (fun w hT h => by rw [hm]; exact may_any v ts hr w hT h)
  have HM2 : Hid (∀ w, ToksAt w v ts → Calls Tryd.prog 15 #[v] w (Ret (.bool m) w)) := Lib.hid (fun w h => by rw [hm]; exact refMay_any v ts (fun t ht => by have := Lx.text_room ht; omega) w h)
  have HP : Hid (∀ w, Tabs w → ToksAt w v ts → Calls Tryd.prog 16 #[v] w (Ret (.string P) w)) := Lib.hid (fun w hT h => by rw [hP]; exact print_any v ts hr w hT h)
  have HP2 : Hid (∀ w, ToksAt w v ts → Calls Tryd.prog 17 #[v] w (Ret (.string P) w)) := Lib.hid (fun w h => by rw [hP]; exact refPrint_any v ts hr w h)
  have HE : Hid (∀ w, Tabs w → Calls Tryd.prog 18 #[.string s] w (Ret (.string E) w)) := Lib.hid (fun w hT => by rw [hE]; exact escape_any s hs w hT)
  have HE2 : Hid (∀ w, Calls Tryd.prog 19 #[.string s] w (Is (.string E) w)) := Lib.hid (fun w => by rw [hE]; exact refEscapeAll_any s (by omega) w)
  clear hT h hm hP hE hr hs
  go_enter Tryd.func4, Tryd.ntmps4
  go_wp2_with fail
  refine (fixed_any _ HT.out).mono ?_
  rintro e w1 ⟨rfl, hb1⟩
  have HB1 := Lib.hid hb1
  clear hb1
  go_wp2_with fail
  refine (HM.out _ (HT.out.mono HB1.out) (H.out.mono HB1.out)).mono ?_
  rintro e w2 ⟨rfl, hb2⟩
  have HB2 := Lib.hid (below_step HB1.out hb2)
  clear hb2
  go_wp2_with fail
  refine (HM2.out _ (H.out.mono HB2.out)).mono ?_
  rintro e w3 ⟨rfl, hb3⟩
  have HB3 := Lib.hid (below_step HB2.out hb3)
  clear hb3
  have em : (m == m) = true := by simp
  go_wp2_with fail
  refine (HP.out _ (HT.out.mono HB3.out) (H.out.mono HB3.out)).mono ?_
  rintro e w4 ⟨rfl, hb4⟩
  have HB4 := Lib.hid (below_step HB3.out hb4)
  clear hb4
  go_wp2_with fail
  refine (HP2.out _ (H.out.mono HB4.out)).mono ?_
  rintro e w5 ⟨rfl, hb5⟩
  have HB5 := Lib.hid (below_step HB4.out hb5)
  clear hb5
  go_wp2_with fail
  refine (HE.out _ (HT.out.mono HB5.out)).mono ?_
  rintro e w6 ⟨rfl, hb6⟩
  have HB6 := Lib.hid (below_step HB5.out hb6)
  clear hb6
  go_wp2_with fail
  refine (HE2.out _).mono ?_
  rintro e w7 ⟨rfl, rfl⟩
  go_wp2_with fail
  go_ret
  exact ⟨rfl, HB6.out⟩

set_option maxHeartbeats 2000000 in
set_option maxRecDepth 100000 in
theorem lawWord_any (s : ByteArray) (hs : s.size ≤ 1099511627776) (w : World) (hT : Tabs w) : Calls Tryd.prog 9 #[.string s] w (Ret (.bool true) w) := by
  have HT := Lib.hid hT
  have hel := Lx.esc_len s.data.toList.length s.data.toList (Nat.le_refl _)
  rw [← Lib.size_eq] at hel
  obtain ⟨E, hE⟩ : ∃ E, E = str (Lx.escape s.data.toList) := ⟨_, rfl⟩
  obtain ⟨c, hcd⟩ : ∃ c, c = Lx.lexC (Lx.escape s.data.toList) := ⟨_, rfl⟩
  obtain ⟨a, had⟩ : ∃ a, a = Lx.lexA (Lx.escape s.data.toList) := ⟨_, rfl⟩
  obtain ⟨L, hL⟩ : ∃ L, L = Lx.lexL (Lx.escape s.data.toList) := ⟨_, rfl⟩
  have HE : Hid (∀ w, Tabs w → Calls Tryd.prog 18 #[.string s] w (Ret (.string E) w)) := Lib.hid (fun w hT => by rw [hE]; exact escape_any s (by omega) w hT)
  have HD : Hid (∀ w, Tabs w → Calls Tryd.prog 10 #[.string E] w (LexIs L c a w)) := Lib.hid (fun w hT => by
    rw [hE]
    exact lex_is (str (Lx.escape s.data.toList)) (by rw [str_size]; omega) L c a (by rw [str_data, hL]) (by rw [str_data, hcd]) (by rw [str_data, had]) w hT)
  have HM : Hid (∀ v w, Tabs w → ToksAt w v [⟨0, s.data.toList, 0⟩] → Calls Tryd.prog 14 #[v] w (Ret (.bool (Lx.mayT ⟨0, s.data.toList, 0⟩)) w)) := Lib.hid (fun v w hT h => by
    have h2 := may_any v [⟨0, s.data.toList, 0⟩] (by unfold Lx.room; simp; omega) w hT h
    have e : Lx.may [⟨0, s.data.toList, 0⟩] = Lx.mayT ⟨0, s.data.toList, 0⟩ := by unfold Lx.may; rw [List.all_cons]; simp
    rw [e] at h2
    exact h2)
  have HK : Hid (∀ wx : World, ToksAt (wx.alloc (.cells #[.int .i64 0, .string s, .int .i64 0] 38)) (.slice (some ⟨wx.heap.size, 0, none⟩) 1 1) [⟨0, s.data.toList, 0⟩]) := Lib.hid (fun wx => by
    have h := toks_new wx [⟨0, s.data.toList, 0⟩] 38 (by unfold maxLen; simp)
    have e : (allCells [⟨0, s.data.toList, 0⟩]).toArray = #[.int .i64 0, .string (str s.data.toList), .int .i64 0] := rfl
    rw [e, str_of] at h
    exact h)
  cases hm : Lx.mayT ⟨0, s.data.toList, 0⟩ with
  | false =>
    rw [hm] at HM
    clear hT hE hcd had hL hm hel hs
    go_enter Tryd.func9, Tryd.ntmps9
    go_wp2_with fail
    refine (HE.out _ HT.out).mono ?_
    rintro e w1 ⟨rfl, hb1⟩
    have HB1 := Lib.hid hb1
    clear hb1
    go_wp2_with fail
    refine (HD.out _ (HT.out.mono HB1.out)).mono ?_
    rintro e w2 ⟨v2, rfl, h2, hb2⟩
    have HB2 := Lib.hid (below_step HB1.out (below_step hb2 (below_alloc w2 (.cells #[.int .i64 c, .int .i64 a] 25))))
    clear h2 hb2
    go_wp2_with fail
    refine (fixed_any _ (HT.out.mono HB2.out)).mono ?_
    rintro e w3 ⟨rfl, hb3⟩
    have HB3 := Lib.hid (below_step (below_step HB2.out hb3) (below_alloc w3 (.cells #[.int .i64 0, .string s, .int .i64 0] 38)))
    clear hb3
    go_wp2_with fail
    refine (HM.out _ _ (HT.out.mono HB3.out) (HK.out w3)).mono ?_
    rintro e w4 ⟨rfl, hb4⟩
    have HB4 := Lib.hid (below_step HB3.out hb4)
    clear hb4
    go_wp2_with fail
    refine (fixed_any _ (HT.out.mono HB4.out)).mono ?_
    rintro e w5 ⟨rfl, hb5⟩
    have HB5 := Lib.hid (below_step HB4.out hb5)
    clear hb5
    go_wp2_with fail
    go_ret
    exact ⟨rfl, HB5.out⟩
  | true =>
    obtain ⟨k1, k2⟩ := Lx.word_read hm
    have k3 := (Lx.lex_yes k1).2.2.2
    have hc0 : c = 0 := by rw [hcd]; exact k3.1
    have hL0 : L = [⟨0, s.data.toList, 0⟩] := by rw [hL]; exact k2
    rw [hm] at HM
    clear hT hE hcd had hL hm hel hs k1 k2 k3
    subst hc0 hL0
    go_enter Tryd.func9, Tryd.ntmps9
    go_wp2_with fail
    refine (HE.out _ HT.out).mono ?_
    rintro e w1 ⟨rfl, hb1⟩
    have HB1 := Lib.hid hb1
    clear hb1
    go_wp2_with fail
    refine (HD.out _ (HT.out.mono HB1.out)).mono ?_
    rintro e w2 ⟨v2, rfl, h2, hb2⟩
    have HB2 := Lib.hid (below_step HB1.out (below_step hb2 (below_alloc w2 (.cells #[.int .i64 0, .int .i64 a] 25))))
    have HF2 := Lib.hid (flt_new w2 0 a)
    have HV2 := Lib.hid (h2.mono (below_alloc w2 (.cells #[.int .i64 0, .int .i64 a] 25)))
    clear h2 hb2
    go_wp2_with fail
    refine (fixed_any _ (HT.out.mono HB2.out)).mono ?_
    rintro e w3 ⟨rfl, hb3⟩
    have hb3' := below_step hb3 (below_alloc w3 (.cells #[.int .i64 0, .string s, .int .i64 0] 38))
    have HB3 := Lib.hid (below_step HB2.out hb3')
    have HF3 := Lib.hid (HF2.out.mono hb3')
    have HV3 := Lib.hid (HV2.out.mono hb3')
    clear hb3 hb3'
    go_wp2_with fail
    refine (HM.out _ _ (HT.out.mono HB3.out) (HK.out w3)).mono ?_
    rintro e w4 ⟨rfl, hb4⟩
    have hb4' := below_step hb4 (below_alloc w4 (.cells #[.int .i64 0, .string s, .int .i64 0] 38))
    have HF4a := Lib.hid (HF3.out.mono hb4)
    have HB4 := Lib.hid (below_step HB3.out hb4')
    have HF4 := Lib.hid (HF3.out.mono hb4')
    have HV4 := Lib.hid (HV3.out.mono hb4')
    have x0 := HF4a.out.c0
    have y0 := HF4.out.c0
    clear hb4 hb4'
    go_wp2_with fail
    refine (same_same _ _ _ _ HV4.out.at (HK.out w4)).mono ?_
    rintro e w5 ⟨rfl, hb5⟩
    have HB5 := Lib.hid (below_step HB4.out hb5)
    clear hb5
    go_wp2_with fail
    go_ret
    exact ⟨rfl, HB5.out⟩
end Go.Proofs.YtjlnffdklhmonaaDoor
