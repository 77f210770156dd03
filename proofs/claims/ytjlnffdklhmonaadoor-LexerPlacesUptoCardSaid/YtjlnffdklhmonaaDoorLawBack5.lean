/-
  The walk of the law LexerBack: it returns true.
-/
import Derived.Test.YtjlnffdklhmonaaDoorLawReads
set_option linter.unusedVariables false
set_option linter.unusedSimpArgs false
namespace Go.Proofs.YtjlnffdklhmonaaDoor
open Go.RowKit

theorem plain_of (v : Value) (ts us : List Tok) (hu : ts.map Lx.plain = us) (hn : ts.length * 32 ≤ 140737488355328) (w : World) (h : ToksAt w v ts) : Calls Tryd.prog 20 #[v] w (RowPost us w) := by
  rw [← hu]
  exact plain_any v ts hn w h
theorem print_reads (ts : List Tok) : Lx.lexC (Lx.print ts) = 0 ∧ Lx.lexA (Lx.print ts) = 0 ∧ (Lx.may ts = true → (Lx.lexL (Lx.print ts)).map Lx.plain = ts.map Lx.plain) := by
  cases h : Lx.may ts with
  | false =>
    rw [print_no h]
    exact ⟨by decide, by decide, fun e => by cases e⟩
  | true =>
    rw [print_yes h]
    obtain ⟨h1, h2⟩ := Lx.back ts h
    have h3 := (Lx.lex_yes h1).2.2.2
    exact ⟨h3.1, h3.2, fun _ => h2⟩
/-- the state of the walk behind its first half: a print of the tokens has been read, and held against them -/
def HalfPost (n : Nat) (w0 w : World) : Prop := Below n w0 w

set_option maxHeartbeats 4000000 in
set_option maxRecDepth 100000 in
theorem lawBack_any (v : Value) (ts : List Tok) (s : ByteArray) (hr : Lx.room ts ≤ 2199023255552) (hs : s.size ≤ 549755813888) (w : World) (hT : Tabs w) (h : ToksAt w v ts) : Calls Tryd.prog 5 #[v, .string s] w (Ret (.bool true) w) := by
  have HT := Lib.hid hT
  have H := Lib.hid h
  have hpl := print_len ts
  obtain ⟨p1, p2, p3⟩ := print_reads ts
  have hrl := room_len ts
  obtain ⟨m, hm⟩ : ∃ m, m = Lx.may ts := ⟨_, rfl⟩
  obtain ⟨P, hP⟩ : ∃ P, P = str (Lx.print ts) := ⟨_, rfl⟩
  obtain ⟨A, hA⟩ : ∃ A, A = Lx.lexL (Lx.print ts) := ⟨_, rfl⟩
  have hAr := lexL_room (Lx.print ts)
  rw [← hA] at hAr p3
  have hAl := room_len A
  have HAl : Hid (A.length * 32 ≤ 140737488355328) := Lib.hid (by omega)
  have HTl : Hid (ts.length * 32 ≤ 140737488355328) := Lib.hid (by omega)
  have HM : Hid (∀ w, Tabs w → ToksAt w v ts → Calls Tryd.prog 14 #[v] w (Ret (.bool m) w)) := Lib.hid (fun w hT h => by rw [hm]; exact may_any v ts (by omega) w hT h)
  have HP : Hid (∀ w, Tabs w → ToksAt w v ts → Calls Tryd.prog 16 #[v] w (Ret (.string P) w)) := Lib.hid (fun w hT h => by rw [hP]; exact print_any v ts (by omega) w hT h)
  have HD : Hid (∀ w, Tabs w → Calls Tryd.prog 10 #[.string P] w (LexIs A 0 0 w)) := Lib.hid (fun w hT => by
    rw [hP]
    exact lex_is _ (by rw [str_size]; omega) A 0 0 (by rw [str_data, hA]) (by rw [str_data, p1]) (by rw [str_data, p2]) w hT)
  have HPl : Hid (m = true → A.map Lx.plain = ts.map Lx.plain) := Lib.hid (fun e => p3 (by rw [← hm, e]))
  clear hT h hpl p1 p2 p3 hrl hm hP hA hAr hAl hr
  -- the second half
  obtain ⟨c, hcd⟩ : ∃ c, c = Lx.lexC s.data.toList := ⟨_, rfl⟩
  obtain ⟨a, had⟩ : ∃ a, a = Lx.lexA s.data.toList := ⟨_, rfl⟩
  obtain ⟨B, hB⟩ : ∃ B, B = Lx.lexL s.data.toList := ⟨_, rfl⟩
  have hBr := lexL_room s.data.toList
  rw [← hB, ← Lib.size_eq] at hBr
  have hBl := room_len B
  have HBl : Hid (B.length * 32 ≤ 140737488355328) := Lib.hid (by omega)
  have HS := Lib.hid (fun w hT => lex_is s (by omega) B c a hB.symm hcd.symm had.symm w hT)
  cases hok : Lx.lexOk s.data.toList with
  | false =>
    obtain ⟨k1, k2⟩ := Lx.lex_no hok
    have hB0 : B = [] := by rw [hB]; exact k1
    have hc0 : (c == 0) = false := by rw [hcd]; exact beq_eq_false_iff_ne.2 k2
    have hc1 : (c != 0) = true := by simp only [bne, hc0]; rfl
    clear hcd had hB hBr hBl k1 k2 hok hs
    subst hB0
    go_enter Tryd.func5, Tryd.ntmps5
    go_wp2_with fail
    refine (HP.out _ HT.out H.out).mono ?_
    rintro e w1 ⟨rfl, hb1⟩
    have HB1 := Lib.hid hb1
    clear hb1
    go_wp2_with fail
    refine (HD.out _ (HT.out.mono HB1.out)).mono ?_
    rintro e w2 ⟨v2, rfl, h2, hb2⟩
    have HB2 := Lib.hid (below_step HB1.out (below_step hb2 (below_alloc w2 (.cells #[.int .i64 0, .int .i64 0] 25))))
    have HF2 := Lib.hid (flt_new w2 0 0)
    have HV2 := Lib.hid (h2.mono (below_alloc w2 (.cells #[.int .i64 0, .int .i64 0] 25)))
    clear h2 hb2
    go_wp2_with fail
    refine (fixed_any _ (HT.out.mono HB2.out)).mono ?_
    rintro e w3 ⟨rfl, hb3⟩
    have HB3 := Lib.hid (below_step HB2.out hb3)
    have HF3 := Lib.hid (HF2.out.mono hb3)
    have HV3 := Lib.hid (HV2.out.mono hb3)
    clear hb3
    go_wp2_with fail
    refine (HM.out _ (HT.out.mono HB3.out) (H.out.mono HB3.out)).mono ?_
    rintro e w4 ⟨rfl, hb4⟩
    have HB4 := Lib.hid (below_step HB3.out hb4)
    have HF4 := Lib.hid (HF3.out.mono hb4)
    have HV4 := Lib.hid (HV3.out.mono hb4)
    clear hb4
    have x0 := HF4.out.c0
    cases m
    · go_wp2_with fail
      refine (HS.out _ (HT.out.mono HB4.out)).mono ?_
      rintro e w8 ⟨v8, rfl, h8, hb8⟩
      have HB8 := Lib.hid (below_step HB4.out (below_step hb8 (below_alloc w8 (.cells #[.int .i64 c, .int .i64 a] 25))))
      have HF8 := Lib.hid (flt_new w8 c a)
      obtain ⟨pp, cc, e8, _⟩ := h8.at.1
      have e8 : v8 = .slice pp 0 cc := e8
      subst e8
      clear h8 hb8 x0
      have y0 := HF8.out.c0
      go_wp2_with fail
      go_ret
      exact ⟨rfl, HB8.out⟩
    · have HQ := Lib.hid (HPl.out rfl)
      go_wp2_with fail
      refine (plain_of v2 A _ HQ.out HAl.out _ HV4.out.at).mono ?_
      rintro e w5 ⟨v5, rfl, h5, hb5⟩
      have HB5 := Lib.hid (below_step HB4.out hb5)
      have HV5 := Lib.hid h5
      clear h5 hb5
      go_wp2_with fail
      refine (plain_of v ts _ rfl HTl.out _ (H.out.mono HB5.out)).mono ?_
      rintro e w6 ⟨v6, rfl, h6, hb6⟩
      have HB6 := Lib.hid (below_step HB5.out hb6)
      have HV6 := Lib.hid (HV5.out.mono hb6)
      have HU6 := Lib.hid h6
      clear h6 hb6
      go_wp2_with fail
      refine (same_same v5 v6 _ _ HV6.out.at HU6.out.at).mono ?_
      rintro e w7 ⟨rfl, hb7⟩
      have HB7 := Lib.hid (below_step HB6.out hb7)
      clear hb7
      go_wp2_with fail
      refine (HS.out _ (HT.out.mono HB7.out)).mono ?_
      rintro e w8 ⟨v8, rfl, h8, hb8⟩
      have HB8 := Lib.hid (below_step HB7.out (below_step hb8 (below_alloc w8 (.cells #[.int .i64 c, .int .i64 a] 25))))
      have HF8 := Lib.hid (flt_new w8 c a)
      obtain ⟨pp, cc, e8, _⟩ := h8.at.1
      have e8 : v8 = .slice pp 0 cc := e8
      subst e8
      clear h8 hb8 x0
      have y0 := HF8.out.c0
      go_wp2_with fail
      go_ret
      exact ⟨rfl, HB8.out⟩
  | true =>
    have hmay := Lx.read_may hok
    have k3 := (Lx.lex_yes hok).2.2.2
    have hc0 : c = 0 := by rw [hcd]; exact k3.1
    rw [← hB] at hmay
    have hpl := print_len B
    obtain ⟨q1, q2, q3⟩ := print_reads B
    obtain ⟨Q, hQ⟩ : ∃ Q, Q = str (Lx.print B) := ⟨_, rfl⟩
    obtain ⟨C, hC⟩ : ∃ C, C = Lx.lexL (Lx.print B) := ⟨_, rfl⟩
    have hCr := lexL_room (Lx.print B)
    rw [← hC] at hCr q3
    have hCl := room_len C
    have HCl : Hid (C.length * 32 ≤ 140737488355328) := Lib.hid (by omega)
    have HCp := Lib.hid (q3 hmay)
    have HMb : Hid (∀ v w, Tabs w → ToksAt w v B → Calls Tryd.prog 14 #[v] w (Ret (.bool true) w)) := Lib.hid (fun v w hT h => by rw [← hmay]; exact may_any v B (by omega) w hT h)
    have HPb : Hid (∀ v w, Tabs w → ToksAt w v B → Calls Tryd.prog 16 #[v] w (Ret (.string Q) w)) := Lib.hid (fun v w hT h => by rw [hQ]; exact print_any v B (by omega) w hT h)
    have HDb : Hid (∀ w, Tabs w → Calls Tryd.prog 10 #[.string Q] w (LexIs C 0 0 w)) := Lib.hid (fun w hT => by
      rw [hQ]
      exact lex_is _ (by rw [str_size]; omega) C 0 0 (by rw [str_data, hC]) (by rw [str_data, q1]) (by rw [str_data, q2]) w hT)
    clear hcd had hB hBr hBl k3 hok hs hmay hpl q1 q2 q3 hQ hC hCr hCl
    subst hc0
    go_enter Tryd.func5, Tryd.ntmps5
    go_wp2_with fail
    refine (HP.out _ HT.out H.out).mono ?_
    rintro e w1 ⟨rfl, hb1⟩
    have HB1 := Lib.hid hb1
    clear hb1
    go_wp2_with fail
    refine (HD.out _ (HT.out.mono HB1.out)).mono ?_
    rintro e w2 ⟨v2, rfl, h2, hb2⟩
    have HB2 := Lib.hid (below_step HB1.out (below_step hb2 (below_alloc w2 (.cells #[.int .i64 0, .int .i64 0] 25))))
    have HF2 := Lib.hid (flt_new w2 0 0)
    have HV2 := Lib.hid (h2.mono (below_alloc w2 (.cells #[.int .i64 0, .int .i64 0] 25)))
    clear h2 hb2
    go_wp2_with fail
    refine (fixed_any _ (HT.out.mono HB2.out)).mono ?_
    rintro e w3 ⟨rfl, hb3⟩
    have HB3 := Lib.hid (below_step HB2.out hb3)
    have HF3 := Lib.hid (HF2.out.mono hb3)
    have HV3 := Lib.hid (HV2.out.mono hb3)
    clear hb3
    go_wp2_with fail
    refine (HM.out _ (HT.out.mono HB3.out) (H.out.mono HB3.out)).mono ?_
    rintro e w4 ⟨rfl, hb4⟩
    have HB4 := Lib.hid (below_step HB3.out hb4)
    have HF4 := Lib.hid (HF3.out.mono hb4)
    have HV4 := Lib.hid (HV3.out.mono hb4)
    clear hb4
    have x0 := HF4.out.c0
    cases m
    case' false =>
      have HB7 := HB4
      go_wp2_with fail
    case' true =>
      have HQ := Lib.hid (HPl.out rfl)
      go_wp2_with fail
      refine (plain_of v2 A _ HQ.out HAl.out _ HV4.out.at).mono ?_
      rintro e w5 ⟨v5, rfl, h5, hb5⟩
      have HB5 := Lib.hid (below_step HB4.out hb5)
      have HV5 := Lib.hid h5
      clear h5 hb5
      go_wp2_with fail
      refine (plain_of v ts _ rfl HTl.out _ (H.out.mono HB5.out)).mono ?_
      rintro e w6 ⟨v6, rfl, h6, hb6⟩
      have HB6 := Lib.hid (below_step HB5.out hb6)
      have HV6 := Lib.hid (HV5.out.mono hb6)
      have HU6 := Lib.hid h6
      clear h6 hb6
      go_wp2_with fail
      refine (same_same v5 v6 _ _ HV6.out.at HU6.out.at).mono ?_
      rintro e w7 ⟨rfl, hb7⟩
      have HB7 := Lib.hid (below_step HB6.out hb7)
      clear hb7 HQ
      go_wp2_with fail
    all_goals
      refine (HS.out _ (HT.out.mono HB7.out)).mono ?_
      rintro e w8 ⟨v8, rfl, h8, hb8⟩
      have HB8 := Lib.hid (below_step HB7.out (below_step hb8 (below_alloc w8 (.cells #[.int .i64 0, .int .i64 a] 25))))
      have HF8 := Lib.hid (flt_new w8 0 a)
      have HV8 := Lib.hid (h8.mono (below_alloc w8 (.cells #[.int .i64 0, .int .i64 a] 25)))
      clear h8 hb8 x0
      have y0 := HF8.out.c0
      go_wp2_with fail
      refine (HPb.out _ _ (HT.out.mono HB8.out) HV8.out.at).mono ?_
      rintro e w9 ⟨rfl, hb9⟩
      have HB9 := Lib.hid (below_step HB8.out hb9)
      have HV9 := Lib.hid (HV8.out.mono hb9)
      clear hb9 y0
      go_wp2_with fail
      refine (HDb.out _ (HT.out.mono HB9.out)).mono ?_
      rintro e w10 ⟨v10, rfl, h10, hb10⟩
      have hb10' := below_step hb10 (below_alloc w10 (.cells #[.int .i64 0, .int .i64 0] 25))
      have HB10 := Lib.hid (below_step HB9.out hb10')
      have HF10 := Lib.hid (flt_new w10 0 0)
      have HV10 := Lib.hid (HV9.out.mono hb10')
      have HU10 := Lib.hid (h10.mono (below_alloc w10 (.cells #[.int .i64 0, .int .i64 0] 25)))
      clear h10 hb10 hb10'
      go_wp2_with fail
      refine (HMb.out _ _ (HT.out.mono HB10.out) HV10.out.at).mono ?_
      rintro e w11 ⟨rfl, hb11⟩
      have HB11 := Lib.hid (below_step HB10.out hb11)
      have HF11 := Lib.hid (HF10.out.mono hb11)
      have HV11 := Lib.hid (HV10.out.mono hb11)
      have HU11 := Lib.hid (HU10.out.mono hb11)
      clear hb11
      have z0 := HF11.out.c0
      go_wp2_with fail
      refine (plain_of v10 C _ HCp.out HCl.out _ HU11.out.at).mono ?_
      rintro e w12 ⟨v12, rfl, h12, hb12⟩
      have HB12 := Lib.hid (below_step HB11.out hb12)
      have HV12 := Lib.hid (HV11.out.mono hb12)
      have HU12 := Lib.hid h12
      clear h12 hb12 z0
      go_wp2_with fail
      refine (plain_of v8 B _ rfl HBl.out _ HV12.out.at).mono ?_
      rintro e w13 ⟨v13, rfl, h13, hb13⟩
      have HB13 := Lib.hid (below_step HB12.out hb13)
      have HU13 := Lib.hid (HU12.out.mono hb13)
      have HX13 := Lib.hid h13
      clear h13 hb13
      go_wp2_with fail
      refine (same_same v12 v13 _ _ HU13.out.at HX13.out.at).mono ?_
      rintro e w14 ⟨rfl, hb14⟩
      have HB14 := Lib.hid (below_step HB13.out hb14)
      clear hb14
      go_wp2_with fail
      go_ret
      exact ⟨rfl, HB14.out⟩
end Go.Proofs.YtjlnffdklhmonaaDoor
