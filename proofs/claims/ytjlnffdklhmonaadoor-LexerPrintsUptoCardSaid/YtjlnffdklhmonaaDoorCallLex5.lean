/-
  What the program's Lex answers: the tokens of any bytes, or what is wrong with them first.
-/
import Derived.Test.YtjlnffdklhmonaaDoorWord5
set_option linter.unusedVariables false
set_option linter.unusedSimpArgs false
namespace Go.Proofs.YtjlnffdklhmonaaDoor
open Go.RowKit

theorem cls_blank {c : UInt8} (h : Lx.blank c = true) : cls c = 1 := by unfold cls; rw [h]; rfl
theorem cls_is {c : UInt8} (h : Lx.blank c = false) (n : Nat) (m : Int) (hc : c.toNat = n) (hm : (n = 37 ∧ m = 2) ∨ (n = 123 ∧ m = 4) ∨ (n = 125 ∧ m = 5)) : cls c = m := by
  unfold cls
  rw [h]
  rcases hm with ⟨rfl, rfl⟩ | ⟨rfl, rfl⟩ | ⟨rfl, rfl⟩ <;> simp [hc]
theorem while_pos {c : UInt8} {r : List UInt8} (h : c.toNat = 37) : ((c :: r).takeWhile Lx.not10).length = 1 + (r.takeWhile Lx.not10).length := by
  rw [List.takeWhile_cons, if_pos (show Lx.not10 c = true from decide_eq_true (by omega)), List.length_cons]
  omega
theorem while_le (p : UInt8 → Bool) (l : List UInt8) : (l.takeWhile p).length ≤ l.length := (List.takeWhile_sublist _).length_le
theorem cmd_alpha {c : UInt8} {r : List UInt8} (hb : Lx.bsl c = true) : Lx.isCmd c r = !(r.takeWhile Lx.alpha).isEmpty := by
  unfold Lx.isCmd
  rw [hb]
  cases r with
  | nil => rfl
  | cons d q =>
    show (true && Lx.alpha d) = _
    rw [List.takeWhile_cons]
    cases Lx.alpha d <;> rfl

set_option maxHeartbeats 2000000 in
set_option maxRecDepth 100000 in
theorem lex_utf (s : ByteArray) (hs : s.size * 32 ≤ 140737488355328) (hc : Ut.clean s.data.toList = false) (w : World) (hT : Tabs w) : Calls Tryd.prog 10 #[.string s] w (LexPost s.data.toList w) := by
  have HF0 := Lib.hid (flt_new w 0 0)
  have HB0 := Lib.hid (below_alloc w (.cells #[.int .i64 0, .int .i64 0] 25))
  have HT := Lib.hid (hT.mono HB0.out)
  have hx := dec_no hc
  have HL := Lib.hid (lex_utf_of hc)
  obtain ⟨st, hst⟩ : ∃ st : Nat, st = Ut.stop s.data.toList := ⟨_, rfl⟩
  rw [← hst] at hx HL
  have cD : Hid (∀ w, Tabs w → Calls Tryd.prog 23 #[.string s] w (fun e w' => ∃ v, e = .returned (.tuple #[v, .agg #[.int .i64 40, .int .i64 (st : Int)]]) ∧ Below w.heap.size w w')) := Lib.hid (fun w hT => (decode_any s (by omega) w hT).mono fun e w' h => by
    obtain ⟨v, he, _, hb⟩ := h
    exact ⟨v, by rw [he, hx.2.1, hx.2.2.1]; rfl, hb⟩)
  clear hx hst hc hT
  go_enter Tryd.func10, Tryd.ntmps10
  go_wp2_with fail
  refine (cD.out _ HT.out).mono ?_
  rintro e w2 ⟨v2, rfl, hb2⟩
  have hb2' := below_step hb2 (below_alloc w2 (.cells #[.int .i64 40, .int .i64 (st : Int)] 25))
  have HB2 := Lib.hid (below_step HB0.out hb2')
  have HF2 := Lib.hid (flt_new w2 40 (st : Int))
  have HG2 := Lib.hid (HF0.out.mono hb2')
  have x0 := HF2.out.c0
  have x1 := HF2.out.c1
  have y0 := HG2.out.c0
  have y1 := HG2.out.c1
  have z0 := HG2.out.f0
  have z1 := HG2.out.f1
  clear hb2 hb2'
  go_wp2_with fail
  go_region
  all_goals (try go_wp2)
  all_goals exact bodyPost_ret (v := .tuple #[.slice none 0 0, .agg #[.int .i64 40, .int .i64 (st : Int)]]) (by simp [results, Tryd.results10, go_sem, x0, x1, y0, y1]) rfl ⟨_, by rw [HL.out.2.1, HL.out.2.2]; rfl, by rw [HL.out.1]; exact ownT_nil _ _, by first | exact ((HB2.out.setCell (Nat.le_refl _) _).setCell (Nat.le_refl _) _) | exact (((HB2.out.drew).setCell (Nat.le_refl _) _).setCell (Nat.le_refl _) _)⟩

set_option maxHeartbeats 8000000 in
set_option maxRecDepth 100000 in
theorem lex_ok (s : ByteArray) (hs : s.size * 32 ≤ 140737488355328) (hc : Ut.clean s.data.toList = true) (w : World) (hT : Tabs w) : Calls Tryd.prog 10 #[.string s] w (LexPost s.data.toList w) := by
  obtain ⟨i0, hi, hz0, hz1, hz2⟩ := info_parts infoTok
  have hx := dec_yes hc
  have cD : Hid (∀ w, Tabs w → Calls Tryd.prog 23 #[.string s] w (fun e w' => ∃ v, e = .returned (.tuple #[v, .agg #[.int .i64 0, .int .i64 0]]) ∧ Below w.heap.size w w')) := Lib.hid (fun w hT => (decode_any s (by omega) w hT).mono fun e w' h => by
    obtain ⟨v, he, _, hb⟩ := h
    exact ⟨v, by rw [he, hx.2.1, hx.2.2.1]; rfl, hb⟩)
  have HCl := Lib.hid hc
  have HF0 := Lib.hid (flt_new w 0 0)
  have HB0 := Lib.hid (below_alloc w (.cells #[.int .i64 0, .int .i64 0] 25))
  have HT := Lib.hid (hT.mono HB0.out)
  clear hx hc hT
  go_enter Tryd.func10, Tryd.ntmps10
  go_wp2_with fail
  refine (cD.out _ HT.out).mono ?_
  rintro e w2 ⟨v2, rfl, hb2⟩
  have hb2' := below_step hb2 (below_alloc w2 (.cells #[.int .i64 0, .int .i64 0] 25))
  obtain ⟨W0, hW0⟩ : ∃ W0, W0 = w2.alloc (.cells #[.int .i64 0, .int .i64 0] 25) := ⟨_, rfl⟩
  have HB2 := Lib.hid (below_step HB0.out hb2')
  have HF2 := Lib.hid (flt_new w2 0 0)
  have HG2 := Lib.hid (HF0.out.mono hb2')
  have x0 := HF2.out.c0
  have x1 := HF2.out.c1
  rw [← hW0] at HB2 HG2
  have HpW := Lib.hid (block_lt_of_cell HG2.out.c0)
  clear hb2 hb2'
  go_wp2_with fail
  rw [← hW0]
  have HO0 : Hid (OwnT W0.heap.size (.slice none 0 0) [] W0) := Lib.hid (ownT_nil _ _)
  have HBW : Hid (Below W0.heap.size W0 W0) := Lib.hid (Below.refl _ _)
  clear x0 x1 HF2 hW0
  go_loopw [6, 7] (fun ov av wr => ∃ (ts : List Tok) (a : Nat), av = .int .i64 a ∧ a ≤ s.size ∧ ts.length ≤ a ∧ Hid (Lread s.data.toList ts a) ∧ Hid (OwnT W0.heap.size ov ts wr) ∧ Hid (Below W0.heap.size W0 wr)) (fun _ av _ => s.size - (intOf av).toNat)
  case atStart => exact ⟨[], 0, rfl, Nat.zero_le _, Nat.le_refl _, Lib.hid (lread_nil _), HO0, HBW⟩
  case round =>
    obtain ⟨ts, a, rfl, ha, hta, HR, HO, HB⟩ := hrel
    clear HO0 HBW
    by_cases hlt : a < s.size
    · have hd := drop_head s a hlt
      have a0 : (0 : Int) ≤ (a : Int) := by omega
      have a1 : (a : Int) < (s.size : Int) := by omega
      have cC := Lib.hid (fun w => classOf_any s[a] w)
      cases hbl : Lx.blank s[a] with
      | true =>
        have HR2 := Lib.hid (HR.out.gap (n := 1) (by rw [hd, Lx.step_cons, if_pos hbl]))
        rw [cls_blank hbl] at cC
        clear hbl hd
        go_wp2_with fail
        refine (cC.out _).mono ?_
        rintro e w3 ⟨rfl, rfl⟩
        go_wp2_with fail
        go_roundw
        case rel => exact ⟨ts, a + 1, by go_num, by omega, by omega, HR2, HO, HB⟩
        case measure => simp [intOf]; omega
      | false =>
        by_cases h37 : s[a].toNat = 37
        · have hst : Lx.step (s.data.toList.drop a) = .gap ((s.data.toList.drop a).takeWhile Lx.not10).length := by rw [hd, Lx.step_cons, if_neg (by rw [hbl]; simp), if_pos h37, while_pos h37]
          have hpos : 1 ≤ ((s.data.toList.drop a).takeWhile Lx.not10).length := by rw [hd, while_pos h37]; omega
          have hle := while_le Lx.not10 (s.data.toList.drop a)
          rw [List.length_drop, ← Lib.size_eq] at hle
          have cE := Lib.hid (fun w => commentEnd_any s a hlt (by omega) w)
          obtain ⟨n, hn⟩ : ∃ n, n = ((s.data.toList.drop a).takeWhile Lx.not10).length := ⟨_, rfl⟩
          rw [← hn] at hst hpos hle cE
          have HR2 := Lib.hid (HR.out.gap hst)
          rw [cls_is hbl 37 2 h37 (by omega)] at cC
          clear hbl hd h37 hst hn
          go_wp2_with fail
          refine (cC.out _).mono ?_
          rintro e w3 ⟨rfl, rfl⟩
          go_wp2_with fail
          refine (cE.out _).mono ?_
          rintro e w3 ⟨rfl, rfl⟩
          go_wp2_with fail
          go_roundw
          case rel => exact ⟨ts, a + n, by go_num, by omega, by omega, HR2, HO, HB⟩
          case measure => simp [intOf]; omega
        · by_cases hq : s[a].toNat = 123
          · have HR2 := Lib.hid (HR.out.tok (k := 2) (t := []) (n := 1) (by rw [hd, Lx.step_cons, if_neg (by rw [hbl]; simp), if_neg h37, if_pos hq]))
            have hown := World.ownsRow.alloc HO.out (.cells #[.int .i64 2, .string (str []), .int .i64 (a : Int)] 38)
            rw [cls_is hbl 123 4 hq (by omega)] at cC
            clear hbl hd hq h37
            go_wp2_with fail
            refine (cC.out _).mono ?_
            rintro e w3 ⟨rfl, rfl⟩
            go_wp2_with (at_builtin; refine wpList_append_own _ rfl _ _ 22 rfl W0.heap.size 38 i0 _ 3 32 Tryd.underlying22 hi hz0 hz1 hz2 rfl (by decide) _ _ _ rfl hown ⟨wr.heap.size, 0, none⟩ 1 1 [.int .i64 2, .string (str []), .int .i64 (a : Int)] rfl rfl (cell_three_new _ _ _ _ _) (three_one _ _ _) (by unfold maxLen; omega) (by omega) (by have := HB.out.size; simp; omega) ?_; intro v9 w9 hown9 hgrow9 hnil9; have HB9 := Lib.hid ((HB.out.alloc HB.out.size (.cells #[.int .i64 2, .string (str []), .int .i64 (a : Int)] 38)).grown hgrow9 (by have := HB.out.size; simp; omega) (fun q hq => (World.ownsRow.lt hown q hq).1)); have HO9 := Lib.hid hown9; clear hown hown9 hgrow9 hnil9)
            go_roundw
            case rel => exact ⟨_, a + 1, by go_num, by omega, by rw [List.length_append, List.length_singleton]; omega, HR2, Lib.hid (ownT_three HO9.out rfl), HB9⟩
            case measure => simp [intOf]; omega
          · by_cases hq2 : s[a].toNat = 125
            · have HR2 := Lib.hid (HR.out.tok (k := 3) (t := []) (n := 1) (by rw [hd, Lx.step_cons, if_neg (by rw [hbl]; simp), if_neg h37, if_neg hq, if_pos hq2]))
              have hown := World.ownsRow.alloc HO.out (.cells #[.int .i64 3, .string (str []), .int .i64 (a : Int)] 38)
              rw [cls_is hbl 125 5 hq2 (by omega)] at cC
              clear hbl hd hq hq2 h37
              go_wp2_with fail
              refine (cC.out _).mono ?_
              rintro e w3 ⟨rfl, rfl⟩
              go_wp2_with (at_builtin; refine wpList_append_own _ rfl _ _ 22 rfl W0.heap.size 38 i0 _ 3 32 Tryd.underlying22 hi hz0 hz1 hz2 rfl (by decide) _ _ _ rfl hown ⟨wr.heap.size, 0, none⟩ 1 1 [.int .i64 3, .string (str []), .int .i64 (a : Int)] rfl rfl (cell_three_new _ _ _ _ _) (three_one _ _ _) (by unfold maxLen; omega) (by omega) (by have := HB.out.size; simp; omega) ?_; intro v9 w9 hown9 hgrow9 hnil9; have HB9 := Lib.hid ((HB.out.alloc HB.out.size (.cells #[.int .i64 3, .string (str []), .int .i64 (a : Int)] 38)).grown hgrow9 (by have := HB.out.size; simp; omega) (fun q hq => (World.ownsRow.lt hown q hq).1)); have HO9 := Lib.hid hown9; clear hown hown9 hgrow9 hnil9)
              go_roundw
              case rel => exact ⟨_, a + 1, by go_num, by omega, by rw [List.length_append, List.length_singleton]; omega, HR2, Lib.hid (ownT_three HO9.out rfl), HB9⟩
              case measure => simp [intOf]; omega
            · have hwd := (Lx.word_is (s.data.toList.drop a).length (s.data.toList.drop a) (Nat.le_refl _)).1
              rw [List.length_drop, ← Lib.size_eq] at hwd
              have hwp := word_len (s.data.toList.drop a).length (s.data.toList.drop a) (Nat.le_refl _)
              have cW := Lib.hid (fun w => word_any s a (by omega) (by omega) w)
              obtain ⟨t, ht⟩ : ∃ t, t = (Lx.word (s.data.toList.drop a)).1 := ⟨_, rfl⟩
              obtain ⟨n, hn⟩ : ∃ n, n = (Lx.word (s.data.toList.drop a)).2 := ⟨_, rfl⟩
              rw [← ht, ← hn] at cW hwp
              rw [← hn] at hwd
              cases hbs : Lx.bsl s[a] with
              | true =>
                rw [(cls_bsl hbs).1] at cC
                have hx1 : (s.extract (a + 1) s.size).size ≤ 4611686018427387904 := by rw [Lib.size_eq, drop_text, List.length_drop, ← Lib.size_eq]; omega
                have cL : Hid (∀ w, Calls Tryd.prog 26 #[.string (s.extract (a + 1) s.size)] w (Is (.string (str ((s.data.toList.drop (a + 1)).takeWhile Lx.alpha))) w)) := Lib.hid (fun w => by
                  have h := letters_any (s.extract (a + 1) s.size) hx1 w
                  rw [drop_text] at h
                  exact h)
                have a2 : (a : Int) + 1 ≤ (s.size : Int) := by omega
                have hal := while_le Lx.alpha (s.data.toList.drop (a + 1))
                rw [List.length_drop, ← Lib.size_eq] at hal
                have hcm := cmd_alpha (r := s.data.toList.drop (a + 1)) hbs
                obtain ⟨C, hC⟩ : ∃ C, C = (s.data.toList.drop (a + 1)).takeWhile Lx.alpha := ⟨_, rfl⟩
                rw [← hC] at cL hal hcm
                obtain ⟨X, hX⟩ : ∃ X, X = str C := ⟨_, rfl⟩
                have HX : Hid (X.data.toList = C) := Lib.hid (by rw [hX, str_data])
                have hXs : X.size = C.length := by rw [Lib.size_eq, HX.out]
                have hXe : X.toList.isEmpty = C.isEmpty := by rw [Lib.toList_data, HX.out]
                rw [← hX] at cL
                clear hx1 hX
                cases hce : C.isEmpty with
                | false =>
                  have HR2 := Lib.hid (HR.out.tok (k := 1) (t := C) (n := 1 + C.length) (by rw [hd, Lx.step_cons, if_neg (by rw [hbl]; simp), if_neg h37, if_neg hq, if_neg hq2, if_pos (by rw [hcm, hce]; rfl), ← hC]))
                  have hCl : 1 ≤ C.length := by cases C with | nil => simp at hce | cons c r => simp
                  have cK := Lib.hid (fun w => clone_any X (by omega) w)
                  rw [hce] at hXe
                  have HXs := Lib.hid hXs
                  have xw : (X.size : Int) = (C.length : Int) := by omega
                  clear hbl hd hq hq2 h37 ht hn hbs hC hcm hce cW hwd hwp hXs
                  go_wp2_with fail
                  refine (cC.out _).mono ?_
                  rintro e w3 ⟨rfl, rfl⟩
                  go_wp2_with fail
                  refine (cL.out _).mono ?_
                  rintro e w3 ⟨rfl, rfl⟩
                  go_wp2_with fail
                  refine (cK.out _).mono ?_
                  rintro e w4 ⟨rfl, hb4⟩
                  have HB4 := Lib.hid (HB.out.trans (hb4.mono HB.out.size))
                  have HO4 := Lib.hid (HO.out.kept hb4)
                  have hown := World.ownsRow.alloc HO4.out (.cells #[.int .i64 1, .string X, .int .i64 (a : Int)] 38)
                  clear hb4
                  go_wp2_with (at_builtin; refine wpList_append_own _ rfl _ _ 22 rfl W0.heap.size 38 i0 _ 3 32 Tryd.underlying22 hi hz0 hz1 hz2 rfl (by decide) _ _ _ rfl hown ⟨w4.heap.size, 0, none⟩ 1 1 [.int .i64 1, .string X, .int .i64 (a : Int)] rfl rfl (cell_three_new _ _ _ _ _) (three_one _ _ _) (by unfold maxLen; omega) (by omega) (by have := HB4.out.size; simp; omega) ?_; intro v9 w9 hown9 hgrow9 hnil9; have HB9 := Lib.hid ((HB4.out.alloc HB4.out.size (.cells #[.int .i64 1, .string X, .int .i64 (a : Int)] 38)).grown hgrow9 (by have := HB4.out.size; simp; omega) (fun q hq => (World.ownsRow.lt hown q hq).1)); have HO9 := Lib.hid hown9; clear hown hown9 hgrow9 hnil9)
                  go_roundw
                  case rel => exact ⟨_, a + (1 + C.length), by go_num, by omega, by rw [List.length_append, List.length_singleton]; omega, HR2, Lib.hid (ownT_three HO9.out HX.out), HB9⟩
                  case measure => simp [intOf]; omega
                | true =>
                  rw [hce] at hXe hcm
                  by_cases h0 : n = 0
                  · have HBad := Lib.hid (lex_bad_of HCl.out (HR.out.bad (by rw [hd]; simp) (by rw [hd, Lx.step_cons, if_neg (by rw [hbl]; simp), if_neg h37, if_neg hq, if_neg hq2, if_neg (by rw [hcm]; simp), ← hd, if_pos (by rw [← hn]; exact h0)])))
                    subst h0
                    have cW' : Hid (∀ w, Calls Tryd.prog 28 #[.string s, .int .i64 (a : Int)] w (Ret (.tuple #[.string ⟨t.toArray⟩, .int .i64 (a : Int)]) w)) := Lib.hid (fun w => by have h := cW.out w; rw [show ((a : Int) + ((0 : Nat) : Int)) = (a : Int) by omega] at h; exact h)
                    clear hce hC hXs hal hcm hd hbl hq hq2 h37 ht hn hwd hwp cW hbs
                    go_wp2_with fail
                    refine (cC.out _).mono ?_
                    rintro e w3 ⟨rfl, rfl⟩
                    go_wp2_with fail
                    refine (cL.out _).mono ?_
                    rintro e w3 ⟨rfl, rfl⟩
                    go_wp2_with fail
                    refine (cW'.out _).mono ?_
                    rintro e w4 ⟨rfl, hb4⟩
                    have HB4 := Lib.hid (HB.out.trans (hb4.mono HB.out.size))
                    have HG9 := Lib.hid (HG2.out.below HB4.out HpW.out)
                    have y0 := HG9.out.c0
                    have y1 := HG9.out.c1
                    have z0 := HG9.out.f0
                    have z1 := HG9.out.f1
                    have HB9 := Lib.hid (HB2.out.trans (HB4.out.mono HB2.out.size))
                    clear hb4
                    go_wp2_with fail
                    exact bodyPost_ret (v := .tuple #[.slice none 0 0, .agg #[.int .i64 50, .int .i64 (a : Int)]]) (by simp [results, Tryd.results10, go_sem, y0, y1]) rfl ⟨_, by rw [HBad.out.2.1, HBad.out.2.2]; rfl, by rw [HBad.out.1]; exact ownT_nil _ _, (HB9.out.setCell (Nat.le_refl _) _).setCell (Nat.le_refl _) _⟩
                  · have HR2 := Lib.hid (HR.out.tok (k := 0) (t := t) (n := n) (by rw [hd, Lx.step_cons, if_neg (by rw [hbl]; simp), if_neg h37, if_neg hq, if_neg hq2, if_neg (by rw [hcm]; simp), ← hd, if_neg (by rw [← hn]; exact h0), ← ht, ← hn]))
                    have hne : ((a : Int) + (n : Int) == (a : Int)) = false := bne0 (by omega)
                    clear hce hC hXs hal hcm hd hbl hq hq2 h37 ht hn hbs
                    go_wp2_with fail
                    refine (cC.out _).mono ?_
                    rintro e w3 ⟨rfl, rfl⟩
                    go_wp2_with fail
                    refine (cL.out _).mono ?_
                    rintro e w3 ⟨rfl, rfl⟩
                    go_wp2_with fail
                    refine (cW.out _).mono ?_
                    rintro e w4 ⟨rfl, hb4⟩
                    have HB4 := Lib.hid (HB.out.trans (hb4.mono HB.out.size))
                    have HO4 := Lib.hid (HO.out.kept hb4)
                    have hown := World.ownsRow.alloc HO4.out (.cells #[.int .i64 0, .string ⟨t.toArray⟩, .int .i64 (a : Int)] 38)
                    clear hb4
                    go_wp2_with (at_builtin; refine wpList_append_own _ rfl _ _ 22 rfl W0.heap.size 38 i0 _ 3 32 Tryd.underlying22 hi hz0 hz1 hz2 rfl (by decide) _ _ _ rfl hown ⟨w4.heap.size, 0, none⟩ 1 1 [.int .i64 0, .string ⟨t.toArray⟩, .int .i64 (a : Int)] rfl rfl (cell_three_new _ _ _ _ _) (three_one _ _ _) (by unfold maxLen; omega) (by omega) (by have := HB4.out.size; simp; omega) ?_; intro v9 w9 hown9 hgrow9 hnil9; have HB9 := Lib.hid ((HB4.out.alloc HB4.out.size (.cells #[.int .i64 0, .string ⟨t.toArray⟩, .int .i64 (a : Int)] 38)).grown hgrow9 (by have := HB4.out.size; simp; omega) (fun q hq => (World.ownsRow.lt hown q hq).1)); have HO9 := Lib.hid hown9; clear hown hown9 hgrow9 hnil9)
                    go_roundw
                    case rel => exact ⟨_, a + n, by go_num, by omega, by rw [List.length_append, List.length_singleton]; omega, HR2, Lib.hid (ownT_three HO9.out (str_data t)), HB9⟩
                    case measure => simp [intOf]; omega
              | false =>
                have hcm : Lx.isCmd s[a] (s.data.toList.drop (a + 1)) = false := by unfold Lx.isCmd; rw [hbs]; rfl
                have hen : Lx.ends s[a] = false := by
                  have hb := of_decide_eq_false hbs
                  unfold Lx.ends
                  rw [hbl, Bool.or_false]
                  exact decide_eq_false (by omega)
                rw [cls_plain hen] at cC
                clear hen
                by_cases h0 : n = 0
                · have HBad := Lib.hid (lex_bad_of HCl.out (HR.out.bad (by rw [hd]; simp) (by rw [hd, Lx.step_cons, if_neg (by rw [hbl]; simp), if_neg h37, if_neg hq, if_neg hq2, if_neg (by rw [hcm]; simp), ← hd, if_pos (by rw [← hn]; exact h0)])))
                  subst h0
                  have cW' : Hid (∀ w, Calls Tryd.prog 28 #[.string s, .int .i64 (a : Int)] w (Ret (.tuple #[.string ⟨t.toArray⟩, .int .i64 (a : Int)]) w)) := Lib.hid (fun w => by have h := cW.out w; rw [show ((a : Int) + ((0 : Nat) : Int)) = (a : Int) by omega] at h; exact h)
                  clear hcm hd hbl hq hq2 h37 ht hn hwd hwp cW hbs
                  go_wp2_with fail
                  refine (cC.out _).mono ?_
                  rintro e w3 ⟨rfl, rfl⟩
                  go_wp2_with fail
                  refine (cW'.out _).mono ?_
                  rintro e w4 ⟨rfl, hb4⟩
                  have HB4 := Lib.hid (HB.out.trans (hb4.mono HB.out.size))
                  have HG9 := Lib.hid (HG2.out.below HB4.out HpW.out)
                  have y0 := HG9.out.c0
                  have y1 := HG9.out.c1
                  have z0 := HG9.out.f0
                  have z1 := HG9.out.f1
                  have HB9 := Lib.hid (HB2.out.trans (HB4.out.mono HB2.out.size))
                  clear hb4
                  go_wp2_with fail
                  exact bodyPost_ret (v := .tuple #[.slice none 0 0, .agg #[.int .i64 50, .int .i64 (a : Int)]]) (by simp [results, Tryd.results10, go_sem, y0, y1]) rfl ⟨_, by rw [HBad.out.2.1, HBad.out.2.2]; rfl, by rw [HBad.out.1]; exact ownT_nil _ _, (HB9.out.setCell (Nat.le_refl _) _).setCell (Nat.le_refl _) _⟩
                · have HR2 := Lib.hid (HR.out.tok (k := 0) (t := t) (n := n) (by rw [hd, Lx.step_cons, if_neg (by rw [hbl]; simp), if_neg h37, if_neg hq, if_neg hq2, if_neg (by rw [hcm]; simp), ← hd, if_neg (by rw [← hn]; exact h0), ← ht, ← hn]))
                  have hne : ((a : Int) + (n : Int) == (a : Int)) = false := bne0 (by omega)
                  clear hcm hd hbl hq hq2 h37 ht hn hbs
                  go_wp2_with fail
                  refine (cC.out _).mono ?_
                  rintro e w3 ⟨rfl, rfl⟩
                  go_wp2_with fail
                  refine (cW.out _).mono ?_
                  rintro e w4 ⟨rfl, hb4⟩
                  have HB4 := Lib.hid (HB.out.trans (hb4.mono HB.out.size))
                  have HO4 := Lib.hid (HO.out.kept hb4)
                  have hown := World.ownsRow.alloc HO4.out (.cells #[.int .i64 0, .string ⟨t.toArray⟩, .int .i64 (a : Int)] 38)
                  clear hb4
                  go_wp2_with (at_builtin; refine wpList_append_own _ rfl _ _ 22 rfl W0.heap.size 38 i0 _ 3 32 Tryd.underlying22 hi hz0 hz1 hz2 rfl (by decide) _ _ _ rfl hown ⟨w4.heap.size, 0, none⟩ 1 1 [.int .i64 0, .string ⟨t.toArray⟩, .int .i64 (a : Int)] rfl rfl (cell_three_new _ _ _ _ _) (three_one _ _ _) (by unfold maxLen; omega) (by omega) (by have := HB4.out.size; simp; omega) ?_; intro v9 w9 hown9 hgrow9 hnil9; have HB9 := Lib.hid ((HB4.out.alloc HB4.out.size (.cells #[.int .i64 0, .string ⟨t.toArray⟩, .int .i64 (a : Int)] 38)).grown hgrow9 (by have := HB4.out.size; simp; omega) (fun q hq => (World.ownsRow.lt hown q hq).1)); have HO9 := Lib.hid hown9; clear hown hown9 hgrow9 hnil9)
                  go_roundw
                  case rel => exact ⟨_, a + n, by go_num, by omega, by rw [List.length_append, List.length_singleton]; omega, HR2, Lib.hid (ownT_three HO9.out (str_data t)), HB9⟩
                  case measure => simp [intOf]; omega
    · have HE := Lib.hid (lex_yes_of HCl.out (HR.out.done (by rw [← Lib.size_eq]; omega)))
      have HG9 := Lib.hid (HG2.out.below HB.out HpW.out)
      have y0 := HG9.out.c0
      have y1 := HG9.out.c1
      have z0 := HG9.out.f0
      have z1 := HG9.out.f1
      have HB9 := Lib.hid (HB2.out.trans (HB.out.mono HB2.out.size))
      go_wp2_with fail
      exact bodyPost_ret (v := .tuple #[u6, .agg #[.int .i64 0, .int .i64 0]]) (by simp [results, Tryd.results10, go_sem, y0, y1]) rfl ⟨_, by rw [HE.out.2.1, HE.out.2.2]; rfl, by rw [HE.out.1]; exact (ownT_two HO.out HpW.out).base HB2.out.size, (HB9.out.setCell (Nat.le_refl _) _).setCell (Nat.le_refl _) _⟩

/-- The program's Lex, at every text of at most 2^42 bytes. -/
theorem lex_any (s : ByteArray) (hs : s.size * 32 ≤ 140737488355328) (w : World) (hT : Tabs w) : Calls Tryd.prog 10 #[.string s] w (LexPost s.data.toList w) := by
  cases hc : Ut.clean s.data.toList with
  | false => exact lex_utf s hs hc w hT
  | true => exact lex_ok s hs hc w hT
end Go.Proofs.YtjlnffdklhmonaaDoor
