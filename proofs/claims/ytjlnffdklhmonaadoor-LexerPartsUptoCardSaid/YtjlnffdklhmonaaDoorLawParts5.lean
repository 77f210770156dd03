/-
  The walk of the law LexerParts: it returns true.
-/
import Derived.Test.YtjlnffdklhmonaaDoorLawBack5
import Derived.Laws.AppendOwnNone
set_option linter.unusedVariables false
set_option linter.unusedSimpArgs false
namespace Go.Proofs.YtjlnffdklhmonaaDoor
open Go.RowKit

theorem cells_one (ts : List Tok) : ∀ u ∈ allCells ts, u.oneCell' = true := by
  intro u hu
  obtain ⟨t, _, ht⟩ := List.mem_flatMap.1 hu
  exact one_cells t u ht
/-- 'append(v, u...)' of tokens, u nil or not, behind a guard that holds -/
theorem wpList_append_toks {w : World} {ops : Array Oper} {rest : List Oper} {o : Oper} {a : Act} {Q : Exit → Act → World → Prop} (hw : Region.wanted o (yielded ops a.tmps) = true) (s x : Operand)
    (ho : o.op = .call { callee := .builtin .append, args := #[s, x], argTypes := #[22, 22] })
    (base B2 : Nat) (v u : Value) (xs ys : List Tok) (hs : a.eval s = v) (hown : OwnT base v xs w) (hx : a.eval x = u) (hsrc : OwnT B2 u ys w) (hlen : (xs.length + ys.length) * 32 ≤ 140737488355328) (hbase : base ≤ w.heap.size)
    (h : ∀ v' w', OwnT base v' (xs ++ ys) w' → Below base w w' → wpList Tryd.prog ops Q rest (a.put o.dst v') w') : wpList Tryd.prog ops Q (o :: rest) a w := by
  obtain ⟨i0, hi, hz0, hz1, hz2⟩ := info_parts infoTok
  have hs0 := hsrc
  refine wpList_step fun K hK => ?_
  rw [if_pos hw]
  rcases hsrc.2 with ⟨rfl, hn⟩ | ⟨g, cap, cur, rfl, _, hg, hcap, hmax, hsz, htake⟩
  · obtain rfl : ys = [] := List.eq_nil_of_length_eq_zero hn
    have hrun := run_append_owned_none (P := Tryd.prog) (w := w) base 22 o.type 38 i0 3 Tryd.underlying22 hi v xs.length _ hown
    unfold Oper.wp
    simp [execOp, ho, resolve, invoke, builtin, hs, hx, hrun, Result.andThen]
    exact hK _ _ (h v w (by rw [List.append_nil]; exact hown) (Below.refl _ _))
  · refine wp_append_own w s x _ ho base 38 i0 _ 3 32 Tryd.underlying22 hi hz0 hz1 hz2 rfl (by decide) v xs.length _ hs hown ⟨g, 0, none⟩ ys.length cap (allCells ys) hx (allCells_len ys) (fun j u hu => ?_) (cells_one ys) (by unfold maxLen; omega) hlen hbase fun v' w' h1 h2 _ => hK _ _ (h v' w' ?_ ((Below.refl base w).grown h2 hbase (fun q hq => (World.ownsRow.lt hown q hq).1)))
    · exact World.ownsRow.cells hs0 (g := g) rfl j u hu
    · unfold OwnT
      rw [List.length_append, allCells_append]
      exact h1
theorem cat_line (s t : ByteArray) : (s ++ ⟨#[10]⟩ ++ t).data.toList = s.data.toList ++ 10 :: t.data.toList := by
  rw [cat_text, cat_text, List.append_assoc]; rfl

set_option maxHeartbeats 4000000 in
set_option maxRecDepth 100000 in
theorem lawParts_any (s t : ByteArray) (hs : s.size + t.size ≤ 1099511627776) (w : World) (hT : Tabs w) : Calls Tryd.prog 8 #[.string s, .string t] w (Ret (.bool true) w) := by
  have HT := Lib.hid hT
  obtain ⟨c, hcd⟩ : ∃ c, c = Lx.lexC s.data.toList := ⟨_, rfl⟩
  obtain ⟨a, had⟩ : ∃ a, a = Lx.lexA s.data.toList := ⟨_, rfl⟩
  obtain ⟨c', hcd'⟩ : ∃ c, c = Lx.lexC t.data.toList := ⟨_, rfl⟩
  obtain ⟨a', had'⟩ : ∃ a, a = Lx.lexA t.data.toList := ⟨_, rfl⟩
  have HD := Lib.hid (fun w hT => lex_is s (by omega) _ c a rfl hcd.symm had.symm w hT)
  have HE := Lib.hid (fun w hT => lex_is t (by omega) _ c' a' rfl hcd'.symm had'.symm w hT)
  cases hok : Lx.lexOk s.data.toList with
  | false =>
    obtain ⟨k1, k2⟩ := Lx.lex_no hok
    have hc0 : (c == 0) = false := by rw [hcd]; exact beq_eq_false_iff_ne.2 k2
    have hc1 : (c != 0) = true := by simp only [bne, hc0]; rfl
    clear hcd had hcd' had' k1 k2 hok hs hT
    go_enter Tryd.func8, Tryd.ntmps8
    go_wp2_with fail
    refine (HD.out _ HT.out).mono ?_
    rintro e w1 ⟨v1, rfl, h1, hb1⟩
    have HB1 := Lib.hid (below_step hb1 (below_alloc w1 (.cells #[.int .i64 c, .int .i64 a] 25)))
    have HF1 := Lib.hid (flt_new w1 c a)
    clear h1 hb1
    go_wp2_with fail
    refine (HE.out _ (HT.out.mono HB1.out)).mono ?_
    rintro e w2 ⟨v2, rfl, h2, hb2⟩
    have hb2' := below_step hb2 (below_alloc w2 (.cells #[.int .i64 c', .int .i64 a'] 25))
    have HB2 := Lib.hid (below_step HB1.out hb2')
    have HF2 := Lib.hid (HF1.out.mono hb2')
    clear h2 hb2 hb2'
    go_wp2_with fail
    refine (fixed_any _ (HT.out.mono HB2.out)).mono ?_
    rintro e w3 ⟨rfl, hb3⟩
    have HB3 := Lib.hid (below_step HB2.out hb3)
    have HF3 := Lib.hid (HF2.out.mono hb3)
    clear hb3
    have x0 := HF3.out.c0
    go_wp2_with fail
    refine (fixed_any _ (HT.out.mono HB3.out)).mono ?_
    rintro e w4 ⟨rfl, hb4⟩
    have HB4 := Lib.hid (below_step HB3.out hb4)
    clear hb4 x0
    go_wp2_with fail
    go_ret
    exact ⟨rfl, HB4.out⟩
  | true =>
    have k3 := (Lx.lex_yes hok).2.2.2
    have hc0 : c = 0 := by rw [hcd]; exact k3.1
    cases hok' : Lx.lexOk t.data.toList with
    | false =>
      obtain ⟨k1, k2⟩ := Lx.lex_no hok'
      have hd0 : (c' == 0) = false := by rw [hcd']; exact beq_eq_false_iff_ne.2 k2
      have hd1 : (c' != 0) = true := by simp only [bne, hd0]; rfl
      clear hcd had hcd' had' k1 k2 k3 hok hok' hs hT
      subst hc0
      go_enter Tryd.func8, Tryd.ntmps8
      go_wp2_with fail
      refine (HD.out _ HT.out).mono ?_
      rintro e w1 ⟨v1, rfl, h1, hb1⟩
      have HB1 := Lib.hid (below_step hb1 (below_alloc w1 (.cells #[.int .i64 0, .int .i64 a] 25)))
      have HF1 := Lib.hid (flt_new w1 0 a)
      clear h1 hb1
      go_wp2_with fail
      refine (HE.out _ (HT.out.mono HB1.out)).mono ?_
      rintro e w2 ⟨v2, rfl, h2, hb2⟩
      have hb2' := below_step hb2 (below_alloc w2 (.cells #[.int .i64 c', .int .i64 a'] 25))
      have HB2 := Lib.hid (below_step HB1.out hb2')
      have HF2 := Lib.hid (HF1.out.mono hb2')
      have HG2 := Lib.hid (flt_new w2 c' a')
      clear h2 hb2 hb2'
      go_wp2_with fail
      refine (fixed_any _ (HT.out.mono HB2.out)).mono ?_
      rintro e w3 ⟨rfl, hb3⟩
      have HB3 := Lib.hid (below_step HB2.out hb3)
      have HF3 := Lib.hid (HF2.out.mono hb3)
      have HG3 := Lib.hid (HG2.out.mono hb3)
      clear hb3
      have x0 := HF3.out.c0
      have y0 := HG3.out.c0
      go_wp2_with fail
      refine (fixed_any _ (HT.out.mono HB3.out)).mono ?_
      rintro e w4 ⟨rfl, hb4⟩
      have HB4 := Lib.hid (below_step HB3.out hb4)
      clear hb4 x0 y0
      go_wp2_with fail
      go_ret
      exact ⟨rfl, HB4.out⟩
    | true =>
      have k3' := (Lx.lex_yes hok').2.2.2
      have hd0 : c' = 0 := by rw [hcd']; exact k3'.1
      obtain ⟨p1, p2⟩ := Lx.parts hok hok'
      rw [← cat_line] at p1 p2
      have k4 := (Lx.lex_yes p1).2.2.2
      have hsz : (s ++ ⟨#[10]⟩ ++ t).size = s.size + 1 + t.size := by
        rw [ByteArray.size_append, ByteArray.size_append]; rfl
      have HG := Lib.hid (fun w hT => lex_is (s ++ ⟨#[10]⟩ ++ t) (by rw [hsz]; omega) _ 0 0 rfl k4.1 k4.2 w hT)
      obtain ⟨A, hA⟩ : ∃ A, A = Lx.lexL s.data.toList := ⟨_, rfl⟩
      obtain ⟨B, hB⟩ : ∃ B, B = Lx.lexL t.data.toList := ⟨_, rfl⟩
      obtain ⟨C, hC⟩ : ∃ C, C = Lx.lexL (s ++ ⟨#[10]⟩ ++ t).data.toList := ⟨_, rfl⟩
      have hAr := lexL_room s.data.toList
      have hBr := lexL_room t.data.toList
      have hCr := lexL_room (s ++ ⟨#[10]⟩ ++ t).data.toList
      rw [← Lib.size_eq] at hAr hBr hCr
      rw [hsz] at hCr
      rw [← hA] at HD hAr p2
      rw [← hB] at HE hBr p2
      rw [← hC] at HG hCr p2
      have hAl := room_len A
      have hBl := room_len B
      have hCl := room_len C
      have HL := Lib.hid (show A.length ≤ 2 * s.size ∧ B.length ≤ 2 * t.size ∧ C.length ≤ 2 * (s.size + 1 + t.size) from ⟨by omega, by omega, by omega⟩)
      have HSz := Lib.hid hs
      have HP2 : Hid (C.map Lx.plain = (A ++ B).map Lx.plain) := Lib.hid (by rw [p2, List.map_append])
      have hz1 : ¬ 9223372036854775807 < s.size + 1 := by omega
      have hz2 : ¬ 9223372036854775807 < s.size + 1 + t.size := by omega
      clear hcd had hcd' had' k3 k3' k4 p1 p2 hok hok' hs hT hsz hA hB hC hAr hBr hCr hAl hBl hCl
      subst hc0 hd0
      go_enter Tryd.func8, Tryd.ntmps8
      go_wp2_with fail
      refine (HD.out _ HT.out).mono ?_
      rintro e w1 ⟨v1, rfl, h1, hb1⟩
      have HB1 := Lib.hid (below_step hb1 (below_alloc w1 (.cells #[.int .i64 0, .int .i64 a] 25)))
      have HF1 := Lib.hid (flt_new w1 0 a)
      have HV1 := Lib.hid (h1.mono (below_alloc w1 (.cells #[.int .i64 0, .int .i64 a] 25)))
      clear h1 hb1
      go_wp2_with fail
      refine (HE.out _ (HT.out.mono HB1.out)).mono ?_
      rintro e w2 ⟨v2, rfl, h2, hb2⟩
      have hb2' := below_step hb2 (below_alloc w2 (.cells #[.int .i64 0, .int .i64 a'] 25))
      have HB2 := Lib.hid (below_step HB1.out hb2')
      have HF2 := Lib.hid (HF1.out.mono hb2')
      have HG2 := Lib.hid (flt_new w2 0 a')
      have HV2 := Lib.hid (HV1.out.mono hb2')
      have HU2 := Lib.hid (h2.mono (below_alloc w2 (.cells #[.int .i64 0, .int .i64 a'] 25)))
      clear h2 hb2 hb2'
      go_wp2_with fail
      refine (fixed_any _ (HT.out.mono HB2.out)).mono ?_
      rintro e w3 ⟨rfl, hb3⟩
      have HB3 := Lib.hid (below_step HB2.out hb3)
      have HF3 := Lib.hid (HF2.out.mono hb3)
      have HG3 := Lib.hid (HG2.out.mono hb3)
      have HV3 := Lib.hid (HV2.out.mono hb3)
      have HU3 := Lib.hid (HU2.out.mono hb3)
      clear hb3
      have x0 := HF3.out.c0
      have y0 := HG3.out.c0
      go_wp2_with fail
      refine (HG.out _ (HT.out.mono HB3.out)).mono ?_
      rintro e w4 ⟨v4, rfl, h4, hb4⟩
      have hb4' := below_step hb4 (below_alloc w4 (.cells #[.int .i64 0, .int .i64 0] 25))
      have HB4 := Lib.hid (below_step HB3.out hb4')
      have HH4 := Lib.hid (flt_new w4 0 0)
      have HV4 := Lib.hid (HV3.out.mono hb4')
      have HU4 := Lib.hid (HU3.out.mono hb4')
      have HW4 := Lib.hid (h4.mono (below_alloc w4 (.cells #[.int .i64 0, .int .i64 0] 25)))
      clear h4 hb4 hb4' x0 y0
      have z0 := HH4.out.c0
      go_wp2_with fail
      refine (plain_of v4 C _ HP2.out (by have := HL.out.2.2; have := HSz.out; omega) _ HW4.out.at).mono ?_
      rintro e w5 ⟨v5, rfl, h5, hb5⟩
      have HB5 := Lib.hid (below_step HB4.out hb5)
      have HV5 := Lib.hid (HV4.out.mono hb5)
      have HU5 := Lib.hid (HU4.out.mono hb5)
      have HX5 := Lib.hid h5
      clear h5 hb5 z0
      have HO0 := Lib.hid (ownT_made w5)
      have HK0 := Lib.hid (below_alloc w5 (.cells #[] 38))
      have HV0 := Lib.hid (HV5.out.mono HK0.out)
      go_wp2_with (first | (at_builtin; refine wpList_append_toks rfl _ _ rfl w5.heap.size _ (.slice (some ⟨w5.heap.size, 0, none⟩) 0 0) v1 [] A rfl HO0.out rfl HV0.out (by have := HL.out.1; have := HSz.out; simp; omega) HK0.out.size ?_; intro v9 w9 h9 hb9; have HK9 := Lib.hid (HK0.out.trans hb9); have HO9 : Hid (OwnT w5.heap.size v9 A w9) := Lib.hid (by simpa using h9); have HU9 := Lib.hid (HU5.out.mono HK9.out); clear h9 hb9) | (at_builtin; refine wpList_append_toks rfl _ _ rfl w5.heap.size _ v9 v2 A B rfl HO9.out rfl HU9.out (by have := HL.out; have := HSz.out; omega) HK9.out.size ?_; intro v10 w10 h10 hb10; have HK10 := Lib.hid (HK9.out.trans hb10); have HO10 := Lib.hid h10; clear h10 hb10))
      refine (plain_of v10 (A ++ B) _ rfl (by have := HL.out; have := HSz.out; rw [List.length_append]; omega) _ HO10.out.at).mono ?_
      rintro e w11 ⟨v11, rfl, h11, hb11⟩
      have HK11 := Lib.hid (below_step HK10.out hb11)
      have HX11 := Lib.hid (HX5.out.mono HK11.out)
      have HY11 := Lib.hid h11
      clear h11 hb11
      go_wp2_with fail
      refine (same_same v5 v11 _ _ HX11.out.at HY11.out.at).mono ?_
      rintro e w12 ⟨rfl, hb12⟩
      have HK12 := Lib.hid (below_step HK11.out hb12)
      clear hb12
      go_wp2_with fail
      go_ret
      exact ⟨rfl, below_step HB5.out HK12.out⟩
end Go.Proofs.YtjlnffdklhmonaaDoor
