/-
  The reference's May: whether tokens may be.
-/
import Derived.Test.YtjlnffdklhmonaaDoorToks
import Derived.Test.YtjlnffdklhmonaaDoorBytes5
import Derived.Test.YtjlnffdklhmonaaDoorRefDecode
set_option linter.unusedVariables false
set_option linter.unusedSimpArgs false
namespace Go.Proofs.YtjlnffdklhmonaaDoor
open Go.RowKit

theorem may_next {ts : List Tok} {k : Nat} {t : Tok} (h : ts[k]? = some t) (ht : Lx.mayT t = true) (ha : Lx.may (ts.take k) = true) : Lx.may (ts.take (k + 1)) = true := by
  rw [List.take_add_one, h]
  unfold Lx.may at *
  rw [List.all_append, ha]
  simp [ht]
theorem may_bad {ts : List Tok} {k : Nat} {t : Tok} (h : ts[k]? = some t) (ht : Lx.mayT t = false) : Lx.may ts = false := by
  unfold Lx.may
  rw [List.all_eq_false]
  exact ⟨t, List.mem_of_getElem? h, by rw [ht]; simp⟩
theorem tok_new (w : World) (t : Tok) : TokAt (w.alloc (.cells #[.int .i64 t.kind, .string (str t.text), .int .i64 t.loc] 38)) w.heap.size 0 t := ⟨by simp, by simp, by simp⟩
theorem mayT_kind {K A : Int} {S : List UInt8} (h : K < 0 ∨ 3 < K) : Lx.mayT ⟨K, S, A⟩ = false := by
  unfold Lx.mayT
  rw [if_neg (by simp only []; omega), if_neg (by simp only []; omega), if_neg (by simp only []; omega)]
theorem mayT_brace {K A : Int} {S : List UInt8} (h : K = 2 ∨ K = 3) : Lx.mayT ⟨K, S, A⟩ = S.isEmpty := by
  unfold Lx.mayT
  rw [if_neg (by simp only []; omega), if_neg (by simp only []; omega), if_pos h]
theorem mayT_word {A : Int} {S : List UInt8} : Lx.mayT ⟨0, S, A⟩ = (!S.isEmpty && (Ut.clean S && S.all fun c => !Lx.blank c)) := rfl
theorem mayT_cmd {A : Int} {S : List UInt8} : Lx.mayT ⟨1, S, A⟩ = (!S.isEmpty && S.all Lx.alpha) := rfl
theorem alpha_clean {S : List UInt8} (h : S.all Lx.alpha = true) : Ut.clean S = true := Lx.clean_low S (fun c hc => (Lx.alpha_not (List.all_eq_true.1 h c hc)).2.2.2.2.1)
theorem empty_str (l : List UInt8) : (str l).toList.isEmpty = l.isEmpty := by rw [Lib.toList_data, str_data]
theorem str_size (l : List UInt8) : (str l).size = l.length := by rw [Lib.size_eq, str_data]
theorem all_next {l : List UInt8} {p : UInt8 → Bool} {i : Nat} {c : UInt8} (h : l[i]? = some c) (hc : p c = true) (ha : (l.take i).all p = true) : (l.take (i + 1)).all p = true := by
  rw [List.take_add_one, h, List.all_append, ha]
  simp [hc]
theorem all_bad {l : List UInt8} {p : UInt8 → Bool} {i : Nat} {c : UInt8} (h : l[i]? = some c) (hc : p c = false) : l.all p = false := by
  rw [List.all_eq_false]
  exact ⟨c, List.mem_of_getElem? h, by rw [hc]; simp⟩
theorem byte_str (l : List UInt8) (i : Nat) (h : i < (str l).size) : l[i]? = some ((str l)[i]) := by
  have := byte_at (str l) i h
  rw [str_data] at this
  exact this

theorem refDecode_str (S : List UInt8) (h : S.length * 8 ≤ 140737488355328) (w : World) : Calls Tryd.prog 29 #[.string (str S)] w (DecPost S w) := by
  have h1 := refDecode_any (str S) (by rw [str_size]; exact h) w
  rw [str_data] at h1
  exact h1
set_option maxHeartbeats 1000000 in
set_option maxRecDepth 100000 in
theorem refMay_nil (p : Option Addr) (cap : Nat) (w : World) : Calls Tryd.prog 15 #[.slice p 0 cap] w (Ret (.bool true) w) := by
  go_enter Tryd.func15, Tryd.ntmps15
  go_wp2
  refine wp_loop_rounds 1 ?_
  rw [rounds_succ]
  go_wp2
  go_ret
  exact ⟨rfl, Below.refl _ _⟩

set_option maxHeartbeats 8000000 in
set_option maxRecDepth 100000 in
theorem refMay_some (b o cap : Nat) (ts : List Tok) (hn : ts.length ≤ 9223372036854775807) (hx : ∀ t ∈ ts, t.text.length * 8 ≤ 140737488355328) (w : World) (hc : ∀ i t, ts[i]? = some t → TokAt w b (o + i * 3) t) :
    Calls Tryd.prog 15 #[.slice (some ⟨b, o, none⟩) ts.length cap] w (Ret (.bool (Lx.may ts)) w) := by
  have HC := Lib.hid hc
  have HX := Lib.hid hx
  clear hc hx
  go_enter Tryd.func15, Tryd.ntmps15
  go_wp2
  go_loopw [3] (fun iv wr => ∃ k : Nat, k ≤ ts.length ∧ iv = .int .i64 k ∧ Hid (Lx.may (ts.take k) = true) ∧ Hid (Below w.heap.size w wr)) (fun iv _ => ts.length - (intOf iv).toNat)
  case atStart => exact ⟨0, Nat.zero_le _, rfl, Lib.hid rfl, Lib.hid (Below.refl _ _)⟩
  case round =>
    obtain ⟨k, hk, rfl, HA, HB⟩ := hrel
    by_cases hlt : k < ts.length
    · obtain ⟨⟨K, S, A⟩, ht⟩ : ∃ t, ts[k]? = some t := ⟨_, List.getElem?_eq_getElem hlt⟩
      have DT := HC.out k _ ht
      have d1 := cell_below HB.out DT.k
      have d2 := cell_below HB.out DT.s
      have d3 := cell_below HB.out DT.a
      simp only [] at d1 d2 d3
      have k0 : (0 : Int) ≤ (k : Int) := by omega
      have k1 : (k : Int) < (ts.length : Int) := by omega
      have HTx := Lib.hid (HX.out _ (List.mem_of_getElem? ht))
      have HT := Lib.hid ht
      have HB1 := Lib.hid (HB.out.alloc HB.out.size (.cells #[.int .i64 K, .string (str S), .int .i64 A] 38))
      have HN1 : Hid (TokAt (wr.alloc (.cells #[.int .i64 K, .string (str S), .int .i64 A] 38)) wr.heap.size 0 ⟨K, S, A⟩) := Lib.hid (tok_new wr ⟨K, S, A⟩)
      have hes := empty_str S
      clear DT ht
      by_cases hK : K < 0 ∨ 3 < K
      · have HO := Lib.hid (may_bad HT.out (mayT_kind hK))
        clear hes
        by_cases hK0 : K < 0
        · clear hK
          go_wp2_with fail
          go_ret
          exact ⟨ret_bool HO.out.symm, HB1.out⟩
        · have hK3 : 3 < K := by omega
          clear hK
          go_wp2_with fail
          go_ret
          exact ⟨ret_bool HO.out.symm, HB1.out⟩
      · by_cases hK2 : K = 2 ∨ K = 3
        · have h2 : 1 < K := by omega
          have h3 : K ≤ 3 := by omega
          cases hS : S.isEmpty with
          | false =>
            rw [hS] at hes
            have HO := Lib.hid (may_bad HT.out (show Lx.mayT ⟨K, S, A⟩ = false from (by rw [mayT_brace hK2, hS])))
            clear hK hK2 hS
            go_wp2_with fail
            go_ret
            exact ⟨ret_bool HO.out.symm, HB1.out⟩
          | true =>
            have HM := Lib.hid (may_next HT.out (show Lx.mayT ⟨K, S, A⟩ = true from (by rw [mayT_brace hK2, hS])) HA.out)
            have h0 : S = [] := List.isEmpty_iff.1 hS
            subst h0
            have cD : Hid (∀ w, Calls Tryd.prog 29 #[.string (str [])] w (fun e w' => ∃ v, e = .returned (.tuple #[v, .agg #[.int .i64 0, .int .i64 0]]) ∧ Below w.heap.size w w')) := Lib.hid (fun w => (refDecode_str [] (by simp) w).mono fun e w' h => by
              obtain ⟨v, he, _, hb⟩ := h
              have hx := dec_yes (l := []) (by decide)
              exact ⟨v, by rw [he, hx.2.1, hx.2.2.1]; rfl, hb⟩)
            rw [hS] at hes
            have hz : (str []).size = 0 := rfl
            clear hK hK2 hS
            go_wp2_with fail
            refine (cD.out _).mono ?_
            rintro e w2 ⟨v2, rfl, hb2⟩
            have hb2' := below_step hb2 (below_alloc w2 (.cells #[.int .i64 0, .int .i64 0] 25))
            have HF2 := Lib.hid (flt_new w2 0 0)
            have x0 := HF2.out.c0
            have x1 := HF2.out.c1
            have HN2 := HN1.out.mono hb2'
            have HB2 := Lib.hid (below_step HB1.out hb2')
            have n0 := HN2.k
            have n1 := HN2.s
            simp only [Nat.zero_add] at n0 n1
            clear hb2 hb2' HN2
            go_wp2_with fail
            refine wp_loop_rounds 1 ?_
            rw [rounds_succ]
            go_wp2_with fail
            go_roundw
            case rel => exact ⟨k + 1, by omega, by go_num, HM, HB2⟩
            case measure => simp [intOf]; omega
        · cases hS : S.isEmpty with
          | true =>
            rw [hS] at hes
            have h2 : K < 2 := by omega
            have h1 : 0 ≤ K := by omega
            have HO := Lib.hid (may_bad HT.out (show Lx.mayT ⟨K, S, A⟩ = false from (by
              have h0 : S = [] := List.isEmpty_iff.1 hS
              subst h0
              rcases (show K = 0 ∨ K = 1 by omega) with rfl | rfl <;> rfl)))
            clear hK hK2 hS
            go_wp2_with fail
            go_ret
            exact ⟨ret_bool HO.out.symm, HB1.out⟩
          | false =>
            rw [hS] at hes
            have hne : (!S.isEmpty) = true := by rw [hS]; rfl
            by_cases hK0 : K = 0
            · subst hK0
              clear hK hK2 hS
              cases hcl : Ut.clean S with
              | false =>
                have HO := Lib.hid (may_bad HT.out (show Lx.mayT ⟨0, S, A⟩ = false from (by rw [mayT_word, hcl]; simp)))
                obtain ⟨st, hst⟩ : ∃ st : Nat, st = Ut.stop S := ⟨_, rfl⟩
                have cD : Hid (∀ w, Calls Tryd.prog 29 #[.string (str S)] w (fun e w' => ∃ v, e = .returned (.tuple #[v, .agg #[.int .i64 40, .int .i64 (st : Int)]]) ∧ Below w.heap.size w w')) := Lib.hid (fun w => (refDecode_str S HTx.out w).mono fun e w' h => by
                  obtain ⟨v, he, _, hb⟩ := h
                  have hx := dec_no hcl
                  exact ⟨v, by rw [he, hx.2.1, hx.2.2.1, hst]; rfl, hb⟩)
                clear hcl hst
                go_wp2_with fail
                refine (cD.out _).mono ?_
                rintro e w2 ⟨v2, rfl, hb2⟩
                have hb2' := below_step hb2 (below_alloc w2 (.cells #[.int .i64 40, .int .i64 (st : Int)] 25))
                have HB2 := Lib.hid (below_step HB1.out hb2')
                have HF2 := Lib.hid (flt_new w2 40 (st : Int))
                have x0 := HF2.out.c0
                have x1 := HF2.out.c1
                clear hb2 hb2'
                go_wp2_with fail
                go_ret
                exact ⟨ret_bool HO.out.symm, HB2.out⟩
              | true =>
                have HCl := Lib.hid hcl
                have cD : Hid (∀ w, Calls Tryd.prog 29 #[.string (str S)] w (fun e w' => ∃ v, e = .returned (.tuple #[v, .agg #[.int .i64 0, .int .i64 0]]) ∧ Below w.heap.size w w')) := Lib.hid (fun w => (refDecode_str S HTx.out w).mono fun e w' h => by
                  obtain ⟨v, he, _, hb⟩ := h
                  have hx := dec_yes hcl
                  exact ⟨v, by rw [he, hx.2.1, hx.2.2.1]; rfl, hb⟩)
                clear hcl
                go_wp2_with fail
                refine (cD.out _).mono ?_
                rintro e w2 ⟨v2, rfl, hb2⟩
                have hb2' := below_step hb2 (below_alloc w2 (.cells #[.int .i64 0, .int .i64 0] 25))
                obtain ⟨W2, hW2⟩ : ∃ W2, W2 = w2.alloc (.cells #[.int .i64 0, .int .i64 0] 25) := ⟨_, rfl⟩
                have HF2 := Lib.hid (flt_new w2 0 0)
                have x0 := HF2.out.c0
                have x1 := HF2.out.c1
                have HN2 := HN1.out.mono hb2'
                have HB2 := Lib.hid (below_step HB1.out hb2')
                rw [← hW2] at HB2 HN2
                have n0 := HN2.k
                have n1 := HN2.s
                have n2 := HN2.a
                simp only [Nat.zero_add] at n0 n1 n2
                clear hb2 hb2' HN2
                have m1 := n1
                rw [hW2] at m1
                go_wp2_with fail
                rw [← hW2]
                clear x0 x1 m1 HF2 hW2
                have hSz : ((str S).size : Int) ≤ 9223372036854775807 := by
                  have h : S.length * 8 ≤ 140737488355328 := HTx.out
                  rw [str_size]
                  omega
                go_loopw [7] (fun iv wq => ∃ i : Nat, i ≤ (str S).size ∧ iv = .int .i64 i ∧ Hid ((S.take i).all (fun c => !Lx.blank c) = true) ∧ wq = W2) (fun iv _ => (str S).size - (intOf iv).toNat)
                case atStart => exact ⟨0, Nat.zero_le _, rfl, Lib.hid rfl, rfl⟩
                case round =>
                  obtain ⟨i, hi0, rfl, HI, rfl⟩ := hrel
                  by_cases hi : i < (str S).size
                  · have i0 : (0 : Int) ≤ (i : Int) := by omega
                    have i1 : (i : Int) < ((str S).size : Int) := by omega
                    have cB := Lib.hid (fun w => refBlank_any (str S)[i] w)
                    cases hbc : Lx.blank (str S)[i] with
                    | true =>
                      have HO := Lib.hid (may_bad HT.out (show Lx.mayT ⟨0, S, A⟩ = false from (by rw [mayT_word, all_bad (p := fun c => !Lx.blank c) (byte_str S i hi) (by rw [hbc]; rfl)]; simp)))
                      rw [hbc] at cB
                      clear hbc
                      go_wp2_with fail
                      refine (cB.out _).mono ?_
                      rintro e w4 ⟨rfl, rfl⟩
                      go_wp2_with fail
                      go_ret
                      exact ⟨ret_bool HO.out.symm, HB2.out⟩
                    | false =>
                      have HI2 := Lib.hid (all_next (p := fun c => !Lx.blank c) (byte_str S i hi) (by rw [hbc]; rfl) HI.out)
                      rw [hbc] at cB
                      clear hbc
                      go_wp2_with fail
                      refine (cB.out _).mono ?_
                      rintro e w4 ⟨rfl, rfl⟩
                      go_wp2_with fail
                      go_roundw
                      case rel => exact ⟨i + 1, by omega, by go_num, HI2, by trivial⟩
                      case measure => simp [intOf]; omega
                  · have hAll : S.all (fun c => !Lx.blank c) = true := by
                      have h := HI.out
                      rwa [List.take_of_length_le (by rw [← str_size]; omega)] at h
                    have HAll := hAll
                    have HM := Lib.hid (may_next HT.out (show Lx.mayT ⟨0, S, A⟩ = true from (by rw [mayT_word, hne, HCl.out]; show (true && (true && S.all fun c => !Lx.blank c)) = true; rw [HAll]; rfl)) HA.out)
                    clear hAll HAll
                    go_wp2_with fail
                    go_roundw
                    case rel => exact ⟨k + 1, by omega, by go_num, HM, HB2⟩
                    case measure => simp [intOf]; omega
            · obtain rfl : K = 1 := by omega
              clear hK hK2 hS hK0
              cases hcl : Ut.clean S with
              | false =>
                have HO := Lib.hid (may_bad HT.out (show Lx.mayT ⟨1, S, A⟩ = false from (by rw [mayT_cmd]; cases ha : S.all Lx.alpha with | false => simp | true => rw [alpha_clean ha] at hcl; cases hcl)))
                obtain ⟨st, hst⟩ : ∃ st : Nat, st = Ut.stop S := ⟨_, rfl⟩
                have cD : Hid (∀ w, Calls Tryd.prog 29 #[.string (str S)] w (fun e w' => ∃ v, e = .returned (.tuple #[v, .agg #[.int .i64 40, .int .i64 (st : Int)]]) ∧ Below w.heap.size w w')) := Lib.hid (fun w => (refDecode_str S HTx.out w).mono fun e w' h => by
                  obtain ⟨v, he, _, hb⟩ := h
                  have hx := dec_no hcl
                  exact ⟨v, by rw [he, hx.2.1, hx.2.2.1, hst]; rfl, hb⟩)
                clear hcl hst
                go_wp2_with fail
                refine (cD.out _).mono ?_
                rintro e w2 ⟨v2, rfl, hb2⟩
                have hb2' := below_step hb2 (below_alloc w2 (.cells #[.int .i64 40, .int .i64 (st : Int)] 25))
                have HB2 := Lib.hid (below_step HB1.out hb2')
                have HF2 := Lib.hid (flt_new w2 40 (st : Int))
                have x0 := HF2.out.c0
                have x1 := HF2.out.c1
                clear hb2 hb2'
                go_wp2_with fail
                go_ret
                exact ⟨ret_bool HO.out.symm, HB2.out⟩
              | true =>
                have HCl := Lib.hid hcl
                have cD : Hid (∀ w, Calls Tryd.prog 29 #[.string (str S)] w (fun e w' => ∃ v, e = .returned (.tuple #[v, .agg #[.int .i64 0, .int .i64 0]]) ∧ Below w.heap.size w w')) := Lib.hid (fun w => (refDecode_str S HTx.out w).mono fun e w' h => by
                  obtain ⟨v, he, _, hb⟩ := h
                  have hx := dec_yes hcl
                  exact ⟨v, by rw [he, hx.2.1, hx.2.2.1]; rfl, hb⟩)
                clear hcl
                go_wp2_with fail
                refine (cD.out _).mono ?_
                rintro e w2 ⟨v2, rfl, hb2⟩
                have hb2' := below_step hb2 (below_alloc w2 (.cells #[.int .i64 0, .int .i64 0] 25))
                obtain ⟨W2, hW2⟩ : ∃ W2, W2 = w2.alloc (.cells #[.int .i64 0, .int .i64 0] 25) := ⟨_, rfl⟩
                have HF2 := Lib.hid (flt_new w2 0 0)
                have x0 := HF2.out.c0
                have x1 := HF2.out.c1
                have HN2 := HN1.out.mono hb2'
                have HB2 := Lib.hid (below_step HB1.out hb2')
                rw [← hW2] at HB2 HN2
                have n0 := HN2.k
                have n1 := HN2.s
                have n2 := HN2.a
                simp only [Nat.zero_add] at n0 n1 n2
                clear hb2 hb2' HN2
                have m1 := n1
                rw [hW2] at m1
                go_wp2_with fail
                rw [← hW2]
                clear x0 x1 m1 HF2 hW2
                have hSz : ((str S).size : Int) ≤ 9223372036854775807 := by
                  have h : S.length * 8 ≤ 140737488355328 := HTx.out
                  rw [str_size]
                  omega
                go_loopw [7] (fun iv wq => ∃ i : Nat, i ≤ (str S).size ∧ iv = .int .i64 i ∧ Hid ((S.take i).all Lx.alpha = true) ∧ wq = W2) (fun iv _ => (str S).size - (intOf iv).toNat)
                case atStart => exact ⟨0, Nat.zero_le _, rfl, Lib.hid rfl, rfl⟩
                case round =>
                  obtain ⟨i, hi0, rfl, HI, rfl⟩ := hrel
                  by_cases hi : i < (str S).size
                  · have i0 : (0 : Int) ≤ (i : Int) := by omega
                    have i1 : (i : Int) < ((str S).size : Int) := by omega
                    have cB := Lib.hid (fun w => refAlpha_any (str S)[i] w)
                    cases hbc : Lx.alpha (str S)[i] with
                    | false =>
                      have HO := Lib.hid (may_bad HT.out (show Lx.mayT ⟨1, S, A⟩ = false from (by rw [mayT_cmd, all_bad (p := Lx.alpha) (byte_str S i hi) hbc]; simp)))
                      rw [hbc] at cB
                      clear hbc
                      go_wp2_with fail
                      refine (cB.out _).mono ?_
                      rintro e w4 ⟨rfl, rfl⟩
                      go_wp2_with fail
                      go_ret
                      exact ⟨ret_bool HO.out.symm, HB2.out⟩
                    | true =>
                      have HI2 := Lib.hid (all_next (p := Lx.alpha) (byte_str S i hi) hbc HI.out)
                      rw [hbc] at cB
                      clear hbc
                      go_wp2_with fail
                      refine (cB.out _).mono ?_
                      rintro e w4 ⟨rfl, rfl⟩
                      go_wp2_with fail
                      go_roundw
                      case rel => exact ⟨i + 1, by omega, by go_num, HI2, by trivial⟩
                      case measure => simp [intOf]; omega
                  · have hAll : S.all Lx.alpha = true := by
                      have h := HI.out
                      rwa [List.take_of_length_le (by rw [← str_size]; omega)] at h
                    have HAll := hAll
                    have HM := Lib.hid (may_next HT.out (show Lx.mayT ⟨1, S, A⟩ = true from (by rw [mayT_cmd, hne]; show (true && S.all Lx.alpha) = true; rw [HAll]; rfl)) HA.out)
                    clear hAll HAll
                    go_wp2_with fail
                    go_roundw
                    case rel => exact ⟨k + 1, by omega, by go_num, HM, HB2⟩
                    case measure => simp [intOf]; omega
    · have HT : Hid (ts.take k = ts) := Lib.hid (List.take_of_length_le (by omega))
      go_wp2_with fail
      go_ret
      exact ⟨ret_bool (by have h := HA.out; rw [HT.out] at h; exact h.symm), HB.out⟩

/-- The reference's May, at every slice of tokens whose texts are not too long. -/
theorem refMay_any (v : Value) (ts : List Tok) (hx : ∀ t ∈ ts, t.text.length * 8 ≤ 140737488355328) (w : World) (h : ToksAt w v ts) : Calls Tryd.prog 15 #[v] w (Ret (.bool (Lx.may ts)) w) := by
  obtain ⟨⟨p, c, rfl, _⟩, m, k⟩ := h
  rcases Nat.eq_zero_or_pos ts.length with h0 | h0
  · obtain rfl : ts = [] := List.eq_nil_of_length_eq_zero h0
    exact refMay_nil p c w
  · obtain ⟨b, o, d, e, q⟩ := k h0
    obtain ⟨rfl, rfl⟩ : p = some ⟨b, o, none⟩ ∧ c = d := by injection e with a1 a2 a3; exact ⟨a1, a3⟩
    exact refMay_some b o _ ts (by unfold maxLen at m; omega) hx w q
end Go.Proofs.YtjlnffdklhmonaaDoor
