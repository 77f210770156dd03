/-
  What the program's May answers: whether tokens may be.
-/
import Derived.Test.YtjlnffdklhmonaaDoorCallLex5
set_option linter.unusedVariables false
set_option linter.unusedSimpArgs false
namespace Go.Proofs.YtjlnffdklhmonaaDoor
open Go.RowKit

theorem decode_str (S : List UInt8) (h : S.length * 8 ≤ 140737488355328) (w : World) (hT : Tabs w) : Calls Tryd.prog 23 #[.string (str S)] w (DecPost S w) := by
  have h1 := decode_any (str S) (by rw [str_size]; exact h) w hT
  rw [str_data] at h1
  exact h1
/-- whether a text may be a word's -/
def wordB (S : List UInt8) : Bool := !S.isEmpty && (Ut.clean S && S.all fun c => !Lx.blank c)
theorem cls_not_blank {c : UInt8} (h : Lx.blank c = false) : (cls c == 1) = false := by
  unfold cls
  rw [h, if_neg (by simp)]
  split
  · rfl
  · split
    · rfl
    · split
      · rfl
      · split <;> rfl

set_option maxHeartbeats 4000000 in
set_option maxRecDepth 100000 in
theorem isWord_any (S : List UInt8) (hs : S.length * 8 ≤ 140737488355328) (w : World) (hT : Tabs w) : Calls Tryd.prog 49 #[.string (str S)] w (Ret (.bool (wordB S)) w) := by
  have HS := Lib.hid hs
  have HT := Lib.hid hT
  have hSz : ((str S).size : Int) ≤ 9223372036854775807 := by rw [str_size]; omega
  have hes := empty_str S
  clear hT
  go_enter Tryd.func49, Tryd.ntmps49
  go_wp2_with fail
  go_loopw [8] (fun iv wr => ∃ k : Nat, k ≤ (str S).size ∧ iv = .int .i64 k ∧ Hid ((S.take k).all (fun c => !Lx.blank c) = true) ∧ wr = w) (fun iv _ => (str S).size - (intOf iv).toNat)
  case atStart => exact ⟨0, Nat.zero_le _, rfl, Lib.hid rfl, rfl⟩
  case round =>
    obtain ⟨k, hk, rfl, HA, rfl⟩ := hrel
    by_cases hlt : k < (str S).size
    · have k0 : (0 : Int) ≤ (k : Int) := by omega
      have k1 : (k : Int) < ((str S).size : Int) := by omega
      have cC := Lib.hid (fun w => classOf_any (str S)[k] w)
      cases hbl : Lx.blank (str S)[k] with
      | true =>
        have HO : Hid (wordB S = false) := Lib.hid (by unfold wordB; rw [all_bad (p := fun c => !Lx.blank c) (byte_str S k hlt) (by rw [hbl]; rfl)]; simp)
        rw [cls_blank hbl] at cC
        clear hbl hes
        go_wp2_with fail
        refine (cC.out _).mono ?_
        rintro e w1 ⟨rfl, rfl⟩
        go_wp2_with fail
        go_ret
        exact ⟨ret_bool HO.out.symm, Below.refl _ _⟩
      | false =>
        have HA2 := Lib.hid (all_next (p := fun c => !Lx.blank c) (byte_str S k hlt) (by rw [hbl]; rfl) HA.out)
        have hcn := cls_not_blank hbl
        obtain ⟨n, hn⟩ : ∃ n, n = cls (str S)[k] := ⟨_, rfl⟩
        rw [← hn] at cC hcn
        clear hbl hn hes
        go_wp2_with fail
        refine (cC.out _).mono ?_
        rintro e w1 ⟨rfl, rfl⟩
        go_wp2_with fail
        go_roundw
        case rel => exact ⟨k + 1, by omega, by go_num, HA2, by trivial⟩
        case measure => simp [intOf]; omega
    · have hAll : S.all (fun c => !Lx.blank c) = true := by
        have h := HA.out
        rwa [List.take_of_length_le (by rw [← str_size]; omega)] at h
      have HAll := Lib.hid hAll
      clear hAll
      cases hcl : Ut.clean S with
      | false =>
        obtain ⟨st, hst⟩ : ∃ st : Nat, st = Ut.stop S := ⟨_, rfl⟩
        have HO : Hid (wordB S = false) := Lib.hid (by unfold wordB; rw [hcl]; simp)
        have cD : Hid (∀ w, Tabs w → Calls Tryd.prog 23 #[.string (str S)] w (fun e w' => ∃ v, e = .returned (.tuple #[v, .agg #[.int .i64 40, .int .i64 (st : Int)]]) ∧ Below w.heap.size w w')) := Lib.hid (fun w hT => (decode_str S HS.out w hT).mono fun e w' h => by
          obtain ⟨v, he, _, hb⟩ := h
          have hx := dec_no hcl
          exact ⟨v, by rw [he, hx.2.1, hx.2.2.1, hst]; rfl, hb⟩)
        have hne : S ≠ [] := by rintro rfl; cases hcl
        have hxe : (str S).toList.isEmpty = false := by rw [hes]; exact List.isEmpty_eq_false_iff.2 hne
        clear hcl hst hes hne
        go_wp2_with fail
        refine (cD.out _ HT.out).mono ?_
        rintro e w2 ⟨v2, rfl, hb2⟩
        have hb2' := below_step hb2 (below_alloc w2 (.cells #[.int .i64 40, .int .i64 (st : Int)] 25))
        have HB2 := Lib.hid hb2'
        have HF2 := Lib.hid (flt_new w2 40 (st : Int))
        have x0 := HF2.out.c0
        have x1 := HF2.out.c1
        clear hb2 hb2'
        go_wp2_with fail
        go_ret
        exact ⟨ret_bool HO.out.symm, HB2.out⟩
      | true =>
        have cD : Hid (∀ w, Tabs w → Calls Tryd.prog 23 #[.string (str S)] w (fun e w' => ∃ v, e = .returned (.tuple #[v, .agg #[.int .i64 0, .int .i64 0]]) ∧ Below w.heap.size w w')) := Lib.hid (fun w hT => (decode_str S HS.out w hT).mono fun e w' h => by
          obtain ⟨v, he, _, hb⟩ := h
          have hx := dec_yes hcl
          exact ⟨v, by rw [he, hx.2.1, hx.2.2.1]; rfl, hb⟩)
        cases hxe : S.isEmpty with
        | true =>
          have HO : Hid (wordB S = false) := Lib.hid (by unfold wordB; rw [hxe]; rfl)
          rw [hxe] at hes
          clear hcl hxe
          go_wp2_with fail
          refine (cD.out _ HT.out).mono ?_
          rintro e w2 ⟨v2, rfl, hb2⟩
          have hb2' := below_step hb2 (below_alloc w2 (.cells #[.int .i64 0, .int .i64 0] 25))
          have HB2 := Lib.hid hb2'
          have HF2 := Lib.hid (flt_new w2 0 0)
          have x0 := HF2.out.c0
          have x1 := HF2.out.c1
          clear hb2 hb2'
          go_wp2_with fail
          go_ret
          exact ⟨ret_bool HO.out.symm, HB2.out⟩
        | false =>
          have HO : Hid (wordB S = true) := Lib.hid (by unfold wordB; rw [hxe, hcl, HAll.out]; rfl)
          rw [hxe] at hes
          clear hcl hxe
          go_wp2_with fail
          refine (cD.out _ HT.out).mono ?_
          rintro e w2 ⟨v2, rfl, hb2⟩
          have hb2' := below_step hb2 (below_alloc w2 (.cells #[.int .i64 0, .int .i64 0] 25))
          have HB2 := Lib.hid hb2'
          have HF2 := Lib.hid (flt_new w2 0 0)
          have x0 := HF2.out.c0
          have x1 := HF2.out.c1
          clear hb2 hb2'
          go_wp2_with fail
          go_ret
          exact ⟨ret_bool HO.out.symm, HB2.out⟩

theorem letters_str (S : List UInt8) (h : S.length ≤ 4611686018427387904) (w : World) : Calls Tryd.prog 26 #[.string (str S)] w (Is (.string (str (S.takeWhile Lx.alpha))) w) := by
  have h1 := letters_any (str S) (by rw [str_size]; exact h) w
  rw [str_data] at h1
  exact h1
theorem while_all (p : UInt8 → Bool) (S : List UInt8) : (S.takeWhile p == S) = S.all p := by
  induction S with
  | nil => rfl
  | cons c r ih =>
    rw [List.takeWhile_cons, List.all_cons]
    cases hp : p c with
    | false => rfl
    | true =>
      show (c :: r.takeWhile p == c :: r) = _
      rw [Bool.true_and, ← ih, List.cons_beq_cons]
      simp

set_option maxHeartbeats 4000000 in
set_option maxRecDepth 100000 in
theorem valid_any (t : Tok) (hs : t.text.length * 8 ≤ 140737488355328) (w : World) (hT : Tabs w) : Calls Tryd.prog 33 #[tokV t] w (Ret (.bool (Lx.mayT t)) w) := by
  obtain ⟨K, S, A⟩ := t
  unfold tokV
  simp only [] at hs ⊢
  have HB0 := Lib.hid (below_alloc w (.cells #[.int .i64 K, .string (str S), .int .i64 A] 38))
  have HT0 := Lib.hid (hT.mono HB0.out)
  have hes := empty_str S
  by_cases hK0 : K = 0
  · subst hK0
    have cW := Lib.hid (fun w hT => isWord_any S hs w hT)
    rw [mayT_word]
    clear hs hT hes
    go_enter Tryd.func33, Tryd.ntmps33
    go_wp2_with fail
    refine (cW.out _ HT0.out).mono ?_
    rintro e w1 ⟨rfl, hb1⟩
    have HB1 := Lib.hid (below_step HB0.out hb1)
    clear hb1
    go_wp2_with fail
    go_ret
    exact ⟨rfl, HB1.out⟩
  · by_cases hK1 : K = 1
    · subst hK1
      have cL := Lib.hid (fun w => letters_str S (by omega) w)
      have hw := while_all Lx.alpha S
      rw [mayT_cmd]
      have HEq := Lib.hid (str_eq (S.takeWhile Lx.alpha) S)
      clear hs hT hK0
      cases hSe : S.isEmpty with
      | true =>
        rw [hSe] at hes
        go_enter Tryd.func33, Tryd.ntmps33
        go_wp2_with fail
        go_quiet (fail)
        go_wp2_with fail
        go_ret
        exact ⟨rfl, below_step HB0.out (below_drew _ _)⟩
      | false =>
        rw [hSe] at hes
        have hd : ((str S).toList.isEmpty) = false := hes
        rw [← hw, ← str_eq]
        obtain ⟨X, hX⟩ : ∃ X, X = str (S.takeWhile Lx.alpha) := ⟨_, rfl⟩
        rw [← hX] at cL ⊢
        clear hX HEq hw
        go_enter Tryd.func33, Tryd.ntmps33
        go_wp2_with fail
        go_quiet ((go_at_call 26; refine Calls.quiet_of_same ((cL.out _).mono fun _ _ h => ⟨h.1, h.2.symm⟩)))
        go_wp2_with fail
        go_ret
        exact ⟨rfl, below_step HB0.out (below_drew _ _)⟩
    · by_cases hK2 : K = 2 ∨ K = 3
      · rw [mayT_brace hK2, ← hes]
        clear hs hT hK0 hK1 hes
        rcases hK2 with rfl | rfl
        · go_enter Tryd.func33, Tryd.ntmps33
          go_wp2_with fail
          go_ret
          exact ⟨rfl, HB0.out⟩
        · go_enter Tryd.func33, Tryd.ntmps33
          go_wp2_with fail
          go_ret
          exact ⟨rfl, HB0.out⟩
      · rw [mayT_kind (by omega)]
        have e0 := bne0 hK0
        have e1 := bne0 hK1
        have e2 : (K == 2) = false := bne0 (by omega)
        have e3 : (K == 3) = false := bne0 (by omega)
        clear hs hT hK0 hK1 hK2 hes
        go_enter Tryd.func33, Tryd.ntmps33
        go_wp2_with fail
        go_ret
        exact ⟨rfl, HB0.out⟩
end Go.Proofs.YtjlnffdklhmonaaDoor
