/-
  The walk of the law LexerPlaces: it returns true.
-/
import Derived.Test.YtjlnffdklhmonaaDoorLawGaps5
import Derived.BigQuiet
set_option linter.unusedVariables false
set_option linter.unusedSimpArgs false
namespace Go.Proofs.YtjlnffdklhmonaaDoor
open Go.RowKit

theorem lexF_stop : ∀ (f p : Nat) (l : List UInt8) (a : Nat), (Lx.lexF f p l).2 = some a → a ≤ p + l.length
  | 0, p, l, a, h => by cases h
  | f + 1, p, [], a, h => by cases h
  | f + 1, p, c :: r, a, h => by
    unfold Lx.lexF at h
    cases hs : Lx.step (c :: r) with
    | bad =>
      rw [hs] at h
      simp at h
      omega
    | gap n =>
      rw [hs] at h
      simp only [] at h
      have h1 := lexF_stop f (p + n) _ a h
      by_cases hn : n ≤ (c :: r).length
      · rw [List.length_drop] at h1; omega
      · rw [List.drop_of_length_le (by omega)] at h
        cases f <;> cases h
    | tok k t n =>
      rw [hs] at h
      simp only [] at h
      have h1 := lexF_stop f (p + n) _ a h
      by_cases hn : n ≤ (c :: r).length
      · rw [List.length_drop] at h1; omega
      · rw [List.drop_of_length_le (by omega)] at h
        cases f <;> cases h
theorem lexA_in (s : List UInt8) : 0 ≤ Lx.lexA s ∧ Lx.lexA s ≤ (s.length : Int) := by
  unfold Lx.lexA
  cases hc : Ut.clean s with
  | false =>
    have := Ut.stop_lt hc
    simp only [Bool.false_eq_true, if_false]
    omega
  | true =>
    simp only [if_true]
    cases h : (Lx.lex 0 s).2 with
    | none => simp
    | some a =>
      have h1 := lexF_stop _ _ _ _ h
      simp only []
      omega
theorem toks_take {w : World} {p : Option Addr} {n cap : Nat} {ts : List Tok} (h : ToksAt w (.slice p n cap) ts) (j : Nat) (hj : j ≤ ts.length) : ToksAt w (.slice p j cap) (ts.take j) := by
  obtain ⟨⟨p', c', e, hcap⟩, hm, hc⟩ := h
  injection e with e1 e2 e3
  subst e1 e2 e3
  have hl : (ts.take j).length = j := by rw [List.length_take]; omega
  refine ⟨⟨p, cap, by rw [hl], by rw [hl]; omega⟩, by rw [hl]; omega, fun hp => ?_⟩
  rw [hl] at hp
  obtain ⟨b, o, c, e, hq⟩ := hc (by omega)
  injection e with e1 _ e3
  subst e1 e3
  refine ⟨b, o, cap, by rw [hl], fun i x hx => hq i x ?_⟩
  rw [List.getElem?_take] at hx
  split at hx
  · exact hx
  · cases hx
theorem take_text (s : ByteArray) (n : Nat) : (s.extract 0 n).data.toList = s.data.toList.take n := by
  rw [ByteArray.data_extract, Array.toList_extract]
  simp

set_option maxHeartbeats 2000000 in
set_option maxRecDepth 100000 in
theorem places_bad (s : ByteArray) (hs : s.size ≤ 549755813888) (hok : Lx.lexOk s.data.toList = false) (w : World) (hT : Tabs w) : Calls Tryd.prog 7 #[.string s] w (Ret (.bool true) w) := by
  have HT := Lib.hid hT
  obtain ⟨c, hcd⟩ : ∃ c, c = Lx.lexC s.data.toList := ⟨_, rfl⟩
  obtain ⟨a, had⟩ : ∃ a, a = Lx.lexA s.data.toList := ⟨_, rfl⟩
  have HD := Lib.hid (fun w hT => lex_is s (by omega) _ c a rfl hcd.symm had.symm w hT)
  obtain ⟨k1, k2⟩ := Lx.lex_no hok
  have ha := lexA_in s.data.toList
  rw [← had, ← Lib.size_eq] at ha
  have a0 : (0 : Int) ≤ a := ha.1
  have a1 : a ≤ (s.size : Int) := ha.2
  have hc0 : (c == 0) = false := by rw [hcd]; exact beq_eq_false_iff_ne.2 k2
  have hc1 : (c != 0) = true := by simp only [bne, hc0]; rfl
  clear hcd had k1 k2 hok hs hT ha
  go_enter Tryd.func7, Tryd.ntmps7
  go_wp2_with fail
  refine (HD.out _ HT.out).mono ?_
  rintro e w1 ⟨v1, rfl, h1, hb1⟩
  have HB1 := Lib.hid (below_step hb1 (below_alloc w1 (.cells #[.int .i64 c, .int .i64 a] 25)))
  have HF1 := Lib.hid (flt_new w1 c a)
  clear h1 hb1
  go_wp2_with fail
  refine (fixed_any _ (HT.out.mono HB1.out)).mono ?_
  rintro e w2 ⟨rfl, hb2⟩
  have HB2 := Lib.hid (below_step HB1.out hb2)
  have HF2 := Lib.hid (HF1.out.mono hb2)
  clear hb2
  have x0 := HF2.out.c0
  go_wp2_with fail
  refine (fixed_any _ (HT.out.mono HB2.out)).mono ?_
  rintro e w3 ⟨rfl, hb3⟩
  have HB3 := Lib.hid (below_step HB2.out hb3)
  have HF3 := Lib.hid (HF2.out.mono hb3)
  clear hb3 x0
  have x1 := HF3.out.c1
  go_wp2_with fail
  go_ret
  exact ⟨rfl, HB3.out⟩

set_option maxHeartbeats 8000000 in
set_option maxRecDepth 100000 in
theorem places_good (s : ByteArray) (hs : s.size ≤ 549755813888) (hok : Lx.lexOk s.data.toList = true) (w : World) (hT : Tabs w) : Calls Tryd.prog 7 #[.string s] w (Ret (.bool true) w) := by
  have HT := Lib.hid hT
  have k3 := (Lx.lex_yes hok).2.2.2
  obtain ⟨L, hL⟩ : ∃ L, L = Lx.lexL s.data.toList := ⟨_, rfl⟩
  have hLr := lexL_room s.data.toList
  rw [← Lib.size_eq] at hLr
  have HD := Lib.hid (fun w hT => lex_is s (by omega) L 0 0 hL.symm k3.1 k3.2 w hT)
  have HPl := Lib.hid (fun (i : Nat) (hi : i < (Lx.lexL s.data.toList).length) => Lx.place_at hok hi)
  have HPr := Lib.hid (fun (i : Nat) (t u : Tok) (h1 : (Lx.lexL s.data.toList)[i]? = some t) (h2 : (Lx.lexL s.data.toList)[i + 1]? = some u) => Lx.place_rises hok h1 h2)
  rw [← hL] at hLr HPl HPr
  have hLl := room_len L
  have HG : Hid (∀ n k, Lx.lexOk (s.data.toList.take n) = true → Lx.lexL (s.data.toList.take n) = L.take k → ∀ w, Tabs w → Calls Tryd.prog 10 #[.string (s.extract 0 n)] w (LexIs (L.take k) 0 0 w)) := Lib.hid (fun n k h1 h2 w hT => by
    rw [← take_text] at h1 h2
    have k4 := (Lx.lex_yes h1).2.2.2
    exact lex_is (s.extract 0 n) (by rw [ByteArray.size_extract]; omega) _ 0 0 h2 k4.1 k4.2 w hT)
  have HBy := Lib.hid (byte_at s)
  have HSz : Hid (s.data.toList.length = s.size) := Lib.hid (Lib.size_eq s).symm
  have hLs : L.length ≤ 1099511627776 := by omega
  clear k3 hok hs hT hL hLr hLl
  go_enter Tryd.func7, Tryd.ntmps7
  go_wp2_with fail
  refine (HD.out _ HT.out).mono ?_
  rintro e w1 ⟨v1, rfl, h1, hb1⟩
  have HB1 := Lib.hid (below_step hb1 (below_alloc w1 (.cells #[.int .i64 0, .int .i64 0] 25)))
  have HF1 := Lib.hid (flt_new w1 0 0)
  have HV1 := Lib.hid (h1.mono (below_alloc w1 (.cells #[.int .i64 0, .int .i64 0] 25))).at
  clear h1 hb1
  obtain ⟨p1, c1, ev1, hcap⟩ := HV1.out.1
  subst ev1
  go_wp2_with fail
  refine (fixed_any _ (HT.out.mono HB1.out)).mono ?_
  rintro e w2 ⟨rfl, hb2⟩
  have HB2 := Lib.hid (below_step HB1.out hb2)
  have HF2 := Lib.hid (HF1.out.mono hb2)
  have HV2 := Lib.hid (HV1.out.mono hb2)
  clear hb2
  have x0 := HF2.out.c0
  go_wp2_with fail
  clear x0
  go_loopw [5] (fun iv wr => ∃ k : Nat, k ≤ L.length ∧ iv = .int .i64 k ∧ Hid (ToksAt wr (.slice p1 L.length c1) L) ∧ Hid (Below w.heap.size w wr)) (fun iv _ => L.length - (intOf iv).toNat)
  case atStart => exact ⟨0, Nat.zero_le _, rfl, HV2, HB2⟩
  case round =>
    obtain ⟨k, hk, rfl, HV, HB⟩ := hrel
    by_cases hlt : k < L.length
    · obtain ⟨n, ⟨K, X, A⟩, c, hLk, hloc, hn, hc, hh, hok2, hL2⟩ := HPl.out k hlt
      simp only [] at hloc hh
      subst hloc
      rw [HSz.out] at hn
      have hc2 := HBy.out n hn
      rw [hc2] at hc
      obtain rfl : s[n] = c := Option.some.inj hc
      have HHk := Lib.hid hh
      have HGk := Lib.hid (HG.out n k hok2 hL2)
      obtain ⟨_, _, hcell⟩ := HV.out
      obtain ⟨b, o, c1', e1, hc1⟩ := hcell (by omega)
      obtain ⟨rfl, rfl⟩ : p1 = some ⟨b, o, none⟩ ∧ c1 = c1' := by injection e1 with a1 a2 a3; exact ⟨a1, a3⟩
      have DT := hc1 k _ hLk
      have d1 := DT.k
      have d2 := DT.s
      have d3 := DT.a
      simp only [] at d1 d2 d3
      have k0 : (0 : Int) ≤ (k : Int) := by omega
      have k1 : (k : Int) < (L.length : Int) := by omega
      have k2 : (k : Int) ≤ (c1 : Int) := by omega
      have n0 : (0 : Int) ≤ (n : Int) := by omega
      have n1 : (n : Int) < (s.size : Int) := by omega
      have n2 : (n : Int) ≤ (s.size : Int) := by omega
      have g1 : decide ((n : Int) < 0) = false := decide_eq_false (by omega)
      have g2 : decide ((s.size : Int) ≤ (n : Int)) = false := decide_eq_false (by omega)
      have g2' : decide (s.size ≤ n) = false := decide_eq_false (by omega)
      have hne := World.new_ne wr _ d1
      rcases Nat.eq_zero_or_pos k with h0 | h0
      · have g3 : decide ((0 : Int) < (k : Int)) = false := decide_eq_false (by omega)
        have g3' : decide (0 < k) = false := decide_eq_false (by omega)
        clear h0 hc hc2 hh hok2 hL2 hcell e1 hc1 DT hLk
        go_wp2_with fail
        go_quiet (fail)
        have hb8 := below_step (below_alloc wr (.cells #[.int .i64 K, .string (str X), .int .i64 (n : Int)] 38)) (below_drew (wr.alloc (.cells #[.int .i64 K, .string (str X), .int .i64 (n : Int)] 38)) nq)
        have HB8 := Lib.hid (below_step HB.out hb8)
        have HV8 := Lib.hid (HV.out.mono hb8)
        have HT8 := Lib.hid (HT.out.mono HB8.out)
        clear hb8
        rcases HHk.out with ⟨hK, hC⟩ | ⟨hK, hC⟩ | ⟨hK, hC⟩ | ⟨hK, hC⟩
        · subst hK
          have hCi : (s[n].toNat : Int) = 123 := by omega
          clear hC
          go_wp2_with fail
          refine (HGk.out _ HT8.out).mono ?_
          rintro e w9 ⟨v9, rfl, h9, hb9⟩
          have hb9' := below_step hb9 (below_alloc w9 (.cells #[.int .i64 0, .int .i64 0] 25))
          have HB9 := Lib.hid (below_step HB8.out hb9')
          have HV9 := Lib.hid (HV8.out.mono hb9')
          have HN9 := Lib.hid (h9.mono (below_alloc w9 (.cells #[.int .i64 0, .int .i64 0] 25)))
          have HF9 := Lib.hid (flt_new w9 0 0)
          have y0 := HF9.out.c0
          clear h9 hb9 hb9'
          go_wp2_with fail
          refine (same_same v9 _ _ _ HN9.out.at (toks_take HV9.out k hk)).mono ?_
          rintro e w10 ⟨rfl, hb10⟩
          have HB10 := Lib.hid (below_step HB9.out hb10)
          have HV10 := Lib.hid (HV9.out.mono hb10)
          clear hb10 y0
          go_wp2_with fail
          go_roundw
          case rel => exact ⟨k + 1, by omega, by go_num, HV10, HB10⟩
          case measure => simp [intOf]; omega
        · subst hK
          have hCi : (s[n].toNat : Int) = 125 := by omega
          clear hC
          go_wp2_with fail
          refine (HGk.out _ HT8.out).mono ?_
          rintro e w9 ⟨v9, rfl, h9, hb9⟩
          have hb9' := below_step hb9 (below_alloc w9 (.cells #[.int .i64 0, .int .i64 0] 25))
          have HB9 := Lib.hid (below_step HB8.out hb9')
          have HV9 := Lib.hid (HV8.out.mono hb9')
          have HN9 := Lib.hid (h9.mono (below_alloc w9 (.cells #[.int .i64 0, .int .i64 0] 25)))
          have HF9 := Lib.hid (flt_new w9 0 0)
          have y0 := HF9.out.c0
          clear h9 hb9 hb9'
          go_wp2_with fail
          refine (same_same v9 _ _ _ HN9.out.at (toks_take HV9.out k hk)).mono ?_
          rintro e w10 ⟨rfl, hb10⟩
          have HB10 := Lib.hid (below_step HB9.out hb10)
          have HV10 := Lib.hid (HV9.out.mono hb10)
          clear hb10 y0
          go_wp2_with fail
          go_roundw
          case rel => exact ⟨k + 1, by omega, by go_num, HV10, HB10⟩
          case measure => simp [intOf]; omega
        · subst hK
          have hCi : (s[n].toNat : Int) = 92 := by omega
          clear hC
          go_wp2_with fail
          refine (HGk.out _ HT8.out).mono ?_
          rintro e w9 ⟨v9, rfl, h9, hb9⟩
          have hb9' := below_step hb9 (below_alloc w9 (.cells #[.int .i64 0, .int .i64 0] 25))
          have HB9 := Lib.hid (below_step HB8.out hb9')
          have HV9 := Lib.hid (HV8.out.mono hb9')
          have HN9 := Lib.hid (h9.mono (below_alloc w9 (.cells #[.int .i64 0, .int .i64 0] 25)))
          have HF9 := Lib.hid (flt_new w9 0 0)
          have y0 := HF9.out.c0
          clear h9 hb9 hb9'
          go_wp2_with fail
          refine (same_same v9 _ _ _ HN9.out.at (toks_take HV9.out k hk)).mono ?_
          rintro e w10 ⟨rfl, hb10⟩
          have HB10 := Lib.hid (below_step HB9.out hb10)
          have HV10 := Lib.hid (HV9.out.mono hb10)
          clear hb10 y0
          go_wp2_with fail
          go_roundw
          case rel => exact ⟨k + 1, by omega, by go_num, HV10, HB10⟩
          case measure => simp [intOf]; omega
        · subst hK
          obtain ⟨hB, hC1, hC2, hC3⟩ := hC
          have cB := Lib.hid (fun w => refBlank_any s[n] w)
          rw [hB] at cB
          have b1 : ((s[n].toNat : Int) == 123) = false := bne0 (by omega)
          have b2 : ((s[n].toNat : Int) == 125) = false := bne0 (by omega)
          have b3 : ((s[n].toNat : Int) == 37) = false := bne0 (by omega)
          clear hB hC1 hC2 hC3
          go_wp2_with fail
          refine (cB.out _).mono ?_
          rintro e wz ⟨rfl, rfl⟩
          go_wp2_with fail
          refine (HGk.out _ HT8.out).mono ?_
          rintro e w9 ⟨v9, rfl, h9, hb9⟩
          have hb9' := below_step hb9 (below_alloc w9 (.cells #[.int .i64 0, .int .i64 0] 25))
          have HB9 := Lib.hid (below_step HB8.out hb9')
          have HV9 := Lib.hid (HV8.out.mono hb9')
          have HN9 := Lib.hid (h9.mono (below_alloc w9 (.cells #[.int .i64 0, .int .i64 0] 25)))
          have HF9 := Lib.hid (flt_new w9 0 0)
          have y0 := HF9.out.c0
          clear h9 hb9 hb9'
          go_wp2_with fail
          refine (same_same v9 _ _ _ HN9.out.at (toks_take HV9.out k hk)).mono ?_
          rintro e w10 ⟨rfl, hb10⟩
          have HB10 := Lib.hid (below_step HB9.out hb10)
          have HV10 := Lib.hid (HV9.out.mono hb10)
          clear hb10 y0
          go_wp2_with fail
          go_roundw
          case rel => exact ⟨k + 1, by omega, by go_num, HV10, HB10⟩
          case measure => simp [intOf]; omega
      · obtain ⟨m, hm⟩ : ∃ m, k = m + 1 := ⟨k - 1, by omega⟩
        obtain ⟨⟨K', X', U⟩, hLm⟩ : ∃ u, L[m]? = some u := ⟨_, List.getElem?_eq_getElem (by omega)⟩
        have hU := HPr.out m _ _ hLm (by rw [← hm]; exact hLk)
        simp only [] at hU
        have u3 := (hc1 m _ hLm).a
        simp only [] at u3
        have u4 := cell_below (below_alloc wr (.cells #[.int .i64 K, .string (str X), .int .i64 (n : Int)] 38)) u3
        have g3 : decide ((0 : Int) < (k : Int)) = true := decide_eq_true (by omega)
        have g3' : decide (0 < k) = true := decide_eq_true h0
        have g4 : decide ((n : Int) ≤ U) = false := decide_eq_false (by omega)
        have m1 : IntKind.i64.wrap ((k : Int) - 1) = (m : Int) := by rw [show (k : Int) - 1 = (m : Int) by omega]; exact IntWalk.i64_in _ (by omega)
        have m2 : (0 : Int) ≤ (m : Int) := by omega
        have m3 : (m : Int) < (L.length : Int) := by omega
        clear h0 hm hc hc2 hh hok2 hL2 hcell e1 hc1 DT hLk hLm hU
        go_wp2_with fail
        go_quiet (fail)
        have hb8 := below_step (below_alloc wr (.cells #[.int .i64 K, .string (str X), .int .i64 (n : Int)] 38)) (below_drew (wr.alloc (.cells #[.int .i64 K, .string (str X), .int .i64 (n : Int)] 38)) nq)
        have HB8 := Lib.hid (below_step HB.out hb8)
        have HV8 := Lib.hid (HV.out.mono hb8)
        have HT8 := Lib.hid (HT.out.mono HB8.out)
        clear hb8
        rcases HHk.out with ⟨hK, hC⟩ | ⟨hK, hC⟩ | ⟨hK, hC⟩ | ⟨hK, hC⟩
        · subst hK
          have hCi : (s[n].toNat : Int) = 123 := by omega
          clear hC
          go_wp2_with fail
          refine (HGk.out _ HT8.out).mono ?_
          rintro e w9 ⟨v9, rfl, h9, hb9⟩
          have hb9' := below_step hb9 (below_alloc w9 (.cells #[.int .i64 0, .int .i64 0] 25))
          have HB9 := Lib.hid (below_step HB8.out hb9')
          have HV9 := Lib.hid (HV8.out.mono hb9')
          have HN9 := Lib.hid (h9.mono (below_alloc w9 (.cells #[.int .i64 0, .int .i64 0] 25)))
          have HF9 := Lib.hid (flt_new w9 0 0)
          have y0 := HF9.out.c0
          clear h9 hb9 hb9'
          go_wp2_with fail
          refine (same_same v9 _ _ _ HN9.out.at (toks_take HV9.out k hk)).mono ?_
          rintro e w10 ⟨rfl, hb10⟩
          have HB10 := Lib.hid (below_step HB9.out hb10)
          have HV10 := Lib.hid (HV9.out.mono hb10)
          clear hb10 y0
          go_wp2_with fail
          go_roundw
          case rel => exact ⟨k + 1, by omega, by go_num, HV10, HB10⟩
          case measure => simp [intOf]; omega
        · subst hK
          have hCi : (s[n].toNat : Int) = 125 := by omega
          clear hC
          go_wp2_with fail
          refine (HGk.out _ HT8.out).mono ?_
          rintro e w9 ⟨v9, rfl, h9, hb9⟩
          have hb9' := below_step hb9 (below_alloc w9 (.cells #[.int .i64 0, .int .i64 0] 25))
          have HB9 := Lib.hid (below_step HB8.out hb9')
          have HV9 := Lib.hid (HV8.out.mono hb9')
          have HN9 := Lib.hid (h9.mono (below_alloc w9 (.cells #[.int .i64 0, .int .i64 0] 25)))
          have HF9 := Lib.hid (flt_new w9 0 0)
          have y0 := HF9.out.c0
          clear h9 hb9 hb9'
          go_wp2_with fail
          refine (same_same v9 _ _ _ HN9.out.at (toks_take HV9.out k hk)).mono ?_
          rintro e w10 ⟨rfl, hb10⟩
          have HB10 := Lib.hid (below_step HB9.out hb10)
          have HV10 := Lib.hid (HV9.out.mono hb10)
          clear hb10 y0
          go_wp2_with fail
          go_roundw
          case rel => exact ⟨k + 1, by omega, by go_num, HV10, HB10⟩
          case measure => simp [intOf]; omega
        · subst hK
          have hCi : (s[n].toNat : Int) = 92 := by omega
          clear hC
          go_wp2_with fail
          refine (HGk.out _ HT8.out).mono ?_
          rintro e w9 ⟨v9, rfl, h9, hb9⟩
          have hb9' := below_step hb9 (below_alloc w9 (.cells #[.int .i64 0, .int .i64 0] 25))
          have HB9 := Lib.hid (below_step HB8.out hb9')
          have HV9 := Lib.hid (HV8.out.mono hb9')
          have HN9 := Lib.hid (h9.mono (below_alloc w9 (.cells #[.int .i64 0, .int .i64 0] 25)))
          have HF9 := Lib.hid (flt_new w9 0 0)
          have y0 := HF9.out.c0
          clear h9 hb9 hb9'
          go_wp2_with fail
          refine (same_same v9 _ _ _ HN9.out.at (toks_take HV9.out k hk)).mono ?_
          rintro e w10 ⟨rfl, hb10⟩
          have HB10 := Lib.hid (below_step HB9.out hb10)
          have HV10 := Lib.hid (HV9.out.mono hb10)
          clear hb10 y0
          go_wp2_with fail
          go_roundw
          case rel => exact ⟨k + 1, by omega, by go_num, HV10, HB10⟩
          case measure => simp [intOf]; omega
        · subst hK
          obtain ⟨hB, hC1, hC2, hC3⟩ := hC
          have cB := Lib.hid (fun w => refBlank_any s[n] w)
          rw [hB] at cB
          have b1 : ((s[n].toNat : Int) == 123) = false := bne0 (by omega)
          have b2 : ((s[n].toNat : Int) == 125) = false := bne0 (by omega)
          have b3 : ((s[n].toNat : Int) == 37) = false := bne0 (by omega)
          clear hB hC1 hC2 hC3
          go_wp2_with fail
          refine (cB.out _).mono ?_
          rintro e wz ⟨rfl, rfl⟩
          go_wp2_with fail
          refine (HGk.out _ HT8.out).mono ?_
          rintro e w9 ⟨v9, rfl, h9, hb9⟩
          have hb9' := below_step hb9 (below_alloc w9 (.cells #[.int .i64 0, .int .i64 0] 25))
          have HB9 := Lib.hid (below_step HB8.out hb9')
          have HV9 := Lib.hid (HV8.out.mono hb9')
          have HN9 := Lib.hid (h9.mono (below_alloc w9 (.cells #[.int .i64 0, .int .i64 0] 25)))
          have HF9 := Lib.hid (flt_new w9 0 0)
          have y0 := HF9.out.c0
          clear h9 hb9 hb9'
          go_wp2_with fail
          refine (same_same v9 _ _ _ HN9.out.at (toks_take HV9.out k hk)).mono ?_
          rintro e w10 ⟨rfl, hb10⟩
          have HB10 := Lib.hid (below_step HB9.out hb10)
          have HV10 := Lib.hid (HV9.out.mono hb10)
          clear hb10 y0
          go_wp2_with fail
          go_roundw
          case rel => exact ⟨k + 1, by omega, by go_num, HV10, HB10⟩
          case measure => simp [intOf]; omega
    · go_wp2_with fail
      go_ret
      exact ⟨rfl, HB.out⟩

/-- THE LAW, AT EVERY TEXT OF SUCH A LENGTH. -/
theorem lawPlaces_any (s : ByteArray) (hs : s.size ≤ 549755813888) (w : World) (hT : Tabs w) : Calls Tryd.prog 7 #[.string s] w (Ret (.bool true) w) := by
  cases hok : Lx.lexOk s.data.toList with
  | false => exact places_bad s hs hok w hT
  | true => exact places_good s hs hok w hT
end Go.Proofs.YtjlnffdklhmonaaDoor
