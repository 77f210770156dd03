/-
  The walk of the law UtfBack: it returns true.
-/
import Derived.Test.YtacghcpkkfhfhaaDoorFixed4
set_option linter.unusedVariables false
set_option linter.unusedSimpArgs false
namespace Go.Proofs.YtacghcpkkfhfhaaDoor
open Go.RowKit

theorem asInts_nats {xs : List Int} (h : encB xs = true) : asInts (nats xs) = xs ∧ ∀ c ∈ nats xs, Ut.letterN c = true := by
  unfold encB at h
  rw [List.all_eq_true] at h
  refine ⟨?_, ?_⟩
  · unfold asInts nats
    rw [List.map_map]
    conv => rhs; rw [← List.map_id xs]
    apply List.map_congr_left
    intro x hx
    have := Ut.letter_pos (h x hx)
    show ((x.toNat : Nat) : Int) = id x
    rw [Int.toNat_of_nonneg this.1]; rfl
  · intro c hc
    unfold nats at hc
    obtain ⟨x, hx, rfl⟩ := List.mem_map.1 hc
    have h1 := h x hx
    have := Ut.letter_pos h1
    rw [← Ut.letter_nat, Int.toNat_of_nonneg this.1]
    exact h1
theorem nats_asInts (l : List Nat) : nats (asInts l) = l := by
  unfold nats asInts
  rw [List.map_map]
  conv => rhs; rw [← List.map_id l]
  apply List.map_congr_left
  intro x _
  rfl
theorem encB_asInts {l : List Nat} (h : ∀ c ∈ l, Ut.letterN c = true) : encB (asInts l) = true := by
  unfold encB asInts
  rw [List.all_map, List.all_eq_true]
  intro c hc
  show Ut.letter (c : Int) = true
  rw [Ut.letter_nat]
  exact h c hc
/-- what is decoded of the bytes of some numbers -/
theorem dec_of_enc (xs : List Int) : Ut.clean (encV xs) = true ∧ (encB xs = true → decL (encV xs) = xs) := by
  cases h : encB xs with
  | false =>
    rw [enc_no h]
    exact ⟨by decide +kernel, fun e => by cases e⟩
  | true =>
    rw [enc_yes h]
    obtain ⟨h1, h2⟩ := asInts_nats h
    have hd := Ut.dec_encs h2
    have hc : Ut.clean (Ut.encs (nats xs)) = true := by unfold Ut.clean; rw [hd]; rfl
    refine ⟨hc, fun _ => ?_⟩
    rw [(dec_yes hc).1, hd]
    exact h1
/-- the bytes of the first k letters of a clean text -/
theorem ahead_len {l : List UInt8} (hc : Ut.clean l = true) (k : Nat) (hk : k < (Ut.dec l).1.length) : ((asInts (Ut.places 0 (Ut.dec l).1))[k]? = some ((encV ((asInts (Ut.dec l).1).take k)).length : Int)) ∧ encB ((asInts (Ut.dec l).1).take k) = true := by
  have hl := (Ut.dec_is l).2.1
  have e : (asInts (Ut.dec l).1).take k = asInts ((Ut.dec l).1.take k) := by unfold asInts; rw [List.map_take]
  have hb : encB (asInts ((Ut.dec l).1.take k)) = true := encB_asInts (fun c hc => hl c (List.mem_of_mem_take hc))
  rw [e]
  refine ⟨?_, hb⟩
  rw [enc_yes hb, nats_asInts]
  unfold asInts
  rw [List.getElem?_map, Ut.places_at _ 0 k hk]
  simp
theorem enc_back {l : List UInt8} (hc : Ut.clean l = true) : encV (asInts (Ut.dec l).1) = l ∧ encB (asInts (Ut.dec l).1) = true := by
  have hl := (Ut.dec_is l).2.1
  have hb := encB_asInts hl
  refine ⟨?_, hb⟩
  rw [enc_yes hb, nats_asInts, ← Ut.clean_iff.1 hc]
theorem ints_take {k : IntKind} {w : World} {p : Option Addr} {n cap : Nat} {xs : List Int} (h : IntsAt k w (.slice p n cap) xs) (j : Nat) (hj : j ≤ xs.length) : IntsAt k w (.slice p j cap) (xs.take j) := by
  obtain ⟨⟨p', c', e, hcap⟩, hm, hc⟩ := h
  injection e with e1 e2 e3
  subst e1 e2 e3
  have hl : (xs.take j).length = j := by rw [List.length_take]; omega
  refine ⟨⟨p, cap, by rw [hl], by rw [hl]; omega⟩, by rw [hl]; omega, fun hp => ?_⟩
  rw [hl] at hp
  obtain ⟨b, o, c, e, hq⟩ := hc (by omega)
  injection e with e1 _ e3
  subst e1 e3
  refine ⟨b, o, cap, by rw [hl], fun i x hx => hq i x ?_⟩
  rw [List.getElem?_take] at hx
  split at hx
  · exact hx
  · cases hx
theorem text_self (s : ByteArray) : (⟨s.data.toList.toArray⟩ : ByteArray) = s := by
  apply ByteArray.ext
  simp

set_option maxHeartbeats 4000000 in
set_option maxRecDepth 100000 in
theorem lawBack_any (v : Value) (xs : List Int) (s : ByteArray) (hx : xs.length * 32 ≤ 140737488355328) (hs : s.size * 8 ≤ 140737488355328) (w : World) (hT : Tabs w) (h : IntsAt .i32 w v xs) : Calls Tryd.prog 5 #[v, .string s] w (Ret (.bool true) w) := by
  have HT := Lib.hid hT
  clear hT
  have H := Lib.hid h
  have hde := dec_of_enc xs
  have hlenT : (encV xs).length ≤ 4 * xs.length := by
    unfold encV
    split
    · have := (Ut.encs_len (nats xs)).2
      unfold nats at *
      rw [List.length_map] at this
      exact this
    · simp
  have hdy := dec_yes hde.1
  obtain ⟨T, hT⟩ : ∃ T : ByteArray, T = ⟨(encV xs).toArray⟩ := ⟨_, rfl⟩
  have hTl : T.data.toList = encV xs := by rw [hT]
  obtain ⟨ys, hys⟩ : ∃ ys, ys = decL (encV xs) := ⟨_, rfl⟩
  obtain ⟨eb, heb⟩ : ∃ eb, eb = encB xs := ⟨_, rfl⟩
  have HE : Hid (∀ w, IntsAt .i32 w v xs → Calls Tryd.prog 15 #[v] w (Ret (.tuple #[.string T, .bool eb]) w)) := Lib.hid (fun w h => by rw [hT, heb]; exact encode_any v xs (by omega) w h)
  have HD : Hid (∀ w, Tabs w → Calls Tryd.prog 8 #[.string T] w (DecIs ys 0 0 w)) := Lib.hid (fun w hT => decode_is T (by rw [Lib.size_eq, hTl]; omega) ys 0 0 (by rw [hTl, hys]) (by rw [hTl]; exact hdy.2.1) (by rw [hTl]; exact hdy.2.2.1) w hT)
  have HY : Hid (eb = true → ys = xs) := Lib.hid (fun h => by rw [hys]; exact hde.2 (by rw [← heb]; exact h))
  clear h hde hlenT hdy hT hTl hys heb
  have HHs := Lib.hid hs
  cases hc : Ut.clean s.data.toList with
  | false =>
    have HX := dec_no hc
    obtain ⟨st, hst⟩ : ∃ st : Int, st = (Ut.stop s.data.toList : Int) := ⟨_, rfl⟩
    rw [← hst] at HX
    have HD2 := Lib.hid (fun w hT => decode_is s hs _ 40 st rfl HX.2.1 HX.2.2.1 w hT)
    clear hc HX hst hs hx
    go_enter Tryd.func5, Tryd.ntmps5
    go_wp2_with fail
    refine (HE.out _ H.out).mono ?_
    rintro e w1 ⟨rfl, hb1⟩
    have HB1 := Lib.hid hb1
    clear hb1
    go_wp2_with fail
    refine (HD.out _ (HT.out.mono HB1.out)).mono ?_
    rintro e w2 ⟨v2, rfl, h2, hb2⟩
    have hb2' := below_step hb2 (below_alloc w2 (.cells #[.int .i64 0, .int .i64 0] 25))
    have HB2 := Lib.hid (below_step HB1.out hb2')
    have HF2 := Lib.hid (flt_new w2 0 0)
    have HV2 := Lib.hid (h2.mono (below_alloc w2 (.cells #[.int .i64 0, .int .i64 0] 25)))
    clear h2 hb2 hb2'
    go_wp2_with fail
    refine (fixed_any _ (HT.out.mono HB2.out)).mono ?_
    rintro e w3 ⟨rfl, hb3⟩
    have HB3 := Lib.hid (below_step HB2.out hb3)
    have HF3 := Lib.hid (HF2.out.mono hb3)
    have HV3 := Lib.hid (HV2.out.mono hb3)
    clear hb3
    have x0 := HF3.out.c0
    have x1 := HF3.out.c1
    cases eb
    · clear HY
      go_wp2_with fail
      refine (HD2.out _ (HT.out.mono HB3.out)).mono ?_
      rintro e w4 ⟨v4, rfl, h4, hb4⟩
      have hb4' := below_step hb4 (below_alloc w4 (.cells #[.int .i64 40, .int .i64 st] 25))
      have HB4 := Lib.hid (below_step HB3.out hb4')
      clear h4 hb4 hb4' x0 x1
      go_wp2_with fail
      go_ret
      exact ⟨rfl, HB4.out⟩
    · have HR : Hid (Calls Tryd.prog 13 #[v2, v] w3 (Ret (.bool true) w3)) := Lib.hid (runes_same v2 v xs w3 (by have h := HV3.out; rw [HY.out rfl] at h; exact h.at) (H.out.mono HB3.out))
      clear HY
      go_wp2_with fail
      refine HR.out.mono ?_
      rintro e w3b ⟨rfl, hb3⟩
      have HB3b := Lib.hid (below_step HB3.out hb3)
      clear hb3
      go_wp2_with fail
      refine (HD2.out _ (HT.out.mono HB3b.out)).mono ?_
      rintro e w4 ⟨v4, rfl, h4, hb4⟩
      have hb4' := below_step hb4 (below_alloc w4 (.cells #[.int .i64 40, .int .i64 st] 25))
      have HB4 := Lib.hid (below_step HB3b.out hb4')
      clear h4 hb4 hb4' x0 x1
      go_wp2_with fail
      go_ret
      exact ⟨rfl, HB4.out⟩
  | true =>
    have HX := dec_yes hc
    have hb := enc_back hc
    have HAh := Lib.hid (fun k hk => ahead_len hc k hk)
    obtain ⟨D, hD⟩ : ∃ D, D = asInts (Ut.dec s.data.toList).1 := ⟨_, rfl⟩
    obtain ⟨P, hP⟩ : ∃ P, P = asInts (Ut.places 0 (Ut.dec s.data.toList).1) := ⟨_, rfl⟩
    have hDl : D.length = (Ut.dec s.data.toList).1.length := by rw [hD, asInts_len]
    have hPl : P.length = D.length := by rw [hP, hDl, asInts_len, Ut.places_length]
    have hDs : D.length ≤ s.size := by rw [hDl, Lib.size_eq]; exact (Ut.dec_len _).1
    have HAh2 : Hid (∀ k, k < D.length → P[k]? = some ((encV (D.take k)).length : Int) ∧ encB (D.take k) = true) := Lib.hid (fun k hk => by
      have h := HAh.out k (by rw [← hDl]; exact hk)
      rw [← hP, ← hD] at h
      exact h)
    have HD2 := Lib.hid (fun w hT => decode_is s hs D 0 0 (by rw [HX.1, hD]) HX.2.1 HX.2.2.1 w hT)
    have HE2 : Hid (∀ w u, IntsAt .i32 w u D → Calls Tryd.prog 15 #[u] w (Ret (.tuple #[.string s, .bool true]) w)) := Lib.hid (fun w u h => by
      have h2 := encode_any u D (by omega) w h
      rw [← hD] at hb
      rw [hb.1, hb.2, text_self] at h2
      exact h2)
    have HE3 : Hid (∀ k, k < D.length → ∀ w u, IntsAt .i32 w u (D.take k) → Calls Tryd.prog 15 #[u] w (Ret (.tuple #[.string ⟨(encV (D.take k)).toArray⟩, .bool true]) w)) := Lib.hid (fun k hk w u h => by
      have h2 := encode_any u (D.take k) (by rw [List.length_take]; omega) w h
      rw [(HAh2.out k hk).2] at h2
      exact h2)
    have HS2 := Lib.hid (fun w hT => starts_yes s hs hc w hT)
    rw [← hP] at HS2
    have HPl := Lib.hid hPl
    have hDm : D.length ≤ 9223372036854775807 := by omega
    clear hb HAh hD hP hDl hPl hDs
    clear hc HX hs hx
    go_enter Tryd.func5, Tryd.ntmps5
    go_wp2_with fail
    refine (HE.out _ H.out).mono ?_
    rintro e w1 ⟨rfl, hb1⟩
    have HB1 := Lib.hid hb1
    clear hb1
    go_wp2_with fail
    refine (HD.out _ (HT.out.mono HB1.out)).mono ?_
    rintro e w2 ⟨v2, rfl, h2, hb2⟩
    have hb2' := below_step hb2 (below_alloc w2 (.cells #[.int .i64 0, .int .i64 0] 25))
    have HB2 := Lib.hid (below_step HB1.out hb2')
    have HF2 := Lib.hid (flt_new w2 0 0)
    have HV2 := Lib.hid (h2.mono (below_alloc w2 (.cells #[.int .i64 0, .int .i64 0] 25)))
    clear h2 hb2 hb2'
    go_wp2_with fail
    refine (fixed_any _ (HT.out.mono HB2.out)).mono ?_
    rintro e w3 ⟨rfl, hb3⟩
    have HB3 := Lib.hid (below_step HB2.out hb3)
    have HF3 := Lib.hid (HF2.out.mono hb3)
    have HV3 := Lib.hid (HV2.out.mono hb3)
    clear hb3
    have x0 := HF3.out.c0
    have x1 := HF3.out.c1
    cases eb
    case' false =>
      clear HY
      have HB3b := HB3
      go_wp2_with fail
    case' true =>
      have HR : Hid (Calls Tryd.prog 13 #[v2, v] w3 (Ret (.bool true) w3)) := Lib.hid (runes_same v2 v xs w3 (by have h := HV3.out; rw [HY.out rfl] at h; exact h.at) (H.out.mono HB3.out))
      clear HY
      go_wp2_with fail
      refine HR.out.mono ?_
      rintro e w3b ⟨rfl, hb3⟩
      have HB3b := Lib.hid (below_step HB3.out hb3)
      clear hb3
      go_wp2_with fail
    all_goals
      refine (HD2.out _ (HT.out.mono HB3b.out)).mono ?_
      rintro e w4 ⟨v4, rfl, h4, hb4⟩
      have hb4' := below_step hb4 (below_alloc w4 (.cells #[.int .i64 0, .int .i64 0] 25))
      have HB4 := Lib.hid (below_step HB3b.out hb4')
      have h4' := (h4.mono (below_alloc w4 (.cells #[.int .i64 0, .int .i64 0] 25))).at
      obtain ⟨p4, c4, rfl, hc4⟩ := h4'.1
      have HV4 := Lib.hid h4'
      clear h4 hb4 hb4' x0 x1 h4'
      go_wp2_with fail
      refine (HE2.out _ _ HV4.out).mono ?_
      rintro e w5 ⟨rfl, hb5⟩
      have HB5 := Lib.hid (below_step HB4.out hb5)
      have HV5 := Lib.hid (HV4.out.mono hb5)
      clear hb5
      go_wp2_with fail
      refine (HS2.out _ (HT.out.mono HB5.out)).mono ?_
      rintro e w6 ⟨v6, rfl, h6, hb6⟩
      have HB6 := Lib.hid (below_step HB5.out hb6)
      have HV6 := Lib.hid (HV5.out.mono hb6)
      have h6' := h6.at
      obtain ⟨p6, c6, e6, _⟩ := h6'.1
      rw [HPl.out] at e6
      subst e6
      have HP6 := Lib.hid h6'
      clear h6 hb6 h6'
      go_wp2_with fail
      go_loopw [15] (fun iv wr => ∃ k : Nat, k ≤ D.length ∧ iv = .int .i64 k ∧ Hid (IntsAt .i32 wr (.slice p4 D.length c4) D) ∧ Hid (IntsAt .i64 wr (.slice p6 D.length c6) P) ∧ Hid (Below w.heap.size w wr)) (fun iv _ => D.length - (intOf iv).toNat)
      case atStart => exact ⟨0, Nat.zero_le _, rfl, HV6, HP6, HB6⟩
      case round =>
        obtain ⟨k, hk, rfl, HV, HP, HB⟩ := hrel
        by_cases hlt : k < D.length
        · have HEk := Lib.hid (HE3.out k hlt)
          have HTk := Lib.hid (ints_take HV.out k hk)
          obtain ⟨_, _, hcell⟩ := HP.out
          obtain ⟨b6, o6, c6', e6, hc6⟩ := hcell (by rw [HPl.out]; omega)
          obtain ⟨rfl, rfl⟩ : p6 = some ⟨b6, o6, none⟩ ∧ c6 = c6' := by injection e6 with a1 a2 a3; exact ⟨a1, a3⟩
          have d1 := hc6 k _ (HAh2.out k hlt).1
          have k0 : (0 : Int) ≤ (k : Int) := by omega
          have k1 : (k : Int) < (D.length : Int) := by omega
          have k2 : (k : Int) ≤ (c4 : Int) := by omega
          have HD1 := Lib.hid d1
          clear e6 hc6 d1
          go_wp2_with fail
          refine (HEk.out _ _ HTk.out).mono ?_
          rintro e w7 ⟨rfl, hb7⟩
          have HB7 := Lib.hid (below_step HB.out hb7)
          have HV7 := Lib.hid (HV.out.mono hb7)
          have HP7 := Lib.hid (HP.out.mono hb7)
          have d1 := cell_below hb7 HD1.out
          have hPl2 : (k : Int) < (P.length : Int) := by rw [HPl.out]; exact k1
          clear hb7
          go_wp2_with fail
          go_roundw
          case rel => exact ⟨k + 1, by omega, by go_num, HV7, HP7, HB7⟩
          case measure => simp [intOf]; omega
        · go_wp2_with fail
          go_ret
          exact ⟨rfl, HB.out⟩
end Go.Proofs.YtacghcpkkfhfhaaDoor
