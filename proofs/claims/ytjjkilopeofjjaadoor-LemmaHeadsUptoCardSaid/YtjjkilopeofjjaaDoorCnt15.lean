/-
  Count: the landed one and the reference's.
-/
import Derived.Test.YtjjkilopeofjjaaDoorPl15
import Derived.Test.YtjjkilopeofjjaaDoorFltEq
import Derived.Deep.RegionHeld3
set_option linter.unusedVariables false
set_option linter.unusedSimpArgs false
namespace Go.Proofs.YtjjkilopeofjjaaDoor
open Go.RowKit

theorem int_succ15 (k : Nat) : Value.int .i64 ((k : Int) + 1) = .int .i64 ((k + 1 : Nat) : Int) := by rw [Int.natCast_add]; rfl
def TxSm (l : List (List UInt8)) : Prop := ∀ x ∈ l, x.length ≤ 1048576
theorem sm_get {l : List (List UInt8)} (h : TxSm l) {k : Nat} {x : List UInt8} (hx : l[k]? = some x) : x.length ≤ 1048576 := h x (List.mem_of_getElem? hx)
def cntV (c : Int × Int) : Value := .tuple #[.int .i64 c.1, .int .i64 c.2]
theorem toList_beq15 (a b : List UInt8) : ((str a).toList == (str b).toList) = decide (a = b) := by
  by_cases h : a = b
  · subst h; simp
  · rw [decide_eq_false h]
    refine Bool.eq_false_iff.2 fun e => h ((str_eq13 a b).1 ?_)
    have h2 := eq_of_beq e
    have h3 : ∀ s : ByteArray, s.toList = s.data.toList := fun s => ByteArray.toList_eq s
    rw [h3, h3] at h2
    cases hh : str a; cases hk : str b
    rw [hh, hk] at h2
    simp at h2
    rw [h2]
theorem toList_bne15 (a b : List UInt8) : ((str a).toList != (str b).toList) = !decide (a = b) := by rw [bne, toList_beq15]
/-- how many of a line's first k words are like word j, up to it -/
def upTo (L : List (List UInt8)) (q : List UInt8) (j k : Nat) : Nat := Lm.eqs q (L.take (min k (j + 1)))
theorem upTo_near {L : List (List UInt8)} {q x : List UInt8} {j k : Nat} (hx : L[k]? = some x) (h : k ≤ j) : upTo L q j (k + 1) = upTo L q j k + if Lm.plain x = q then 1 else 0 := by
  unfold upTo
  rw [Nat.min_eq_left (by omega), Nat.min_eq_left (by omega), Lm.take_succ hx, Lm.eqs_append, Lm.eqs_one]
  congr 1
  by_cases e : Lm.plain x = q
  · rw [if_pos e, if_pos (by simp [e])]
  · rw [if_neg e, if_neg (by simpa using e)]
theorem upTo_far {L : List (List UInt8)} {q : List UInt8} {j k : Nat} (h : j < k) : upTo L q j (k + 1) = upTo L q j k := by
  unfold upTo
  rw [Nat.min_eq_right (by omega), Nat.min_eq_right (by omega)]
theorem all_next {L : List (List UInt8)} {q x : List UInt8} {k : Nat} (hx : L[k]? = some x) : Lm.eqs q (L.take (k + 1)) = Lm.eqs q (L.take k) + if Lm.plain x = q then 1 else 0 := by
  rw [Lm.take_succ hx, Lm.eqs_append, Lm.eqs_one]
  congr 1
  by_cases e : Lm.plain x = q
  · rw [if_pos e, if_pos (by simp [e])]
  · rw [if_neg e, if_neg (by simpa using e)]
theorem upTo_le (L : List (List UInt8)) (q : List UInt8) (j k : Nat) : upTo L q j k ≤ k := by
  have := Lm.eqs_le q (L.take (min k (j + 1)))
  rw [List.length_take] at this
  unfold upTo; omega
theorem all_le (L : List (List UInt8)) (q : List UInt8) (k : Nat) : Lm.eqs q (L.take k) ≤ k := by
  have := Lm.eqs_le q (L.take k)
  rw [List.length_take] at this
  omega
theorem cnt_in {L : List (List UInt8)} {j : Nat} (h : j < L.length) : Lm.cnt L (j : Int) = ((upTo L (Lm.plain (Lm.at_ L j)) j L.length : Int), (Lm.eqs (Lm.plain (Lm.at_ L j)) (L.take L.length) : Int)) := by
  unfold Lm.cnt upTo
  rw [if_pos ⟨by omega, by omega⟩, Nat.min_eq_right (by omega), List.take_length]
  rfl
theorem cnt_out {L : List (List UInt8)} {a : Int} (h : ¬ (0 ≤ a ∧ a < L.length)) : Lm.cnt L a = (0, 0) := by unfold Lm.cnt; rw [if_neg h]
set_option maxHeartbeats 4000000 in
set_option maxRecDepth 100000 in
theorem count_any (m : Int) (v : Value) (L : List (List UInt8)) (a : Int) (w : World) (hE : Env15 m w) (h : TxsAt w v L) (hs : TxSm L) : Calls Tryd.prog 9 #[v, .int .i64 a] w (Ret (cntV (Lm.cnt L a)) w) := by
  have HA := Lib.hid h
  have HE := Lib.hid hE
  obtain ⟨⟨pa, cp, rfl, hcap⟩, hm, _⟩ := h
  have hza : L.length ≤ 9223372036854775807 := by unfold maxLen at hm; omega
  obtain ⟨n, hn⟩ : ∃ n, n = L.length := ⟨_, rfl⟩
  have Hn := Lib.hid hn
  rw [← hn] at HA hza ⊢
  clear hm hcap hE
  by_cases hin : 0 ≤ a ∧ a < n
  · obtain ⟨j, rfl⟩ : ∃ j : Nat, a = j := ⟨a.toNat, by omega⟩
    have hj : j < n := by omega
    have ha0 : (0 : Int) ≤ (j : Int) := by omega
    have haj : (j : Int) < (n : Int) := by omega
    obtain ⟨b1, o1, d1, e1, r1⟩ := HA.out.2.2 (by rw [← Hn.out]; omega)
    rw [← Hn.out] at e1
    obtain ⟨rfl, rfl⟩ : pa = some ⟨b1, o1, none⟩ ∧ cp = d1 := by injection e1 with a1 a2 a3; exact ⟨a1, a3⟩
    have gj := Lm.get_of (l := L) (k := j) (by rw [← Hn.out]; exact hj)
    have yj := tx_cells (r1 j _ gj)
    rw [Nat.mul_one] at yj
    have HR := Lib.hid r1
    obtain ⟨q, hq⟩ : ∃ q, q = Lm.plain (Lm.at_ L j) := ⟨_, rfl⟩
    have HV : Hid (Lm.cnt L (j : Int) = ((upTo L q j n : Int), (Lm.eqs q (L.take n) : Int))) := Lib.hid (by rw [hq, hn]; exact cnt_in (by rw [← hn]; exact hj))
    have HC := Lib.hid (bare_any m _ (sm_get hs gj) w HE.out)
    rw [← hq] at HC
    have HS := Lib.hid hs
    have u0 : upTo L q j 0 = 0 := by have := upTo_le L q j 0; omega
    have t0 : Lm.eqs q (L.take 0) = 0 := by have := all_le L q 0; omega
    clear e1 r1 gj hq hs hn hin
    go_enter Tryd.func9, Tryd.ntmps9
    go_wp2_with fail
    refine HC.out.mono ?_
    rintro e w1 ⟨rfl, hb⟩
    have HB1 := Lib.hid hb
    clear hb HC yj
    go_wp2_with fail
    go_loopw [7, 8, 26] (fun uv av iv wr => ∃ k : Nat, k ≤ n ∧ iv = .int .i64 k ∧ uv = .int .i64 (upTo L q j k) ∧ av = .int .i64 (Lm.eqs q (L.take k)) ∧ Hid (Below w.heap.size w wr)) (fun _ _ iv _ => n - (intOf iv).toNat)
    case atStart => exact ⟨0, Nat.zero_le _, rfl, by rw [u0]; rfl, by rw [t0]; rfl, HB1⟩
    case round =>
      obtain ⟨k, hk, rfl, rfl, rfl, HB⟩ := hrel
      clear HB1 u0 t0
      by_cases hlt : k < n
      · obtain ⟨x, hx⟩ : ∃ x, L[k]? = some x := ⟨_, List.getElem?_eq_getElem (by rw [← Hn.out]; exact hlt)⟩
        have y0 := tx_cells ((HR.out k x hx).mono HB.out)
        rw [Nat.mul_one] at y0
        have k0 : (0 : Int) ≤ (k : Int) := by omega
        have kl : (k : Int) < (n : Int) := by omega
        have HC := Lib.hid (bare_any m x (sm_get HS.out hx) wr (HE.out.mono HB.out))
        have hq := toList_beq15 (Lm.plain x) q
        have A1 := Lib.hid (all_next (q := q) hx)
        have U1 := Lib.hid (fun h => upTo_near (q := q) (j := j) hx h)
        have ul := upTo_le L q j k
        have al := all_le L q k
        by_cases he : Lm.plain x = q
        · rw [decide_eq_true he] at hq
          rw [if_pos he] at A1 U1
          clear hx he
          by_cases hkj : k ≤ j
          · have kj : (k : Int) ≤ (j : Int) := by omega
            have U2 := Lib.hid (U1.out hkj)
            clear U1
            generalize upTo L q j k = uk at *
            generalize Lm.eqs q (L.take k) = ak at *
            go_wp2_with fail
            refine HC.out.mono ?_
            rintro e w2 ⟨rfl, hb⟩
            have HB2 := Lib.hid (below_step HB.out hb)
            clear hb HC y0
            go_wp2
            go_roundw
            case rel => exact ⟨k + 1, by omega, by go_num, by rw [U2.out]; go_num, by rw [A1.out]; go_num, HB2⟩
            case measure => simp [intOf]; omega
          · have kj : ¬ (k : Int) ≤ (j : Int) := by omega
            have U2 := Lib.hid (upTo_far (L := L) (q := q) (j := j) (k := k) (by omega))
            clear U1
            generalize upTo L q j k = uk at *
            generalize Lm.eqs q (L.take k) = ak at *
            go_wp2_with fail
            refine HC.out.mono ?_
            rintro e w2 ⟨rfl, hb⟩
            have HB2 := Lib.hid (below_step HB.out hb)
            clear hb HC y0
            go_wp2
            go_roundw
            case rel => exact ⟨k + 1, by omega, by go_num, by rw [U2.out], by rw [A1.out]; go_num, HB2⟩
            case measure => simp [intOf]; omega
        · rw [decide_eq_false he] at hq
          rw [if_neg he] at A1 U1
          have U2 : Hid (upTo L q j (k + 1) = upTo L q j k) := Lib.hid (by
            by_cases hkj : k ≤ j
            · exact U1.out hkj
            · exact upTo_far (by omega))
          clear hx he U1
          go_wp2_with fail
          refine HC.out.mono ?_
          rintro e w2 ⟨rfl, hb⟩
          have HB2 := Lib.hid (below_step HB.out hb)
          clear hb HC y0
          go_wp2
          go_roundw
          case rel => exact ⟨k + 1, by omega, by go_num, by rw [U2.out], by rw [A1.out]; rfl, HB2⟩
          case measure => simp [intOf]; omega
      · obtain rfl : k = n := by omega
        go_wp2
        exact bodyPost_ret (v := .tuple #[.int .i64 (upTo L q j k), .int .i64 (Lm.eqs q (L.take k))]) (by simp [results, Tryd.results9, go_sem]) rfl ⟨by rw [HV.out]; rfl, HB.out⟩
  · have HV := Lib.hid (cnt_out (L := L) (a := a) (by rw [← hn]; exact hin))
    rw [HV.out]
    by_cases h0 : a < 0
    · clear hin HV hn
      go_enter Tryd.func9, Tryd.ntmps9
      go_wp2
      exact bodyPost_ret (v := .tuple #[.int .i64 0, .int .i64 0]) (by simp [results, Tryd.results9, go_sem]) rfl ⟨rfl, Below.refl _ _⟩
    · have h1 : (n : Int) ≤ a := by omega
      clear hin HV hn
      go_enter Tryd.func9, Tryd.ntmps9
      go_wp2
      exact bodyPost_ret (v := .tuple #[.int .i64 0, .int .i64 0]) (by simp [results, Tryd.results9, go_sem]) rfl ⟨rfl, Below.refl _ _⟩
end Go.Proofs.YtjjkilopeofjjaaDoor
