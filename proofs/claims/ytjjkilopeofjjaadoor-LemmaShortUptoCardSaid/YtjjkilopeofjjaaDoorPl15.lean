/-
  Plain forms: the landed bare and Plain, the reference's Plain.
-/
import Derived.Test.YtjjkilopeofjjaaDoorShelf
import Derived.Test.YtjjkilopeofjjaaDoorLm15
import Derived.Test.YtjjkilopeofjjaaDoorRefNum
import Derived.Test.YtjjkilopeofjjaaDoorApp13
set_option linter.unusedVariables false
set_option linter.unusedSimpArgs false
namespace Go.Proofs.YtjjkilopeofjjaaDoor
open Go.RowKit

/-- what the package-level variables hold that the standard library reads -/
structure Env15 (m : Int) (w : World) : Prop where
  max : w.cell? ⟨1, 0, none⟩ = some (.int .i64 m)
  tab : Lib.TabIs Tryd.prog w "internal/strconv.uint64pow10" .u64 Lib.pow10Tab
theorem var_below15 {w w' : World} (hb : Below w.heap.size w w') {n : String} {cs : Array Value} (h : w.var? Tryd.prog n = some cs) : w'.var? Tryd.prog n = some cs := by
  have h0 := h
  unfold World.var? at h
  cases hg : Tryd.prog.globalNamed n with
  | none => rw [hg] at h; cases h
  | some g =>
    rw [hg] at h
    simp only [Option.bind_some] at h
    have hlt : g < w.heap.size := by
      rcases Nat.lt_or_ge g w.heap.size with h' | h'
      · exact h'
      · rw [Array.getElem?_eq_none h'] at h; cases h
    exact var?_below hb hg hlt h0
theorem Env15.mono {m : Int} {w w' : World} (h : Env15 m w) (hb : Below w.heap.size w w') : Env15 m w' := ⟨cell_below hb h.max, var_below15 hb h.tab⟩
theorem below_growN15 (w : World) (k : Nat) (os : Array Obj) : Below w.heap.size w (Go.Sort.grow (w.drewN k) os) :=
  ⟨rfl, rfl, rfl, by simp [Go.Sort.grow, World.drewN], fun i hi => by simp [Go.Sort.grow, World.drewN, Array.getElem?_append, hi]⟩
theorem itoa15 (m n : Int) (h0 : -9223372036854775808 ≤ n) (h1 : n ≤ 9223372036854775807) (w : World) (hE : Env15 m w) : Calls Tryd.prog 23 #[.int .i64 n] w (Ret (.string (str (Lib.itoa n))) w) := by
  refine (Tryd.strconv_Itoa n h0 h1 w hE.tab).mono ?_
  rintro e w' ⟨rfl, k, os, rfl⟩
  exact ⟨rfl, below_growN15 _ _ _⟩
theorem sum_str15 (a b c : List UInt8) (hl : a.length + b.length ≤ 9223372036854775807) (hc : c = a ++ b) (wx : World) : (Op.stringOp .add (str a) (str b)).run Tryd.prog wx = .ok (.string (str c)) wx := by
  rw [run_string_add_sum wx (str a) (str b) (by rw [str_size13, str_size13]; exact hl), hc]
  congr 2
theorem countNil (s old : ByteArray) : s.size + Lib.countB s old * (⟨#[]⟩ : ByteArray).size = s.size := by
  show s.size + Lib.countB s old * 0 = s.size
  omega
theorem replace_str (s : List UInt8) : (⟨(Lib.replaceAll (str s).data.toList (⟨#[194, 173]⟩ : ByteArray).data.toList (⟨#[]⟩ : ByteArray).data.toList).toArray⟩ : ByteArray) = str (Lm.plain s) := by
  rw [str_data]
  show str (Lib.replaceAll s Lm.soft []) = _
  rw [Lm.replaceAll_plain]
set_option maxHeartbeats 1000000 in
set_option maxRecDepth 100000 in
theorem bare_any (m : Int) (s : List UInt8) (hs : s.length ≤ 1048576) (w : World) (hE : Env15 m w) : Calls Tryd.prog 21 #[.string (str s)] w (Ret (.string (str (Lm.plain s))) w) := by
  have HC := Lib.hid (Tryd.strings_ReplaceAll (str s) ⟨#[194, 173]⟩ ⟨#[]⟩ m w (by rw [str_size13]; omega) hE.max (by decide) (by rw [countNil, str_size13]; omega))
  rw [replace_str] at HC
  clear hE
  go_enter Tryd.func21, Tryd.ntmps21
  go_wp2_with fail
  refine HC.out.mono ?_
  rintro e w1 ⟨rfl, hb⟩
  have HB := Lib.hid hb
  clear hb HC
  go_wp2
  go_ret
  exact ⟨rfl, HB.out⟩
set_option maxHeartbeats 1000000 in
set_option maxRecDepth 100000 in
theorem clone15 (s : List UInt8) (hs : s.length ≤ 1048576) (w : World) : Calls Tryd.prog 22 #[.string (str s)] w (Ret (.string (str s)) w) := by
  have HC := Lib.hid (Tryd.stringslite_Clone (str s) w (by rw [str_size13]; omega))
  go_enter Tryd.func22, Tryd.ntmps22
  go_wp2_with fail
  refine HC.out.mono ?_
  rintro e w1 ⟨rfl, hb⟩
  have HB := Lib.hid hb
  clear hb
  go_wp2
  go_ret
  exact ⟨rfl, HB.out⟩
set_option maxHeartbeats 1000000 in
set_option maxRecDepth 100000 in
theorem plainL_any (m : Int) (s : List UInt8) (hs : s.length ≤ 1048576) (w : World) (hE : Env15 m w) : Calls Tryd.prog 11 #[.string (str s)] w (Ret (.string (str (Lm.plain s))) w) := by
  have HC := Lib.hid (bare_any m s hs w hE)
  have HD := Lib.hid (fun w1 => clone15 (Lm.plain s) (Nat.le_trans (Lm.plain_length s) hs) w1)
  clear hE
  go_enter Tryd.func11, Tryd.ntmps11
  go_wp2_with fail
  refine HC.out.mono ?_
  rintro e w1 ⟨rfl, hb⟩
  have HB := Lib.hid hb
  clear hb HC
  go_wp2_with fail
  refine (HD.out _).mono ?_
  rintro e w2 ⟨rfl, hb⟩
  have HB2 := Lib.hid (below_step HB.out hb)
  clear hb HB
  go_wp2
  go_ret
  exact ⟨rfl, HB2.out⟩
/-! ### the reference -/
theorem byte_eq15 {s : ByteArray} {k : Nat} (h : k < s.size) (c : UInt8) (i : Int) (hi : i = c.toNat) : ((s[k].toNat : Int) == i) = decide (s[k] = c) := by
  subst hi
  by_cases e : s[k] = c
  · rw [e]; simp
  · rw [decide_eq_false e, beq_eq_false_iff_ne]
    intro h2
    exact e (UInt8.toNat_inj.1 (by omega))
theorem piece15 (s : ByteArray) (k : Nat) (h : k < s.size) : s.extract k (k + 1) = str [s[k]] := by
  apply ByteArray.ext
  have hk : k < s.data.size := h
  rw [ByteArray.data_extract]
  apply Array.ext
  · simp [str]; omega
  · intro i h1 h2
    simp [str] at h2 ⊢
    subst h2
    rfl
set_option maxHeartbeats 4000000 in
set_option maxRecDepth 100000 in
theorem refPlain_any (s : List UInt8) (hs : s.length ≤ 1048576) (w : World) : Calls Tryd.prog 12 #[.string (str s)] w (Is (.string (str (Lm.plain s))) w) := by
  obtain ⟨S, hS⟩ : ∃ S, S = str s := ⟨_, rfl⟩
  have hL : s = S.data.toList := by rw [hS, str_data]
  have hn : S.size ≤ 1048576 := by rw [hS, str_size13]; exact hs
  have HLl : Hid (s.length = S.size) := Lib.hid (by rw [hL, size13])
  have HB := Lib.hid (fun k h => byte13 S k h)
  have HX := Lib.hid (fun k h => piece15 S k h)
  rw [← hL] at HB
  rw [← hS]
  clear hS hL
  obtain ⟨q, hq⟩ : ∃ q, q = Lm.plain s := ⟨_, rfl⟩
  have HQ : Hid ([] ++ Lm.plain (s.drop 0) = q) := Lib.hid (by rw [hq]; rfl)
  have HQl : Hid (q.length ≤ 1048576) := Lib.hid (by rw [hq]; exact Nat.le_trans (Lm.plain_length s) hs)
  rw [← hq]
  clear hq
  go_enter Tryd.func12, Tryd.ntmps12
  go_wp2_with fail
  go_loopw [3, 4] (fun ov iv wr => ∃ (k : Nat) (o : List UInt8), k ≤ S.size ∧ iv = .int .i64 k ∧ ov = .string (str o) ∧ Hid (o ++ Lm.plain (s.drop k) = q) ∧ wr = w) (fun _ iv _ => S.size - (intOf iv).toNat)
  case atStart => exact ⟨0, [], Nat.zero_le _, rfl, rfl, HQ, rfl⟩
  case round =>
    obtain ⟨k, o, hk, rfl, rfl, HO, rfl⟩ := hrel
    clear HQ
    by_cases hlt : k < S.size
    · have hb := HB.out k hlt
      have k0 : (0 : Int) ≤ (k : Int) := by omega
      have kl : (k : Int) < (S.size : Int) := by omega
      have hol : o.length ≤ 1048576 := by
        have := congrArg List.length HO.out
        rw [List.length_append] at this
        have := HQl.out
        omega
      have keep : ¬ (S[k] = 194 ∧ s[k + 1]? = some 173) → Hid ((o ++ [S[k]]) ++ Lm.plain (s.drop (k + 1)) = q) := fun h => Lib.hid (by rw [← HO.out, Lm.plain_step (k := k) hb h]; simp)
      have hx := HX.out k hlt
      have hsum := fun wx => sum_str15 o [S[k]] (o ++ [S[k]]) (by simp; omega) rfl wx
      rw [← hx] at hsum
      by_cases h2 : k + 1 < S.size
      · have hb2 := HB.out (k + 1) h2
        have q1 := byte_eq15 hlt 194 194 rfl
        have q2 := byte_eq15 h2 173 173 rfl
        have k1 : (k : Int) + 1 < (S.size : Int) := by omega
        have k10 : (0 : Int) ≤ (k : Int) + 1 := by omega
        by_cases c1 : S[k] = 194
        · by_cases c2 : S[k + 1] = 173
          · have HN : Hid (o ++ Lm.plain (s.drop (k + 2)) = q) := Lib.hid (by rw [← HO.out, Lm.plain_skip (k := k) (by rw [hb, c1]) (by rw [hb2, c2])])
            rw [decide_eq_true c1] at q1
            rw [decide_eq_true c2] at q2
            clear hb hb2 c1 c2 keep hx hsum
            go_wp2
            go_roundw
            case rel => exact ⟨k + 2, o, by omega, by go_num, rfl, HN, trivial⟩
            case measure => simp [intOf]; omega
          · have HN := keep (fun h => c2 (by rw [hb2] at h; exact Option.some.inj h.2))
            rw [decide_eq_true c1] at q1
            rw [decide_eq_false c2] at q2
            clear hb hb2 c1 c2 keep hx
            go_wp2
            go_roundw
            case rel => exact ⟨k + 1, _, by omega, by go_num, rfl, HN, trivial⟩
            case measure => simp [intOf]; omega
        · have HN := keep (fun h => c1 h.1)
          rw [decide_eq_false c1] at q1
          clear hb hb2 c1 keep hx q2
          go_wp2
          go_roundw
          case rel => exact ⟨k + 1, _, by omega, by go_num, rfl, HN, trivial⟩
          case measure => simp [intOf]; omega
      · have k1 : ¬ (k : Int) + 1 < (S.size : Int) := by omega
        have HN := keep (fun h => by
          have := (List.getElem?_eq_some_iff.1 h.2).1
          rw [HLl.out] at this
          omega)
        clear hb keep hx
        go_wp2
        go_roundw
        case rel => exact ⟨k + 1, _, by omega, by go_num, rfl, HN, trivial⟩
        case measure => simp [intOf]; omega
    · have HE : Hid (o = q) := Lib.hid (by
        have := HO.out
        rw [List.drop_eq_nil_of_le (by rw [HLl.out]; omega)] at this
        rw [← this]
        unfold Lm.plain
        simp)
      go_wp2
      go_ret
      rw [HE.out]
      exact ⟨rfl, rfl⟩
end Go.Proofs.YtjjkilopeofjjaaDoor
