/-
  Series and Texts: the series of a command, the landed one's and the reference's; two lists of strings that are the same.
  Lemma: the words that a note stands at, the landed one's and the reference's.
  The reference's Lemma.
  The law's words and command: nodes that are made.
-/
import Derived.Test.YtfjplhgajoehfaaGreatDoorQMake14
import Derived.Test.YtfjplhgajoehfaaGreatDoorQApp13
set_option linter.unusedVariables false
set_option linter.unusedSimpArgs false
namespace Go.Proofs.YtfjplhgajoehfaaGreatDoor
open Go.RowKit

def serGo (x : List UInt8) : Nat → Nat → Int
  | 0, _ => -1
  | n + 1, k => if El.seriesL.getD k [] = x then (k : Int) else serGo x n (k + 1)
/-- the series of a command -/
def serIx (x : List UInt8) : Int := serGo x 11 0
theorem toList_beq (a b : List UInt8) : ((str a).toList == (str b).toList) = decide (a = b) := by
  by_cases h : a = b
  · subst h; simp
  · rw [decide_eq_false h]
    refine Bool.eq_false_iff.2 fun e => h ((str_eq13 a b).1 ?_)
    have h2 := eq_of_beq e
    have h3 : ∀ s : ByteArray, s.toList = s.data.toList := fun s => ByteArray.toList_eq s
    rw [h3, h3] at h2
    cases hh : str a; cases hk : str b
    rw [hh, hk] at h2
    simp at h2
    rw [h2]
set_option maxHeartbeats 1000000 in
set_option maxRecDepth 100000 in
theorem series_any (x : List UInt8) (w : World) (hs : SerAt w) : Calls Tryz.prog 14 #[.string (str x)] w (Ret (.int .i64 (serIx x)) w) := by
  have s0 : w.cell? ⟨0, 0, none⟩ = some (.string ⟨#[65]⟩) := hs 0 (by omega)
  have s1 : w.cell? ⟨0, 1, none⟩ = some (.string ⟨#[66]⟩) := hs 1 (by omega)
  have s2 : w.cell? ⟨0, 2, none⟩ = some (.string ⟨#[67]⟩) := hs 2 (by omega)
  have s3 : w.cell? ⟨0, 3, none⟩ = some (.string ⟨#[68]⟩) := hs 3 (by omega)
  have s4 : w.cell? ⟨0, 4, none⟩ = some (.string ⟨#[69]⟩) := hs 4 (by omega)
  have s5 : w.cell? ⟨0, 5, none⟩ = some (.string ⟨#[102, 65]⟩) := hs 5 (by omega)
  have s6 : w.cell? ⟨0, 6, none⟩ = some (.string ⟨#[102, 66]⟩) := hs 6 (by omega)
  have s7 : w.cell? ⟨0, 7, none⟩ = some (.string ⟨#[102, 67]⟩) := hs 7 (by omega)
  have s8 : w.cell? ⟨0, 8, none⟩ = some (.string ⟨#[102, 68]⟩) := hs 8 (by omega)
  have s9 : w.cell? ⟨0, 9, none⟩ = some (.string ⟨#[102, 69]⟩) := hs 9 (by omega)
  have s10 : w.cell? ⟨0, 10, none⟩ = some (.string ⟨#[101, 110, 100]⟩) := hs 10 (by omega)
  clear hs
  go_enter Tryz.func14, Tryz.ntmps14
  go_wp2
  clear s0 s1 s2 s3 s4 s5 s6 s7 s8 s9 s10
  go_loopw [6] (fun iv wr => ∃ k : Nat, k ≤ 11 ∧ iv = .int .i64 k ∧ wr = w ∧ Hid (serIx x = serGo x (11 - k) k)) (fun iv _ => 11 - (intOf iv).toNat)
  case atStart => exact ⟨0, by omega, rfl, rfl, Lib.hid rfl⟩
  case round =>
    obtain ⟨k, hk, rfl, rfl, HS⟩ := hrel
    by_cases hlt : k < 11
    · have hix := index_series k hlt
      unfold seriesA at hix
      have hq := toList_beq (El.seriesL.getD k []) x
      have HS2 : Hid (serIx x = if El.seriesL.getD k [] = x then (k : Int) else serGo x (11 - (k + 1)) (k + 1)) := Lib.hid (by
        rw [HS.out]
        obtain ⟨m, hm⟩ : ∃ m, 11 - k = m + 1 := ⟨11 - (k + 1), by omega⟩
        rw [hm, show 11 - (k + 1) = m by omega]
        rfl)
      have k0 : (0 : Int) ≤ (k : Int) := by omega
      have kl : (k : Int) < 11 := by omega
      generalize El.seriesL.getD k [] = nm at *
      by_cases e : nm = x
      · rw [decide_eq_true e] at hq
        go_wp2
        go_ret
        have := HS2.out
        rw [if_pos e] at this
        rw [this]
        exact ⟨rfl, Below.refl _ _⟩
      · rw [decide_eq_false e] at hq
        go_wp2
        go_roundw
        case rel => exact ⟨k + 1, by omega, by go_num, trivial, Lib.hid (by rw [HS2.out, if_neg e])⟩
        case measure => simp [intOf]; omega
    · obtain rfl : k = 11 := by omega
      go_wp2
      go_ret
      have := HS.out
      rw [this]
      exact ⟨rfl, Below.refl _ _⟩
theorem ser_cells (w : World) (k : Nat) (hk : k < 11) : (w.alloc (.cells #[.string ⟨#[65]⟩, .string ⟨#[66]⟩, .string ⟨#[67]⟩, .string ⟨#[68]⟩, .string ⟨#[69]⟩, .string ⟨#[102, 65]⟩, .string ⟨#[102, 66]⟩, .string ⟨#[102, 67]⟩, .string ⟨#[102, 68]⟩, .string ⟨#[102, 69]⟩, .string ⟨#[101, 110, 100]⟩] 9)).cell? ⟨w.heap.size, k, none⟩ = some (.string (str (El.seriesL.getD k []))) := by
  refine mcell (obj_new w _ rfl _ _) k ?_
  have : k = 0 ∨ k = 1 ∨ k = 2 ∨ k = 3 ∨ k = 4 ∨ k = 5 ∨ k = 6 ∨ k = 7 ∨ k = 8 ∨ k = 9 ∨ k = 10 := by omega
  rcases this with rfl | rfl | rfl | rfl | rfl | rfl | rfl | rfl | rfl | rfl | rfl <;> rfl
set_option maxHeartbeats 1000000 in
set_option maxRecDepth 100000 in
theorem refSeries_any (x : List UInt8) (w : World) : Calls Tryz.prog 15 #[.string (str x)] w (Same (.int .i64 (serIx x)) w) := by
  have HC := Lib.hid (ser_cells w)
  have HB := Lib.hid (below_alloc w (.cells #[.string ⟨#[65]⟩, .string ⟨#[66]⟩, .string ⟨#[67]⟩, .string ⟨#[68]⟩, .string ⟨#[69]⟩, .string ⟨#[102, 65]⟩, .string ⟨#[102, 66]⟩, .string ⟨#[102, 67]⟩, .string ⟨#[102, 68]⟩, .string ⟨#[102, 69]⟩, .string ⟨#[101, 110, 100]⟩] 9))
  obtain ⟨W, hW⟩ : ∃ W, W = w.alloc (.cells #[.string ⟨#[65]⟩, .string ⟨#[66]⟩, .string ⟨#[67]⟩, .string ⟨#[68]⟩, .string ⟨#[69]⟩, .string ⟨#[102, 65]⟩, .string ⟨#[102, 66]⟩, .string ⟨#[102, 67]⟩, .string ⟨#[102, 68]⟩, .string ⟨#[102, 69]⟩, .string ⟨#[101, 110, 100]⟩] 9) := ⟨_, rfl⟩
  rw [← hW] at HC HB
  go_enter Tryz.func15, Tryz.ntmps15
  go_wp2
  rw [← hW]
  clear hW
  go_loopw [4] (fun iv wr => ∃ k : Nat, k ≤ 11 ∧ iv = .int .i64 k ∧ wr = W ∧ Hid (serIx x = serGo x (11 - k) k)) (fun iv _ => 11 - (intOf iv).toNat)
  case atStart => exact ⟨0, by omega, rfl, rfl, Lib.hid rfl⟩
  case round =>
    obtain ⟨k, hk, rfl, rfl, HS⟩ := hrel
    by_cases hlt : k < 11
    · have hc := HC.out k hlt
      have hq := toList_beq (El.seriesL.getD k []) x
      have HS2 : Hid (serIx x = if El.seriesL.getD k [] = x then (k : Int) else serGo x (11 - (k + 1)) (k + 1)) := Lib.hid (by
        rw [HS.out]
        obtain ⟨m, hm⟩ : ∃ m, 11 - k = m + 1 := ⟨11 - (k + 1), by omega⟩
        rw [hm, show 11 - (k + 1) = m by omega]
        rfl)
      have k0 : (0 : Int) ≤ (k : Int) := by omega
      have kl : (k : Int) < 11 := by omega
      generalize El.seriesL.getD k [] = nm at *
      by_cases e : nm = x
      · rw [decide_eq_true e] at hq
        go_wp2
        go_ret
        have := HS2.out
        rw [if_pos e] at this
        rw [this]
        exact ⟨rfl, HB.out⟩
      · rw [decide_eq_false e] at hq
        go_wp2
        go_roundw
        case rel => exact ⟨k + 1, by omega, by go_num, trivial, Lib.hid (by rw [HS2.out, if_neg e])⟩
        case measure => simp [intOf]; omega
    · obtain rfl : k = 11 := by omega
      go_wp2
      go_ret
      have := HS.out
      rw [this]
      exact ⟨rfl, HB.out⟩
def BoolD (b : Bool) (w : World) (e : Ending) (w' : World) : Prop := e = .returned (.bool b) ∧ ∃ n, w' = w.drewN n
set_option maxHeartbeats 4000000 in
set_option maxRecDepth 100000 in
theorem texts_self (v1 v2 : Value) (xs : List (List UInt8)) (w : World) (h1 : TxsAt w v1 xs) (h2 : TxsAt w v2 xs) : Calls Tryz.prog 16 #[v1, v2] w (BoolD true w) := by
  obtain ⟨⟨p1, c1, rfl, _⟩, m1, k1⟩ := h1
  obtain ⟨⟨p2, c2, rfl, _⟩, m2, k2⟩ := h2
  have hn : xs.length ≤ 9223372036854775807 := by unfold maxLen at m1; omega
  have HK1 := Lib.hid k1
  have HK2 := Lib.hid k2
  clear k1 k2 m1 m2
  go_enter Tryz.func16, Tryz.ntmps16
  go_wp2
  go_loopw [5] (fun i wr => ∃ k m : Nat, k ≤ xs.length ∧ i = .int .i64 k ∧ wr = w.drewN m) (fun i _ => xs.length - (intOf i).toNat)
  case atStart => exact ⟨0, 0, Nat.zero_le _, rfl, rfl⟩
  case round =>
    obtain ⟨k, m, hk, rfl, rfl⟩ := hrel
    by_cases hlt : k < xs.length
    · obtain ⟨b1, o1, d1, e1, q1⟩ := HK1.out (by omega)
      obtain ⟨b2, o2, d2, e2, q2⟩ := HK2.out (by omega)
      obtain ⟨rfl, rfl⟩ : p1 = some ⟨b1, o1, none⟩ ∧ c1 = d1 := by injection e1 with a1 a2 a3; exact ⟨a1, a3⟩
      obtain ⟨rfl, rfl⟩ : p2 = some ⟨b2, o2, none⟩ ∧ c2 = d2 := by injection e2 with a1 a2 a3; exact ⟨a1, a3⟩
      obtain ⟨s, hs⟩ : ∃ s, xs[k]? = some s := ⟨_, List.getElem?_eq_getElem hlt⟩
      have y1 := tx_cells (q1 k s hs)
      have y2 := tx_cells (q2 k s hs)
      rw [Nat.mul_one] at y1 y2
      have k0 : (0 : Int) ≤ (k : Int) := by omega
      have kl : (k : Int) < (xs.length : Int) := by omega
      clear q1 q2 e1 e2 hs
      go_wp2_with fail
      go_quiet (fail)
      go_wp2
      go_roundw
      case rel => exact ⟨k + 1, m + nq, by omega, by go_num, rfl⟩
      case measure => simp [intOf]; omega
    · go_wp2
      go_ret
      exact ⟨rfl, m, rfl⟩
end Go.Proofs.YtfjplhgajoehfaaGreatDoor

set_option linter.unusedVariables false
set_option linter.unusedSimpArgs false
namespace Go.Proofs.YtfjplhgajoehfaaGreatDoor
open Go.RowKit

/-! ### parts of a slice of strings -/
theorem elemTx : Tryz.prog.elem 38 = 9 := by kernel_rfl
theorem sizeTx (wx : World) : (sizeOf 9).run Tryz.prog wx = .ok 1 wx := by kernel_rfl
theorem run_headT (a : Option Addr) (n k cap : Nat) (h : k ≤ cap) (wx : World) : (Instr.slice 38 (.slice a n cap) none (some (.int .i64 (k : Int))) none).run Tryz.prog wx = .ok (.slice a k cap) wx := by
  rw [run_slice_h (ht := by rw [elemTx]; exact Tryz.underlying38) (h0 := by omega) (h2 := by omega), elemTx, sizeTx]
  cases a <;> simp [Result.andThen, sliced, Addr.add]
/-- where the rest of a slice begins -/
def tailT (a : Option Addr) (k cap : Nat) : Option Addr := a.map fun p => if cap = k then p else p.add (k * 1)
theorem run_tailT (a : Option Addr) (n k cap : Nat) (h : k ≤ n) (wx : World) : (Instr.slice 38 (.slice a n cap) (some (.int .i64 (k : Int))) none none).run Tryz.prog wx = .ok (.slice (tailT a k cap) (n - k) (cap - k)) wx := by
  rw [run_slice_l (ht := by rw [elemTx]; exact Tryz.underlying38) (h0 := by omega) (h1 := by omega), elemTx, sizeTx]
  cases a with
  | none => simp [Result.andThen, sliced, tailT]
  | some p =>
    simp [Result.andThen, sliced, tailT]
    split <;> rfl
theorem slcT_head {w : World} {a : Option Addr} {cap : Nat} {l : List (List UInt8)} (h : TxsAt w (.slice a l.length cap) l) (k : Nat) (hk : k ≤ l.length) : TxsAt w (.slice a k cap) (l.take k) := by
  obtain ⟨⟨a', c', e, hc⟩, hm, hx⟩ := h
  injection e with e1 e2 e3
  subst e1 e3
  have hl : (l.take k).length = k := by rw [List.length_take]; omega
  refine ⟨⟨a, cap, by rw [hl], by rw [hl]; omega⟩, by rw [hl]; omega, fun hp => ?_⟩
  rw [hl] at hp
  obtain ⟨b, o, c', e, hq⟩ := hx (by omega)
  injection e with e1 e2 e3
  subst e1 e3
  refine ⟨b, o, cap, by rw [hl], fun i x hi => hq i x ?_⟩
  rw [List.getElem?_take] at hi
  split at hi
  · exact hi
  · cases hi
theorem slcT_tail {w : World} {a : Option Addr} {cap : Nat} {l : List (List UInt8)} (h : TxsAt w (.slice a l.length cap) l) (k : Nat) (hk : k ≤ l.length) : TxsAt w (.slice (tailT a k cap) (l.length - k) (cap - k)) (l.drop k) := by
  obtain ⟨⟨a', c', e, hc⟩, hm, hx⟩ := h
  injection e with e1 e2 e3
  subst e1 e3
  have hl : (l.drop k).length = l.length - k := List.length_drop ..
  refine ⟨⟨_, _, by rw [hl], by rw [hl]; omega⟩, by rw [hl]; omega, fun hp => ?_⟩
  rw [hl] at hp
  obtain ⟨b, o, c', e, hq⟩ := hx (by omega)
  injection e with e1 e2 e3
  subst e1 e3
  refine ⟨b, o + k * 1, cap - k, ?_, fun i x hi => ?_⟩
  · rw [hl]
    have : ¬ cap = k := by omega
    simp [tailT, this, Addr.add]
  · rw [List.getElem?_drop] at hi
    have := hq (k + i) x hi
    rw [show o + k * 1 + i * 1 = o + (k + i) * 1 by omega]
    exact this
theorem slcT_mid {w : World} {a : Option Addr} {cap : Nat} {l : List (List UInt8)} {n : Nat} (hn : n = l.length) (h : TxsAt w (.slice a n cap) l) (k m : Nat) (hk : k ≤ m) (hm : m ≤ n) : TxsAt w (.slice (tailT a k cap) (m - k) (cap - k)) ((l.take m).drop k) := by
  subst hn
  have h1 := slcT_head h m hm
  have hl : (l.take m).length = m := by rw [List.length_take]; omega
  have h2 := slcT_tail (l := l.take m) (a := a) (cap := cap) (by rw [hl]; exact h1) k (by rw [hl]; exact hk)
  rw [hl] at h2
  exact h2
theorem run_midT (a : Option Addr) (n k m cap : Nat) (h : k ≤ m) (h2 : m ≤ cap) (wx : World) : (Instr.slice 38 (.slice a n cap) (some (.int .i64 (k : Int))) (some (.int .i64 (m : Int))) none).run Tryz.prog wx = .ok (.slice (tailT a k cap) (m - k) (cap - k)) wx := by
  rw [run_slice_lh (ht := by rw [elemTx]; exact Tryz.underlying38) (h0 := by omega) (h1 := by omega) (h2 := by omega), elemTx, sizeTx]
  cases a with
  | none => simp [Result.andThen, sliced, tailT]
  | some p =>
    simp [Result.andThen, sliced, tailT]
    split <;> rfl
/-- the words of a lemma -/
def lemW (ws : List (List UInt8)) (fr til : Int) : List (List UInt8) := if fr < 0 ∨ til < fr ∨ (ws.length : Int) < til then [] else (ws.take til.toNat).drop fr.toNat
def LemPost (ws : List (List UInt8)) (fr til : Int) (w : World) (e : Ending) (w' : World) : Prop := ∃ v, e = .returned v ∧ Below w.heap.size w w' ∧ TxsAt w' v (lemW ws fr til)
theorem txs_none (w : World) : TxsAt w (.slice none 0 0) [] := ⟨⟨none, 0, rfl, Nat.le_refl _⟩, by unfold maxLen; simp, fun h => by simp at h⟩
set_option maxHeartbeats 4000000 in
set_option maxRecDepth 100000 in
theorem lemma_any (pc pw pn pt : Option Addr) (nc nw nn nt cc cw cn ct : Nat) (ws : List (List UInt8)) (ser fr til loc : Int) (w : World) (h : TxsAt w (.slice pw nw cw) ws) (hsm : ∀ x ∈ ws, x.length ≤ 281474976710656) (hl : ws.length ≤ 8796093021952)
    (f0 : -9223372036854775808 ≤ fr) (f1 : fr ≤ 9223372036854775807) (t0 : -9223372036854775808 ≤ til) (t1 : til ≤ 9223372036854775807) :
    Calls Tryz.prog 17 #[.agg #[.slice pc nc cc, .slice pw nw cw, .slice pn nn cn], .agg #[.int .i64 ser, .int .i64 fr, .int .i64 til, .slice pt nt ct, .int .i64 loc]] w (LemPost ws fr til w) := by
  have hn : nw = ws.length := by obtain ⟨⟨a, c, e, _⟩, _⟩ := h; injection e
  have hcap : ws.length ≤ cw := by obtain ⟨⟨a, c, e, hc⟩, _⟩ := h; injection e with e1 e2 e3; omega
  subst hn
  have hb1 := below_alloc w (.cells #[.slice pc nc cc, .slice pw ws.length cw, .slice pn nn cn] 41)
  have hb2 := below_alloc (w.alloc (.cells #[.slice pc nc cc, .slice pw ws.length cw, .slice pn nn cn] 41)) (.cells #[.int .i64 ser, .int .i64 fr, .int .i64 til, .slice pt nt ct, .int .i64 loc] 44)
  have HB := Lib.hid (below_step hb1 hb2)
  have HT := Lib.hid (SlcAt.mono h (below_step hb1 hb2))
  have HSM := Lib.hid hsm
  have HLL := Lib.hid hl
  have o1 := obj_kept hb2 (obj_new w _ rfl #[.slice pc nc cc, .slice pw ws.length cw, .slice pn nn cn] 41)
  have o2 := obj_new (w.alloc (.cells #[.slice pc nc cc, .slice pw ws.length cw, .slice pn nn cn] 41)) (w.heap.size + 1) (by simp) #[.int .i64 ser, .int .i64 fr, .int .i64 til, .slice pt nt ct, .int .i64 loc] 44
  obtain ⟨W, hW⟩ : ∃ W, W = (w.alloc (.cells #[.slice pc nc cc, .slice pw ws.length cw, .slice pn nn cn] 41)).alloc (.cells #[.int .i64 ser, .int .i64 fr, .int .i64 til, .slice pt nt ct, .int .i64 loc] 44) := ⟨_, rfl⟩
  rw [← hW] at HB HT o1 o2
  have c1 := mcell o1 1 rfl
  have n1 := mcell o2 1 rfl
  have n2 := mcell o2 2 rfl
  obtain ⟨n, hnn⟩ : ∃ n, n = ws.length := ⟨_, rfl⟩
  rw [← hnn] at HT c1 hcap hW hl
  have HN := Lib.hid hnn
  clear hb1 hb2 h hsm o1 o2
  have hlem : lemW ws fr til = if fr < 0 ∨ til < fr ∨ (n : Int) < til then [] else (ws.take til.toNat).drop fr.toNat := by rw [hnn]; rfl
  have HLM := Lib.hid hlem
  clear hlem
  rw [← hnn]
  clear hnn
  go_enter Tryz.func17, Tryz.ntmps17
  go_upto_region 1 with fail
  rw [← hW]
  clear hW
  by_cases c0 : fr < 0
  · go_wp2_with fail
    go_ret
    exact ⟨_, rfl, HB.out, by rw [HLM.out, if_pos (.inl c0)]; exact txs_none _⟩
  · by_cases c2 : til < fr
    · go_wp2_with fail
      go_ret
      exact ⟨_, rfl, HB.out, by rw [HLM.out, if_pos (.inr (.inl c2))]; exact txs_none _⟩
    · by_cases c3 : (n : Int) < til
      · go_wp2_with fail
        go_ret
        exact ⟨_, rfl, HB.out, by rw [HLM.out, if_pos (.inr (.inr c3))]; exact txs_none _⟩
      · obtain ⟨f, rfl⟩ : ∃ f : Nat, fr = (f : Int) := ⟨fr.toNat, by omega⟩
        obtain ⟨m, rfl⟩ : ∃ m : Nat, til = (m : Int) := ⟨til.toNat, by omega⟩
        have hfm : f ≤ m := by omega
        have hmn : m ≤ n := by omega
        have hlem := HLM.out
        rw [if_neg (fun h => h.elim c0 (fun h => h.elim c2 c3)), Int.toNat_natCast, Int.toNat_natCast] at hlem
        have HMid := Lib.hid (slcT_mid HN.out HT.out f m hfm hmn)
        have hL : ((ws.take m).drop f).length = m - f := by rw [List.length_drop, List.length_take, ← HN.out]; omega
        have HLs := Lib.hid (fun x (hx : x ∈ (ws.take m).drop f) => HSM.out x (List.mem_of_mem_take (List.mem_of_mem_drop hx)))
        generalize (ws.take m).drop f = L at hlem HMid hL HLs
        have HLM2 := Lib.hid hlem
        have HL := Lib.hid hL
        have hs1 := fun wx => run_midT pw n f m cw hfm (by omega) wx
        have hs2 : ∀ wx, (Instr.sliceAt 38 (.slice pw n cw) (some (.int .i64 (f : Int))) (some (.int .i64 (m : Int))) none).run Tryz.prog wx = .ok (.slice (tailT pw f cw) (m - f) (cw - f)) wx := fun wx => by rw [run_sliceAt_slice (h := by rw [elemTx]; exact Tryz.underlying38)]; exact hs1 wx
        have hgf : (f : Int) ≤ m := by omega
        obtain ⟨k, hk⟩ : ∃ k, k = m - f := ⟨_, rfl⟩
        rw [← hk] at hs1 hs2 hL HMid
        have hkn : k ≤ 8796093021952 := by omega
        generalize tailT pw f cw = A at hs1 hs2 HMid
        generalize hcf : cw - f = C at hs1 hs2 HMid
        clear hcf HLM hlem hL
        have HK := Lib.hid hk
        clear hk
        have HO0 := Lib.hid (ownR_nil 9 txC 1 W.heap.size W)
        go_wp2_with fail
        clear c1 n1 n2 hs1 hs2
        go_loopw [5, 34] (fun kv iv wr => ∃ i : Nat, i ≤ k ∧ iv = .int .i64 i ∧ Hid (OwnTx W.heap.size kv (L.take i) wr) ∧ Hid (Below W.heap.size W wr)) (fun _ iv _ => k - (intOf iv).toNat)
        case atStart => exact ⟨0, Nat.zero_le _, rfl, HO0, Lib.hid (Below.refl _ _)⟩
        case round =>
          obtain ⟨i, hi, rfl, HO, HW⟩ := hrel
          clear HO0
          have hll : L.length = k := by rw [HL.out, HK.out]
          by_cases hlt : i < k
          · obtain ⟨b1, o1, d1, e1, r1⟩ := HMid.out.2.2 (by omega)
            rw [hll] at e1
            obtain ⟨rfl, rfl⟩ : A = some ⟨b1, o1, none⟩ ∧ C = d1 := by injection e1 with a1 a2 a3; exact ⟨a1, a3⟩
            obtain ⟨x, hx⟩ : ∃ x, L[i]? = some x := ⟨_, List.getElem?_eq_getElem (by omega)⟩
            have y0 := tx_cells ((r1 i x hx).mono HW.out)
            rw [Nat.mul_one] at y0
            have k0 : (0 : Int) ≤ (i : Int) := by omega
            have kl : (i : Int) < (k : Int) := by omega
            have HTk : Hid (L.take (i + 1) = L.take i ++ [x]) := Lib.hid (by rw [List.take_add_one, hx]; rfl)
            have HLi : Hid ((L.take i).length = i) := Lib.hid (by rw [List.length_take]; omega)
            have HCl := Lib.hid (clone14 (str x) (by rw [str_size13]; exact HLs.out x (List.mem_of_getElem? hx)) wr)
            clear r1 e1 hx hll
            go_wp2_with (first
              | (go_at_call 34; refine HCl.out.mono ?_; rintro e w2 ⟨rfl, hb⟩; have HC2 := Lib.hid hb; clear hb; have hb3 := below_alloc w2 (.cells #[.string (str x)] 9); have HO3 := Lib.hid ((HO.out.mono HC2.out).mono hb3); have HS3 := Lib.hid (slc_new txC_len w2 w2.heap.size rfl [x] 9 (by simp) #[.string (str x)] rfl); have HW3 := Lib.hid (HW.out.trans ((below_step HC2.out hb3).mono HW.out.size)); clear hb3 y0)
              | (at_builtin; refine wpList_append_slc Tryz.underlying38 infoTx13 rfl (by decide) txC_len txC_cell rfl _ _ rfl W.heap.size _ _ (L.take i) [x] rfl HO3.out rfl HS3.out (by rw [HLi.out]; simp; omega) (by rw [HLi.out]; unfold maxLen; simp; omega) HW3.out.size ?_; intro v9 w9 h9 hg9; have HO9 := Lib.hid (HTk.out ▸ h9); have HW9 := Lib.hid (below_app HW3.out hg9 HO3.out HW3.out.size); clear h9 hg9))
            go_roundw
            case rel => exact ⟨i + 1, by omega, by go_num, HO9, HW9⟩
            case measure => simp [intOf]; omega
          · obtain rfl : i = k := by omega
            have HX := Lib.hid (OwnR.at HO.out txC_len)
            go_wp2
            go_ret
            refine ⟨_, rfl, HB.out.trans (HW.out.mono HB.out.size), ?_⟩
            rw [HLM2.out]
            have := HX.out
            rw [List.take_of_length_le (by rw [hll]; omega)] at this
            exact this
end Go.Proofs.YtfjplhgajoehfaaGreatDoor

set_option linter.unusedVariables false
set_option linter.unusedSimpArgs false
namespace Go.Proofs.YtfjplhgajoehfaaGreatDoor
open Go.RowKit

theorem lemW_len (ws : List (List UInt8)) (fr til : Int) : ((lemW ws fr til).length : Int) = if fr < 0 ∨ til < fr ∨ (ws.length : Int) < til then 0 else til - fr := by
  unfold lemW
  by_cases h : fr < 0 ∨ til < fr ∨ (ws.length : Int) < til
  · rw [if_pos h, if_pos h]; rfl
  · rw [if_neg h, if_neg h, List.length_drop, List.length_take]
    omega
theorem lemW_at (ws : List (List UInt8)) (fr til : Int) (j g : Nat) (hj : j < (lemW ws fr til).length) (hg : fr + (j : Int) = (g : Int)) : (lemW ws fr til)[j]? = ws[g]? ∧ g < ws.length := by
  have hl := lemW_len ws fr til
  unfold lemW at hj ⊢
  by_cases h : fr < 0 ∨ til < fr ∨ (ws.length : Int) < til
  · rw [if_pos h] at hj
    simp at hj
  · unfold lemW at hl
    rw [if_neg h] at hj ⊢
    rw [if_neg h, if_neg h] at hl
    rw [List.getElem?_drop, List.getElem?_take]
    have h1 : fr.toNat + j = g := by omega
    rw [h1, if_pos (by omega)]
    exact ⟨rfl, by omega⟩
set_option maxHeartbeats 4000000 in
set_option maxRecDepth 100000 in
theorem refLemma_any (pc pw pn pt : Option Addr) (nc nw nn nt cc cw cn ct : Nat) (ws : List (List UInt8)) (ser fr til loc : Int) (w : World) (h : TxsAt w (.slice pw nw cw) ws) (hl : ws.length ≤ 8796093021952)
    (f0 : -9223372036854775808 ≤ fr) (f1 : fr ≤ 9223372036854775807) (t0 : -9223372036854775808 ≤ til) (t1 : til ≤ 9223372036854775807) :
    Calls Tryz.prog 18 #[.agg #[.slice pc nc cc, .slice pw nw cw, .slice pn nn cn], .agg #[.int .i64 ser, .int .i64 fr, .int .i64 til, .slice pt nt ct, .int .i64 loc]] w (LemPost ws fr til w) := by
  have hn : nw = ws.length := by obtain ⟨⟨a, c, e, _⟩, _⟩ := h; injection e
  subst hn
  have hb1 := below_alloc w (.cells #[.slice pc nc cc, .slice pw ws.length cw, .slice pn nn cn] 41)
  have hb2 := below_alloc (w.alloc (.cells #[.slice pc nc cc, .slice pw ws.length cw, .slice pn nn cn] 41)) (.cells #[.int .i64 ser, .int .i64 fr, .int .i64 til, .slice pt nt ct, .int .i64 loc] 44)
  have o1 := obj_kept hb2 (obj_new w _ rfl #[.slice pc nc cc, .slice pw ws.length cw, .slice pn nn cn] 41)
  have o2 := obj_new (w.alloc (.cells #[.slice pc nc cc, .slice pw ws.length cw, .slice pn nn cn] 41)) (w.heap.size + 1) (by simp) #[.int .i64 ser, .int .i64 fr, .int .i64 til, .slice pt nt ct, .int .i64 loc] 44
  obtain ⟨V, hV⟩ : ∃ V, V = (w.alloc (.cells #[.slice pc nc cc, .slice pw ws.length cw, .slice pn nn cn] 41)).alloc (.cells #[.int .i64 ser, .int .i64 fr, .int .i64 til, .slice pt nt ct, .int .i64 loc] 44) := ⟨_, rfl⟩
  have hVB := below_step hb1 hb2
  rw [← hV] at o1 o2 hVB
  have hb3 := below_alloc V (.cells #[] 9)
  have HO0 := Lib.hid (own_empty (9) txC 1 V)
  have p1 := Lib.hid o1
  have p2 := Lib.hid o2
  have HB := Lib.hid hVB
  obtain ⟨W, hW⟩ : ∃ W, W = V.alloc (.cells #[] 9) := ⟨_, rfl⟩
  rw [← hW] at HO0 hb3
  have HVW := Lib.hid hb3
  have HT := Lib.hid (SlcAt.mono h HB.out)
  obtain ⟨n, hnn⟩ : ∃ n, n = ws.length := ⟨_, rfl⟩
  rw [← hnn] at HT p1 hl hV
  have HN := Lib.hid hnn
  rw [← hnn]
  have n1 := mcell (obj_kept hb3 p2.out) 1 rfl
  clear hb1 hb2 hb3 h o1 o2 hVB hnn
  obtain ⟨L, hL⟩ : ∃ L, L = lemW ws fr til := ⟨_, rfl⟩
  have HL := Lib.hid hL
  have hlen := lemW_len ws fr til
  have hat := lemW_at ws fr til
  rw [← HN.out] at hlen hat
  rw [← hL] at hlen hat
  have HLen := Lib.hid hlen
  have HAt := Lib.hid hat
  clear hlen hat hL
  go_enter Tryz.func18, Tryz.ntmps18
  go_upto_region 1 with fail
  rw [← hV]
  clear hV
  go_upto_region 2 with fail
  rw [← hW]
  clear hW
  go_wp2_with fail
  clear n1
  go_loopw [5, 6] (fun kv iv wr => ∃ j : Nat, j ≤ L.length ∧ iv = .int .i64 (fr + (j : Int)) ∧ Hid (OwnTx V.heap.size kv (L.take j) wr) ∧ Hid (Below V.heap.size V wr)) (fun _ iv _ => L.length - (intOf iv - fr).toNat)
  case atStart => exact ⟨0, Nat.zero_le _, by simp, HO0, HVW⟩
  case round =>
    obtain ⟨j, hj, rfl, HO, HW⟩ := hrel
    clear HO0
    have n1 := mcell (obj_kept HW.out p2.out) 1 rfl
    have n2 := mcell (obj_kept HW.out p2.out) 2 rfl
    have c1 := mcell (obj_kept HW.out p1.out) 1 rfl
    by_cases hlt : j < L.length
    · have hle := HLen.out
      have hgood : ¬(fr < 0 ∨ til < fr ∨ (n : Int) < til) := fun hc => by rw [if_pos hc] at hle; omega
      rw [if_neg hgood] at hle
      obtain ⟨g, hg⟩ : ∃ g : Nat, fr + (j : Int) = (g : Int) := ⟨(fr + (j : Int)).toNat, by omega⟩
      obtain ⟨hx1, hgn⟩ := HAt.out j g hlt hg
      obtain ⟨b1, o1, d1, e1, r1⟩ := HT.out.2.2 (by rw [← HN.out]; omega)
      rw [← HN.out] at e1
      obtain ⟨rfl, rfl⟩ : pw = some ⟨b1, o1, none⟩ ∧ cw = d1 := by injection e1 with a1 a2 a3; exact ⟨a1, a3⟩
      obtain ⟨x, hx⟩ : ∃ x, L[j]? = some x := ⟨_, List.getElem?_eq_getElem hlt⟩
      have y0 := tx_cells ((r1 g x (by rw [← hx1]; exact hx)).mono HW.out)
      rw [Nat.mul_one] at y0
      rw [hg]
      have g0 : (0 : Int) ≤ (g : Int) := by omega
      have gl : (g : Int) < (n : Int) := by omega
      have gt : (g : Int) < til := by omega
      have fr0 : 0 ≤ fr := by omega
      have tn : til ≤ (n : Int) := by omega
      have hb3 := below_alloc wr (.cells #[.string (str x)] 9)
      have HO3 := Lib.hid (HO.out.mono hb3)
      have HS3 := Lib.hid (slc_new txC_len wr wr.heap.size rfl [x] 9 (by simp) #[.string (str x)] rfl)
      have HW3 := Lib.hid (HW.out.trans (hb3.mono HW.out.size))
      have HTk : Hid (L.take (j + 1) = L.take j ++ [x]) := Lib.hid (by rw [List.take_add_one, hx]; rfl)
      have HLi : Hid ((L.take j).length = j) := Lib.hid (by rw [List.length_take]; omega)
      have HG := Lib.hid hg
      have hjn : j ≤ 8796093021952 := by omega
      clear hb3 r1 e1 hx hx1 hle hgood hg
      go_wp2_with (at_builtin; refine wpList_append_slc Tryz.underlying38 infoTx13 rfl (by decide) txC_len txC_cell rfl _ _ rfl V.heap.size _ _ (L.take j) [x] rfl HO3.out rfl HS3.out (by rw [HLi.out]; simp; omega) (by rw [HLi.out]; unfold maxLen; simp; omega) HW3.out.size ?_; intro v9 w9 h9 hg9; have HO9 := Lib.hid (HTk.out ▸ h9); have HW9 := Lib.hid (below_app HW3.out hg9 HO3.out HW3.out.size); clear h9 hg9)
      go_roundw
      case rel => exact ⟨j + 1, by omega, by rw [show fr + ((j + 1 : Nat) : Int) = (g : Int) + 1 by have := HG.out; omega], HO9, HW9⟩
      case measure => have := HG.out; simp [intOf]; omega
    · obtain rfl : j = L.length := by omega
      have hle := HLen.out
      have HX := Lib.hid (OwnR.at HO.out txC_len)
      have HF := Lib.hid (show LemPost ws fr til w (.returned _) wr from ⟨_, rfl, HB.out.trans (HW.out.mono HB.out.size), by
        rw [← HL.out]
        have := HX.out
        rw [List.take_of_length_le (Nat.le_refl _)] at this
        exact this⟩)
      clear HX
      obtain ⟨z, hz⟩ : ∃ z, z = fr + (L.length : Int) := ⟨_, rfl⟩
      rw [← hz]
      by_cases a1 : z < til
      · by_cases a2 : 0 ≤ fr
        · by_cases a3 : til ≤ (n : Int)
          · exfalso
            rw [if_neg (fun hc => by omega)] at hle
            omega
          · clear hle hz
            go_wp2_with fail
            go_ret
            exact HF.out
        · clear hle hz
          go_wp2_with fail
          go_ret
          exact HF.out
      · clear hle hz
        go_wp2_with fail
        go_ret
        exact HF.out
end Go.Proofs.YtfjplhgajoehfaaGreatDoor

set_option linter.unusedVariables false
set_option linter.unusedSimpArgs false
namespace Go.Proofs.YtfjplhgajoehfaaGreatDoor
open Go.RowKit

/-- a node, as it lies -/
structure RNd where
  c : Bool
  x : List UInt8
  v : Hd
  a : Int
def ndC (r : RNd) : List Value := [.bool r.c, .string (str r.x), r.v.v, .int .i64 r.a]
theorem ndC_len (r : RNd) : (ndC r).length = 4 := rfl
theorem infoNd14 : (Tryz.prog.info? 89).map (fun i => (i.zero, i.size, i.bytes)) = some (some (.agg #[.bool false, .string ByteArray.empty, .slice none 0 0, .int .i64 0]), 4, 56) := by kernel_rfl
theorem ndC_cell (l : List RNd) : ∀ u ∈ l.flatMap ndC, u.oneCell' = true := by
  intro u hu
  obtain ⟨x, _, hx⟩ := List.mem_flatMap.1 hu
  simp only [ndC, List.mem_cons, List.not_mem_nil, or_false] at hx
  rcases hx with rfl | rfl | rfl | rfl <;> rfl
abbrev OwnNd (B : Nat) (v : Value) (l : List RNd) (w : World) : Prop := OwnR 89 ndC 4 B v l w
def nilH : Hd := ⟨none, 0, 0⟩
def wordR (x : List UInt8) : RNd := ⟨false, x, nilH, 0⟩
/-- the record r is the node n -/
def NdIs (w : World) (K : Nat → Prop) (r : RNd) (n : El.Nd) : Prop := n = .mk r.c r.x (El.args n) r.a ∧ ArgsAt w K r.v.v (El.args n)
theorem nodes_of_slc {w : World} {K : Nat → Prop} {v : Value} {rs : List RNd} {l : List El.Nd} (h : SlcK ndC 4 K w v rs) (e : Each (NdIs w K) rs l) : NodesAt w K v l := by
  obtain ⟨h1, h2, h3⟩ := h
  rw [e.1] at h1 h2 h3
  refine ⟨h1, h2, fun hp => ?_⟩
  obtain ⟨b, o, cap, ev, hb, hr⟩ := h3 hp
  refine ⟨b, o, cap, ev, hb, RowN.of fun i n hi => ?_⟩
  obtain ⟨r, hr1, hr2, hr3⟩ := e.get hi
  have hc := hr i r hr1
  have q0 := hc 0 _ rfl
  have q1 := hc 1 _ rfl
  have q2 := hc 2 _ rfl
  have q3 := hc 3 _ rfl
  rw [hr2]
  unfold NdAt
  exact ⟨_, q0, q1, q2, q3, hr3⟩
theorem word_is (w : World) (K : Nat → Prop) (x : List UInt8) : NdIs w K (wordR x) (.mk false x [] 0) := ⟨rfl, args_none w K⟩
def WordsPost (xs : List (List UInt8)) (w : World) (e : Ending) (w' : World) : Prop := ∃ v, e = .returned v ∧ Below w.heap.size w w' ∧ OwnNd w.heap.size v (xs.map wordR) w'
set_option maxHeartbeats 4000000 in
set_option maxRecDepth 100000 in
theorem words14_any (v : Value) (xs : List (List UInt8)) (w : World) (h : TxsAt w v xs) (hl : xs.length ≤ 1000) : Calls Tryz.prog 27 #[v] w (WordsPost xs w) := by
  have hb3 := below_alloc w (.cells #[] 89)
  have HO0 := Lib.hid (own_empty (89) ndC 4 w)
  have HT := Lib.hid h
  obtain ⟨⟨pw, cw, rfl, _⟩, _, _⟩ := h
  obtain ⟨W, hW⟩ : ∃ W, W = w.alloc (.cells #[] 89) := ⟨_, rfl⟩
  rw [← hW] at HO0 hb3
  have HVW := Lib.hid hb3
  clear hb3
  obtain ⟨n, hnn⟩ : ∃ n, n = xs.length := ⟨_, rfl⟩
  rw [← hnn] at HT hl
  have HN := Lib.hid hnn
  rw [← hnn]
  clear hnn
  go_enter Tryz.func27, Tryz.ntmps27
  go_upto_region 2 with fail
  rw [← hW]
  clear hW
  go_wp2_with fail
  go_loopw [3, 4] (fun kv iv wr => ∃ j : Nat, j ≤ n ∧ iv = .int .i64 j ∧ Hid (OwnNd w.heap.size kv ((xs.take j).map wordR) wr) ∧ Hid (Below w.heap.size w wr)) (fun _ iv _ => n - (intOf iv).toNat)
  case atStart => exact ⟨0, Nat.zero_le _, rfl, HO0, HVW⟩
  case round =>
    obtain ⟨j, hj, rfl, HO, HW⟩ := hrel
    clear HO0
    by_cases hlt : j < n
    · obtain ⟨b1, o1, d1, e1, r1⟩ := HT.out.2.2 (by rw [← HN.out]; omega)
      rw [← HN.out] at e1
      obtain ⟨rfl, rfl⟩ : pw = some ⟨b1, o1, none⟩ ∧ cw = d1 := by injection e1 with a1 a2 a3; exact ⟨a1, a3⟩
      obtain ⟨x, hx⟩ : ∃ x, xs[j]? = some x := ⟨_, List.getElem?_eq_getElem (by rw [← HN.out]; exact hlt)⟩
      have y0 := tx_cells ((r1 j x hx).mono HW.out)
      rw [Nat.mul_one] at y0
      have k0 : (0 : Int) ≤ (j : Int) := by omega
      have kl : (j : Int) < (n : Int) := by omega
      have hb3 := below_alloc wr (.cells #[.bool false, .string (str x), .slice none 0 0, .int .i64 0] 89)
      have HO3 := Lib.hid (HO.out.mono hb3)
      have HS3 := Lib.hid (slc_new ndC_len wr wr.heap.size rfl [wordR x] 89 (by simp) #[.bool false, .string (str x), .slice none 0 0, .int .i64 0] rfl)
      have HW3 := Lib.hid (HW.out.trans (hb3.mono HW.out.size))
      have HTk : Hid ((xs.take (j + 1)).map wordR = (xs.take j).map wordR ++ [wordR x]) := Lib.hid (by rw [List.take_add_one, hx, List.map_append]; rfl)
      have HLi : Hid (((xs.take j).map wordR).length = j) := Lib.hid (by rw [List.length_map, List.length_take, ← HN.out]; omega)
      clear hb3 r1 e1 hx
      go_wp2_with (at_builtin; refine wpList_append_slc Tryz.underlying22 infoNd14 rfl (by decide) ndC_len ndC_cell rfl _ _ rfl w.heap.size _ _ ((xs.take j).map wordR) [wordR x] rfl HO3.out rfl HS3.out (by rw [HLi.out]; simp; omega) (by rw [HLi.out]; unfold maxLen; simp; omega) HW3.out.size ?_; intro v9 w9 h9 hg9; have HO9 := Lib.hid (HTk.out ▸ h9); have HW9 := Lib.hid (below_app HW3.out hg9 HO3.out HW3.out.size); clear h9 hg9)
      go_roundw
      case rel => exact ⟨j + 1, by omega, by go_num, HO9, HW9⟩
      case measure => simp [intOf]; omega
    · obtain rfl : j = n := by omega
      have HX : Hid (xs.take j = xs) := Lib.hid (List.take_of_length_le (by rw [← HN.out]; omega))
      go_wp2
      go_ret
      refine ⟨_, rfl, HW.out, ?_⟩
      have := HO.out
      rw [HX.out] at this
      exact this
def CmdPost (x : List UInt8) (a : Value) (w : World) (e : Ending) (w' : World) : Prop := e = .returned (.agg #[.bool true, .string (str x), a, .int .i64 0]) ∧ Below w.heap.size w w'
set_option maxHeartbeats 4000000 in
set_option maxRecDepth 100000 in
theorem command14_any (x : List UInt8) (p : Option Addr) (n c : Nat) (w : World) : Calls Tryz.prog 36 #[.string (str x), .slice p n c] w (CmdPost x (.slice p n c) w) := by
  have HB := Lib.hid (below_alloc w (.cells #[.bool true, .string (str x), .slice p n c, .int .i64 0] 89))
  have o4 := obj_new w _ rfl #[.bool true, .string (str x), .slice p n c, .int .i64 0] 89
  have q0 := mcell o4 0 rfl
  have q1 := mcell o4 1 rfl
  have q2 := mcell o4 2 rfl
  have q3 := mcell o4 3 rfl
  obtain ⟨WF, hWF⟩ : ∃ WF, WF = w.alloc (.cells #[.bool true, .string (str x), .slice p n c, .int .i64 0] 89) := ⟨_, rfl⟩
  rw [← hWF] at HB q0 q1 q2 q3
  clear o4
  go_enter Tryz.func36, Tryz.ntmps36
  go_wp2
  rw [← hWF]
  exact bodyPost_ret (v := .agg #[.bool true, .string (str x), .slice p n c, .int .i64 0]) (by simp [results, Tryz.results36, go_sem, q0, q1, q2, q3]) rfl ⟨rfl, HB.out⟩
end Go.Proofs.YtfjplhgajoehfaaGreatDoor
