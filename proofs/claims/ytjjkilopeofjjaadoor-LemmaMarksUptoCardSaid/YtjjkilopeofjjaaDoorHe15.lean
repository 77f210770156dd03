/-
  The closures of Short and of Head; the landed Short, Head.
-/
import Derived.Test.YtjjkilopeofjjaaDoorSh15
set_option linter.unusedVariables false
set_option linter.unusedSimpArgs false
namespace Go.Proofs.YtjjkilopeofjjaaDoor
open Go.RowKit
/-! ### the closures -/
set_option maxHeartbeats 1000000 in
set_option maxRecDepth 100000 in
theorem cloShort_any (m : Int) (p : Nat) (v : Value) (L : List (List UInt8)) (hs : TxSm L) (i : Nat) (x : List UInt8) (hx : L[i]? = some x) (w : World) (hE : Env15 m w) (h : TxsAt w v L) (hc : w.cell? ⟨p, 0, none⟩ = some v) :
    Calls Tryd.prog 26 #[.int .i64 (i : Int), .pointer (some ⟨p, 0, none⟩)] w (Ret (.string (str (Lm.plain x))) w) := by
  have HC := Lib.hid (bare_any m x (sm_get hs hx) w hE)
  obtain ⟨⟨pa, cp, rfl, hcap⟩, hm, hk⟩ := h
  have hil := (List.getElem?_eq_some_iff.1 hx).1
  obtain ⟨b1, o1, d1, e1, r1⟩ := hk (by omega)
  obtain ⟨rfl, rfl⟩ : pa = some ⟨b1, o1, none⟩ ∧ cp = d1 := by injection e1 with a1 a2 a3; exact ⟨a1, a3⟩
  have y0 := tx_cells (r1 i x hx)
  rw [Nat.mul_one] at y0
  have i0 : (0 : Int) ≤ (i : Int) := by omega
  have il : (i : Int) < (L.length : Int) := by omega
  generalize L.length = n at *
  clear hE e1 r1 hx hm hk hcap
  go_enter Tryd.func26, Tryd.ntmps26
  go_wp2_with fail
  refine HC.out.mono ?_
  rintro e w1 ⟨rfl, hb⟩
  have HB := Lib.hid hb
  clear hb HC
  go_wp2
  go_ret
  exact ⟨rfl, HB.out⟩
set_option maxHeartbeats 1000000 in
set_option maxRecDepth 100000 in
theorem cloHead_any (m : Int) (p p2 : Nat) (v : Value) (L : List (List UInt8)) (hs : TxSm L) (a i : Nat) (hi : a + i < L.length) (w : World) (hE : Env15 m w) (h : TxsAt w v L) (hc : w.cell? ⟨p, 0, none⟩ = some v) (hc2 : w.cell? ⟨p2, 0, none⟩ = some (.int .i64 (a : Int))) :
    Calls Tryd.prog 28 #[.int .i64 (i : Int), .pointer (some ⟨p, 0, none⟩), .pointer (some ⟨p2, 0, none⟩)] w (Ret (.string (str (Lm.mark L (a + i)))) w) := by
  have hq := mark_any m v L ((a + i : Nat) : Int) w hE h hs
  rw [markI_at hi] at hq
  have HC := Lib.hid hq
  obtain ⟨⟨pa, cp, rfl, hcap⟩, hm, hk⟩ := h
  have hml : L.length ≤ 9223372036854775807 := by unfold maxLen at hm; omega
  obtain ⟨s, hsum⟩ : ∃ s : Int, s = ((a + i : Nat) : Int) := ⟨_, rfl⟩
  have e1 : wrap64 ((a : Int) + (i : Int)) = s := by rw [w64 (by omega) (by omega), hsum]; omega
  rw [← hsum] at HC
  generalize Lm.mark L (a + i) = mk at *
  clear hE hq hm hk hcap hsum hi hs
  go_enter Tryd.func28, Tryd.ntmps28
  go_wp2_with fail
  refine HC.out.mono ?_
  rintro e w1 ⟨rfl, hb⟩
  have HB := Lib.hid hb
  clear hb HC
  go_wp2
  go_ret
  exact ⟨rfl, HB.out⟩
/-! ### Short, Head -/
set_option maxHeartbeats 4000000 in
set_option maxRecDepth 100000 in
theorem shortL_any (m : Int) (v : Value) (L : List (List UInt8)) (w : World) (hE : Env15 m w) (h : TxsAt w v L) (hs : TxSm L) : Calls Tryd.prog 15 #[v] w (Ret (.string (str (Lm.short L))) w) := by
  have hb1 := below_alloc w (.cells #[v] 22)
  have hc1 := lay_one15 w w.heap.size rfl v 22
  have hG : ∀ x ∈ L.map Lm.plain, x.length ≤ 1048600 := fun x hx => by
    obtain ⟨y, hy, rfl⟩ := List.mem_map.1 hx
    have := hs y hy
    have := Lm.plain_length y
    omega
  have hmax : L.length ≤ 9223372036854775807 := by have := h.2.1; unfold maxLen at this; omega
  have HG := Lib.hid (inShort_any w.heap.size (L.map Lm.plain) L.length (by simp) hG hmax (w.alloc (.cells #[v] 22)) (w.alloc (.cells #[v] 22)) (Below.refl _ _) (fun i s w1 hi hw1 => by
    rw [List.getElem?_map] at hi
    obtain ⟨x, hx, rfl⟩ := Option.map_eq_some_iff.1 hi
    exact cloShort_any m w.heap.size v L hs i x hx w1 ((hE.mono hb1).mono hw1) ((h.mono hb1).mono hw1) (cell_below hw1 hc1)))
  obtain ⟨⟨pa, cp, rfl, hcap⟩, hm, _⟩ := h
  have HB := Lib.hid hb1
  have hmf := mkf15
  have e0 : Lm.join (L.map Lm.plain) = Lm.short L := rfl
  rw [e0] at HG
  generalize Lm.short L = q at *
  generalize L.length = n at *
  clear hb1 hc1 hm hE hG hcap e0
  go_enter Tryd.func15, Tryd.ntmps15
  go_wp2_with fail
  refine HG.out.mono ?_
  rintro e w1 ⟨rfl, hb1⟩
  have HB1 := Lib.hid (below_step HB.out hb1)
  clear hb1 HG HB
  go_wp2
  go_ret
  exact ⟨rfl, HB1.out⟩
theorem head_out {L : List (List UInt8)} {a b : Int} (h : ¬ (0 ≤ a ∧ a < b ∧ b ≤ L.length)) : Lm.head L a b = [] := by unfold Lm.head; rw [if_neg h]
theorem marks_len15 {L : List (List UInt8)} (hs : TxSm L) (hn : L.length ≤ 9223372036854775807) (a n : Nat) : ∀ x ∈ Lm.marks L a n, x.length ≤ 1048600 := fun x hx => by
  unfold Lm.marks at hx
  obtain ⟨k, _, rfl⟩ := List.mem_map.1 hx
  exact mark_len hs hn _
set_option maxHeartbeats 4000000 in
set_option maxRecDepth 100000 in
theorem head_any (m : Int) (v : Value) (L : List (List UInt8)) (a b : Int) (w : World) (hE : Env15 m w) (h : TxsAt w v L) (hs : TxSm L) : Calls Tryd.prog 17 #[v, .int .i64 a, .int .i64 b] w (Ret (.string (str (Lm.head L a b))) w) := by
  have hb1 := below_step (below_alloc w (.cells #[v] 22)) (below_alloc (w.alloc (.cells #[v] 22)) (.cells #[.int .i64 a] 3))
  have hc1 := cell_below (below_alloc (w.alloc (.cells #[v] 22)) (.cells #[.int .i64 a] 3)) (lay_one15 w w.heap.size rfl v 22)
  have hc2 := lay_one15 (w.alloc (.cells #[v] 22)) (w.heap.size + 1) (by simp) (.int .i64 a) 3
  have hmax : L.length ≤ 9223372036854775807 := by have := h.2.1; unfold maxLen at this; omega
  by_cases hin : 0 ≤ a ∧ a < b ∧ b ≤ L.length
  · obtain ⟨i, rfl⟩ : ∃ i : Nat, a = i := ⟨a.toNat, by omega⟩
    obtain ⟨d, rfl⟩ : ∃ d : Nat, b = (i : Int) + (d : Int) := ⟨(b - i).toNat, by omega⟩
    have hd : i + d ≤ L.length := by omega
    have HV : Hid (Lm.head L (i : Int) ((i : Int) + (d : Int)) = Lm.join (Lm.marks L i d)) := Lib.hid (by
      unfold Lm.head
      rw [if_pos hin]
      have e1 : ((i : Int)).toNat = i := by omega
      have e2 : ((i : Int) + (d : Int) - (i : Int)).toNat = d := by omega
      rw [e1, e2])
    rw [HV.out]
    have HG := Lib.hid (inHead_any w.heap.size (w.heap.size + 1) (Lm.marks L i d) d (Lm.marks_len L i d).symm (marks_len15 hs hmax i d) (by omega) ((w.alloc (.cells #[v] 22)).alloc (.cells #[.int .i64 (i : Int)] 3)) ((w.alloc (.cells #[v] 22)).alloc (.cells #[.int .i64 (i : Int)] 3)) (Below.refl _ _) (fun k s w1 hk hw1 => by
      have hkd : k < d := by have := (List.getElem?_eq_some_iff.1 hk).1; rw [Lm.marks_len] at this; exact this
      rw [Lm.marks_get _ _ _ _ hkd] at hk
      obtain rfl := Option.some.inj hk
      exact cloHead_any m w.heap.size (w.heap.size + 1) v L hs i k (by omega) w1 ((hE.mono hb1).mono hw1) ((h.mono hb1).mono hw1) (cell_below hw1 hc1) (cell_below hw1 hc2)))
    obtain ⟨⟨pa, cp, rfl, hcap⟩, hm, _⟩ := h
    have HB := Lib.hid hb1
    have hmf := mkf15
    obtain ⟨B, hB⟩ : ∃ B : Int, B = (i : Int) + (d : Int) := ⟨_, rfl⟩
    have i0 : (0 : Int) ≤ (i : Int) := by omega
    have i1 : (i : Int) < B := by omega
    have i2 : B ≤ (L.length : Int) := by omega
    have i3 : (d : Int) = B - (i : Int) := by omega
    rw [← hB]
    rw [i3] at HG
    generalize Lm.join (Lm.marks L i d) = q at *
    generalize L.length = n at *
    clear hb1 hc1 hc2 hm hE hcap hs hin hd hB HV i3
    go_enter Tryd.func17, Tryd.ntmps17
    go_wp2_with fail
    refine HG.out.mono ?_
    rintro e w1 ⟨rfl, hb1⟩
    have HB1 := Lib.hid (below_step HB.out hb1)
    clear hb1 HG HB
    go_wp2
    go_ret
    exact ⟨rfl, HB1.out⟩
  · rw [head_out hin]
    obtain ⟨⟨pa, cp, rfl, hcap⟩, hm, _⟩ := h
    have HB := Lib.hid hb1
    have hz : L.length ≤ 9223372036854775807 := hmax
    generalize L.length = n at *
    by_cases c1 : a < 0
    · clear hb1 hc1 hc2 hm hE hcap hs hin
      go_enter Tryd.func17, Tryd.ntmps17
      go_wp2
      go_ret
      exact ⟨rfl, HB.out⟩
    · by_cases c2 : b ≤ a
      · clear hb1 hc1 hc2 hm hE hcap hs hin
        go_enter Tryd.func17, Tryd.ntmps17
        go_wp2
        go_ret
        exact ⟨rfl, HB.out⟩
      · have c3 : (n : Int) < b := by omega
        clear hb1 hc1 hc2 hm hE hcap hs hin
        go_enter Tryd.func17, Tryd.ntmps17
        go_wp2
        go_ret
        exact ⟨rfl, HB.out⟩
end Go.Proofs.YtjjkilopeofjjaaDoor
