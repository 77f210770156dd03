/-
  Where items may be broken: the landed Legal, and the reference's; forced breaks, and where lines may begin.
-/
import Derived.Test.YthcilpijiindeaaDe10
import Derived.Test.YthcilpijiindeaaApp9
set_option linter.unusedVariables false
set_option linter.unusedSimpArgs false
namespace Go.Proofs.Ythcilpijiindeaa
open Go.RowKit

theorem legal_neg {l : List It.Itm} {b : Int} (h : b < 0) : It.legal l b = false := by
  unfold It.legal
  rw [decide_eq_false (by omega), Bool.false_and]
theorem legal_far {l : List It.Itm} {b : Int} (h : (l.length : Int) ≤ b) : It.legal l b = false := by
  unfold It.legal It.legalN
  rw [List.getElem?_eq_none (by omega)]
  simp
theorem legal_at {l : List It.Itm} {k : Nat} {x : It.Itm} (h : l[k]? = some x) : It.legal l (k : Int) = if x.k = 2 then decide (x.p < 10000) else decide (x.k = 1) && decide (0 < k) && decide ((l[k - 1]?).map (·.k) = some 0) := by
  unfold It.legal It.legalN
  rw [Int.toNat_natCast, h, decide_eq_true (by omega), Bool.true_and]

set_option maxHeartbeats 1000000 in
set_option maxRecDepth 100000 in
theorem isIndex_any (v : Value) (l : List It.Itm) (i : Int) (q : Bool) (hq : decide (0 ≤ i ∧ i < (l.length : Int)) = q) (w : World) (h : ItsAt w v l) : Calls Try.prog 53 #[v, .int .i64 i] w (Is (.bool q) w) := by
  obtain ⟨⟨a, cp, rfl, hcap⟩, hm, _⟩ := h
  have hza : l.length ≤ 9223372036854775807 := by unfold maxLen at hm; omega
  generalize l.length = n at hq hza
  clear hm hcap
  by_cases h0 : i < 0
  · have HE : Hid (q = false) := Lib.hid (by rw [← hq]; exact decide_eq_false (by omega))
    clear hq
    go_enter Try.func53, Try.ntmps53
    go_wp2
    go_ret
    rw [HE.out]
    exact ⟨rfl, rfl⟩
  · have h0' : 0 ≤ i := by omega
    have HE : Hid (q = decide (i < (n : Int))) := Lib.hid (by rw [← hq]; simp [h0'])
    clear hq h0
    go_enter Try.func53, Try.ntmps53
    go_wp2
    go_ret
    rw [HE.out]
    exact ⟨rfl, rfl⟩

set_option maxHeartbeats 2000000 in
set_option maxRecDepth 100000 in
theorem legal_any (v : Value) (l : List It.Itm) (b : Int) (w : World) (h : ItsAt w v l) : Calls Try.prog 63 #[v, .int .i64 b] w (Is (.bool (It.legal l b)) w) := by
  have HA := Lib.hid h
  obtain ⟨q, hq⟩ : ∃ q, q = It.legal l b := ⟨_, rfl⟩
  have HQ := Lib.hid hq
  rw [← hq]
  clear hq
  have HX := Lib.hid (fun q hq => isIndex_any v l b q hq w h)
  obtain ⟨⟨a, cp, rfl, hcap⟩, hm, _⟩ := h
  have hza : l.length ≤ 9223372036854775807 := by unfold maxLen at hm; omega
  by_cases hin : 0 ≤ b ∧ b < (l.length : Int)
  · obtain ⟨k, rfl⟩ : ∃ k : Nat, b = (k : Int) := ⟨b.toNat, by omega⟩
    have hlt : k < l.length := by omega
    obtain ⟨x, hx⟩ : ∃ x, l[k]? = some x := ⟨_, List.getElem?_eq_getElem hlt⟩
    have HL := Lib.hid (legal_at hx)
    obtain ⟨b1, o1, d1, e1, r1⟩ := HA.out.2.2 (by omega)
    obtain ⟨rfl, rfl⟩ : a = some ⟨b1, o1, none⟩ ∧ cp = d1 := by injection e1 with a1 a2 a3; exact ⟨a1, a3⟩
    obtain ⟨y0, y1, y2, y3, y4, y5, y6, y7, y8⟩ := it_cells (r1 k x hx)
    have HX2 := Lib.hid (HX.out true (decide_eq_true hin))
    have k0 : (0 : Int) ≤ (k : Int) := by omega
    obtain ⟨n, hn⟩ : ∃ n, n = l.length := ⟨_, rfl⟩
    have kl : (k : Int) < (n : Int) := by omega
    have Hr1 := Lib.hid r1
    rw [← hn] at HX2 hza ⊢
    clear hcap hm HX hin e1 r1 hx
    by_cases h2 : x.k = 2
    · have HE : Hid (q = decide (x.p < 10000)) := Lib.hid (by rw [HQ.out, HL.out, if_pos h2])
      rw [h2] at y0
      clear hlt hn
      go_enter Try.func63, Try.ntmps63
      go_wp2_with fail
      refine HX2.out.mono ?_
      rintro e w1 ⟨rfl, rfl⟩
      go_wp2
      go_ret
      rw [HE.out]
      exact ⟨rfl, rfl⟩
    · by_cases h1 : x.k = 1
      · rw [h1] at y0
        cases k with
        | zero =>
          rw [Nat.zero_mul, Nat.add_zero] at y0
          have HE : Hid (q = false) := Lib.hid (by rw [HQ.out, HL.out, if_neg h2]; simp)
          clear hlt hn
          go_enter Try.func63, Try.ntmps63
          go_wp2_with fail
          refine HX2.out.mono ?_
          rintro e w1 ⟨rfl, rfl⟩
          go_wp2
          go_ret
          rw [HE.out]
          exact ⟨rfl, rfl⟩
        | succ j =>
          obtain ⟨y, hy⟩ : ∃ y, l[j]? = some y := ⟨_, List.getElem?_eq_getElem (by omega)⟩
          obtain ⟨z0, z1, z2, z3, z4, z5, z6, z7, z8⟩ := it_cells (Hr1.out j y hy)
          have HE : Hid (q = decide (y.k = 0)) := Lib.hid (by rw [HQ.out, HL.out, if_neg h2, h1, Nat.add_sub_cancel, hy]; simp)
          have j0 : (0 : Int) ≤ (j : Int) := by omega
          have jl : (j : Int) < (n : Int) := by omega
          have jp : (0 : Int) < (j : Int) + 1 := by omega
          clear hlt hn hy y1 y2 y3 y4 y5 y6 y7 y8 z1 z2 z3 z4 z5 z6 z7 z8
          go_enter Try.func63, Try.ntmps63
          go_wp2_with fail
          refine HX2.out.mono ?_
          rintro e w1 ⟨rfl, rfl⟩
          go_wp2
          go_ret
          rw [HE.out]
          exact ⟨rfl, rfl⟩
      · have HE : Hid (q = false) := Lib.hid (by rw [HQ.out, HL.out, if_neg h2, decide_eq_false h1]; simp)
        clear hlt hn
        go_enter Try.func63, Try.ntmps63
        go_wp2_with fail
        refine HX2.out.mono ?_
        rintro e w1 ⟨rfl, rfl⟩
        go_wp2
        go_ret
        rw [HE.out]
        exact ⟨rfl, rfl⟩
  · have HX2 := Lib.hid (HX.out false (decide_eq_false hin))
    have HE : Hid (q = false) := Lib.hid (by
      rw [HQ.out]
      by_cases h0 : b < 0
      · exact legal_neg h0
      · exact legal_far (by omega))
    generalize l.length = n at HX2 hza
    clear hin hcap hm
    go_enter Try.func63, Try.ntmps63
    go_wp2_with fail
    refine HX2.out.mono ?_
    rintro e w1 ⟨rfl, rfl⟩
    go_wp2
    go_ret
    rw [HE.out]
    exact ⟨rfl, rfl⟩

set_option maxHeartbeats 2000000 in
set_option maxRecDepth 100000 in
theorem refLegal_any (v : Value) (l : List It.Itm) (b : Int) (w : World) (h : ItsAt w v l) : Calls Try.prog 33 #[v, .int .i64 b] w (Is (.bool (It.legal l b)) w) := by
  have HA := Lib.hid h
  obtain ⟨q, hq⟩ : ∃ q, q = It.legal l b := ⟨_, rfl⟩
  have HQ := Lib.hid hq
  rw [← hq]
  clear hq
  obtain ⟨⟨a, cp, rfl, hcap⟩, hm, _⟩ := h
  have hza : l.length ≤ 9223372036854775807 := by unfold maxLen at hm; omega
  by_cases hb0 : b < 0
  · have HE : Hid (q = false) := Lib.hid (by rw [HQ.out]; exact legal_neg hb0)
    generalize l.length = n at hza
    clear hcap hm
    go_enter Try.func33, Try.ntmps33
    go_wp2
    go_ret
    rw [HE.out]
    exact ⟨rfl, rfl⟩
  · by_cases hin : (l.length : Int) ≤ b
    · have HE : Hid (q = false) := Lib.hid (by rw [HQ.out]; exact legal_far hin)
      have hb0' : 0 ≤ b := by omega
      generalize l.length = n at hza hin
      clear hcap hm
      go_enter Try.func33, Try.ntmps33
      go_wp2
      go_ret
      rw [HE.out]
      exact ⟨rfl, rfl⟩
    · obtain ⟨k, rfl⟩ : ∃ k : Nat, b = (k : Int) := ⟨b.toNat, by omega⟩
      have hlt : k < l.length := by omega
      obtain ⟨x, hx⟩ : ∃ x, l[k]? = some x := ⟨_, List.getElem?_eq_getElem hlt⟩
      have HL := Lib.hid (legal_at hx)
      obtain ⟨b1, o1, d1, e1, r1⟩ := HA.out.2.2 (by omega)
      obtain ⟨rfl, rfl⟩ : a = some ⟨b1, o1, none⟩ ∧ cp = d1 := by injection e1 with a1 a2 a3; exact ⟨a1, a3⟩
      obtain ⟨y0, y1, y2, y3, y4, y5, y6, y7, y8⟩ := it_cells (r1 k x hx)
      have k0 : (0 : Int) ≤ (k : Int) := by omega
      obtain ⟨n, hn⟩ : ∃ n, n = l.length := ⟨_, rfl⟩
      have kl : (k : Int) < (n : Int) := by omega
      have Hr1 := Lib.hid r1
      rw [← hn] at hza ⊢
      clear hcap hm hin e1 r1 hx hb0
      by_cases h2 : x.k = 2
      · have HE : Hid (q = decide (x.p < 10000)) := Lib.hid (by rw [HQ.out, HL.out, if_pos h2])
        rw [h2] at y0
        clear hlt hn
        go_enter Try.func33, Try.ntmps33
        go_wp2
        go_ret
        rw [HE.out]
        exact ⟨rfl, rfl⟩
      · by_cases h1 : x.k = 1
        · rw [h1] at y0
          cases k with
          | zero =>
            rw [Nat.zero_mul, Nat.add_zero] at y0
            have HE : Hid (q = false) := Lib.hid (by rw [HQ.out, HL.out, if_neg h2]; simp)
            clear hlt hn
            go_enter Try.func33, Try.ntmps33
            go_wp2
            go_ret
            rw [HE.out]
            exact ⟨rfl, rfl⟩
          | succ j =>
            obtain ⟨y, hy⟩ : ∃ y, l[j]? = some y := ⟨_, List.getElem?_eq_getElem (by omega)⟩
            obtain ⟨z0, z1, z2, z3, z4, z5, z6, z7, z8⟩ := it_cells (Hr1.out j y hy)
            have HE : Hid (q = decide (y.k = 0)) := Lib.hid (by rw [HQ.out, HL.out, if_neg h2, h1, Nat.add_sub_cancel, hy]; simp)
            have j0 : (0 : Int) ≤ (j : Int) := by omega
            have jl : (j : Int) < (n : Int) := by omega
            have jp : (0 : Int) < (j : Int) + 1 := by omega
            clear hlt hn hy y1 y2 y3 y4 y5 y6 y7 y8 z1 z2 z3 z4 z5 z6 z7 z8
            go_enter Try.func33, Try.ntmps33
            go_wp2
            go_ret
            rw [HE.out]
            exact ⟨rfl, rfl⟩
        · have HE : Hid (q = false) := Lib.hid (by rw [HQ.out, HL.out, if_neg h2, decide_eq_false h1]; simp)
          clear hlt hn
          go_enter Try.func33, Try.ntmps33
          go_wp2
          go_ret
          rw [HE.out]
          exact ⟨rfl, rfl⟩
end Go.Proofs.Ythcilpijiindeaa
