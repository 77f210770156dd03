/-
  The law FaultBack: its walk. The text of a chain whose stages' names may be is read as it; what is read has this text.
-/
import Derived.Test.YthiaeppaaahlgaaDoorLawTexts
set_option linter.unusedVariables false
set_option linter.unusedSimpArgs false
namespace Go.Proofs.YthiaeppaaahlgaaDoor
open Go.RowKit Go.Extern.Stop Go.Stop Go.Extern Go.Sort

theorem text_back (c a : Int) (hc : -9223372036854775808 ≤ c ∧ c ≤ 9223372036854775807) (ha : -9223372036854775808 ≤ a ∧ a ≤ 9223372036854775807) (ns : List ByteArray) (v : Value) (s : ByteArray) (h : Fm.chainText c a (lns ns) = s.data.toList) (w : World) (hE : Env w) (hv : StrsAt w v ns)
    (hl : s.data.toList.length ≤ 140737488355328) :
    Calls Tryd.prog 9 #[.agg #[.int .i64 c, .int .i64 a], v] w fun e w' => e = .returned (.string s) ∧ Below w.heap.size w w' := by
  have := text_at c a hc ha ns v s.data.toList h w hE hv hl
  exact this.mono fun e w' ⟨he, hb⟩ => ⟨by rw [he, show (⟨s.data.toList.toArray⟩ : ByteArray) = s from rfl], hb⟩

theorem strs_cell {w : World} {pv : Option Addr} {cv : Nat} {ns : List ByteArray} (h : StrsAt w (.slice pv ns.length cv) ns) {k : Nat} {x : ByteArray} (hx : ns[k]? = some x) : ∃ b o, pv = some ⟨b, o, none⟩ ∧ w.cell? ⟨b, o + k, none⟩ = some (.string x) := by
  have hk : 0 < ns.length := by
    rcases Nat.eq_zero_or_pos ns.length with h0 | h0
    · rw [List.eq_nil_of_length_eq_zero h0] at hx; cases hx
    · exact h0
  obtain ⟨b, o, cap, e, hc⟩ := h.2.2 hk
  injection e with e _ _
  exact ⟨b, o, e, hc k x hx⟩
theorem refName_is (s : ByteArray) (b : Bool) (h : Fm.okName s.data.toList = b) (hs : s.size ≤ 9223372036854775807) (w : World) :
    Calls Tryd.prog 12 #[.string s] w fun e w' => e = .returned (.bool b) ∧ w' = w := by
  have := name_any s hs w
  rw [h] at this
  exact this
theorem names_next {ns : List ByteArray} {k : Nat} {x : ByteArray} (H : Hid (∀ j x, j < k → ns[j]? = some x → Fm.okName x.data.toList = true)) (hx : ns[k]? = some x) (ho : Fm.okName x.data.toList = true) : Hid (∀ j x, j < k + 1 → ns[j]? = some x → Fm.okName x.data.toList = true) := by
  show ∀ j x, _ → _ → _
  intro j y hj hy
  rcases Nat.lt_or_ge j k with h | h
  · exact H.out j y h hy
  · obtain rfl : j = k := by omega
    rw [hx] at hy
    injection hy with hy
    subst hy
    exact ho
theorem names_all {ns : List ByteArray} (H : Hid (∀ j x, j < ns.length → ns[j]? = some x → Fm.okName x.data.toList = true)) : Hid (∀ n ∈ lns ns, Fm.okName n = true) := by
  show ∀ n ∈ lns ns, _
  intro n hn
  obtain ⟨x, hx, rfl⟩ := List.mem_map.1 hn
  obtain ⟨j, hj⟩ := List.getElem?_of_mem hx
  exact H.out j x (by
    rcases Nat.lt_or_ge j ns.length with h | h
    · exact h
    · rw [List.getElem?_eq_none h] at hj; cases hj) hj

set_option maxHeartbeats 8000000 in
set_option maxRecDepth 1000000 in
theorem lawBack_walk (c a : Int) (hc : -9223372036854775808 ≤ c ∧ c ≤ 9223372036854775807) (ha : -9223372036854775808 ≤ a ∧ a ≤ 9223372036854775807) (ns : List ByteArray) (pv : Option Addr) (cv : Nat) (s : ByteArray) (w : World) (hE : Env w) (hv : StrsAt w (.slice pv ns.length cv) ns) (hz : ∀ s ∈ ns, s.size ≤ maxLen)
    (hl : (Fm.chainText c a (lns ns)).length < 4294967281) (hs : s.size < 4294967281) (b : Bool) (c2 a2 : Int) (ms : List (List UInt8)) (hr : ∀ w e w', ReadPost (Fm.readText s.data.toList) w e w' → ReadB b c2 a2 ms w e w')
    (hy : b = true → Fm.readText s.data.toList = some (c2, a2, ms)) :
    Calls Tryd.prog 4 #[.agg #[.int .i64 c, .int .i64 a], .slice pv ns.length cv, .string s] w (IsPost true w) := by
  have HB0 := Lib.hid (below_alloc w (.cells #[.int .i64 c, .int .i64 a] 24))
  have HE := Lib.hid hE
  have HV := Lib.hid hv
  have HZ := Lib.hid hz
  have HL := Lib.hid hl
  have HR := Lib.hid hr
  have HY := Lib.hid hy
  have mixed := mixedB
  have hnl : ns.length ≤ 9223372036854775807 := by have := hv.2.1; unfold maxLen at this; omega
  clear hE hv hz hl hr hy
  go_enter Tryd.func4, Tryd.ntmps4
  go_wp2_with fail
  refine (read_any s hs _ (HE.out.mono HB0.out)).mono ?_
  intro e w1 hp1
  obtain ⟨v1, n1, rfl, hs1, hn1, hb1⟩ := HR.out _ _ _ hp1
  clear hp1
  have HB1 := Lib.hid (below_step HB0.out hb1)
  have HS1 := Lib.hid hs1
  have HN1 := Lib.hid hn1
  have f0 : w1.cell? ⟨w.heap.size, 0, none⟩ = some (.int .i64 c) := cell_below hb1 (by simp)
  have f1 : w1.cell? ⟨w.heap.size, 1, none⟩ = some (.int .i64 a) := cell_below hb1 (by simp)
  clear hs1 hn1 hb1
  go_wp2_with fail
  refine (fixed_any _ (HE.out.mono (below_step HB1.out (below_alloc _ _)))).mono ?_
  rintro e w2 ⟨rfl, hb2⟩
  have hb2' := below_step (below_alloc w1 (.cells #[.int .i64 c2, .int .i64 a2] 24)) hb2
  have HB2 := Lib.hid (below_step HB1.out hb2')
  have HS2 := Lib.hid (HS1.out.mono hb2')
  have f0' : w2.cell? ⟨w.heap.size, 0, none⟩ = some (.int .i64 c) := cell_below hb2' f0
  have f1' : w2.cell? ⟨w.heap.size, 1, none⟩ = some (.int .i64 a) := cell_below hb2' f1
  have g0 : w2.cell? ⟨w1.heap.size, 0, none⟩ = some (.int .i64 c2) := cell_below hb2 (by simp)
  have g1 : w2.cell? ⟨w1.heap.size, 1, none⟩ = some (.int .i64 a2) := cell_below hb2 (by simp)
  clear hb2 hb2' f0 f1
  cases b
  case' true =>
    have HX := Lib.hid (Fm.readText_some (HY.out rfl))
    go_wp2_with fail
    refine (text_back c2 a2 HX.out.2.1 ⟨by have := HX.out.2.2.1; omega, HX.out.2.2.2⟩ n1 v1 s (by rw [HN1.out]; exact HX.out.1.symm) _ (HE.out.mono HB2.out) HS2.out (by rw [← Lib.size_eq]; omega)).mono ?_
    rintro e w3 ⟨rfl, hb3⟩
    have HB3 := Lib.hid (below_step HB2.out hb3)
    have h0 : w3.cell? ⟨w.heap.size, 0, none⟩ = some (.int .i64 c) := cell_below hb3 f0'
    have h1 : w3.cell? ⟨w.heap.size, 1, none⟩ = some (.int .i64 a) := cell_below hb3 f1'
    clear hb3 f0' f1' g0 g1
    go_wp2_with fail
  case' false =>
    go_wp2_with fail
    obtain ⟨w3, hw3⟩ : ∃ x, x = w2 := ⟨_, rfl⟩
    subst hw3
    have HB3 := HB2
    have h0 := f0'
    have h1 := f1'
    clear f0' f1' g0 g1
  all_goals
    clear HB2 HS2 HR HY HS1 HN1 HB1
    go_loop [10] (fun i => ∃ k : Nat, k ≤ ns.length ∧ i = .int .i64 k ∧ Hid (∀ j x, j < k → ns[j]? = some x → Fm.okName x.data.toList = true)) (fun i => ns.length - (intOf i).toNat)
    case atStart => exact ⟨0, Nat.zero_le _, rfl, by show ∀ j x, _ → _ → _; intro j x hj; exact absurd hj (Nat.not_lt_zero _)⟩
    case round =>
      obtain ⟨k, hk, rfl, H⟩ := hrel
      by_cases hlt : k < ns.length
      · obtain ⟨x, hx⟩ : ∃ x, ns[k]? = some x := ⟨_, List.getElem?_eq_getElem hlt⟩
        obtain ⟨b0, o0, rfl, hcell⟩ := strs_cell HV.out hx
        have k0 : (0 : Int) ≤ (k : Int) := by omega
        have k1 : (k : Int) < (ns.length : Int) := by omega
        have hc3 : w3.cell? ⟨b0, o0 + k, none⟩ = some (.string x) := cell_below HB3.out hcell
        have HXZ := Lib.hid (HZ.out x (List.mem_of_getElem? hx))
        obtain ⟨ok, hok⟩ : ∃ ok, Fm.okName x.data.toList = ok := ⟨_, rfl⟩
        have HOK := Lib.hid hok
        have HXK := Lib.hid hx
        clear hok hx hcell
        go_wp2_with fail
        refine (refName_is x ok HOK.out (by have := HXZ.out; unfold maxLen at this; omega) _).mono ?_
        rintro e w4 ⟨rfl, rfl⟩
        cases ok with
        | false =>
          go_wp2_with fail
          go_ret
          exact ⟨rfl, HB3.out⟩
        | true =>
          go_wp2_with fail
          go_round
          case rel => exact ⟨k + 1, by omega, by go_num, names_next H HXK.out HOK.out⟩
          case measure => simp [intOf]; omega
      · have hkn : k = ns.length := by omega
        subst hkn
        have HN : Hid (∀ n ∈ lns ns, Fm.okName n = true) := names_all H
        by_cases hneg : a < -1
        · go_wp2_with fail
          go_ret
          exact ⟨rfl, HB3.out⟩
        · have HT : Hid (Fm.readText (Fm.chainText c a (lns ns)) = some (c, a, lns ns)) := Fm.readText_text hc ha.2 (by omega) _ HN.out
          go_wp2_with fail
          refine (text_at c a hc ha ns _ _ rfl _ (HE.out.mono HB3.out) (HV.out.mono HB3.out) (by have := HL.out; omega)).mono ?_
          rintro e w5 ⟨rfl, hb5⟩
          have HB5 := Lib.hid (below_step HB3.out hb5)
          have i0 : w5.cell? ⟨w.heap.size, 0, none⟩ = some (.int .i64 c) := cell_below hb5 h0
          have i1 : w5.cell? ⟨w.heap.size, 1, none⟩ = some (.int .i64 a) := cell_below hb5 h1
          clear hb5 h0 h1
          obtain ⟨tx, htx⟩ : ∃ tx : ByteArray, tx = ⟨(Fm.chainText c a (lns ns)).toArray⟩ := ⟨_, rfl⟩
          rw [← htx]
          have HTX : Hid (tx.data.toList = Fm.chainText c a (lns ns)) := by show _ = _; rw [htx]
          have HTS : Hid (tx.size < 4294967281) := by show _ < _; rw [Lib.size_eq, HTX.out]; exact HL.out
          clear htx
          go_wp2_with fail
          refine (read_yes tx c a (lns ns) (by rw [HTX.out]; exact HT.out) HTS.out _ (HE.out.mono HB5.out)).mono ?_
          rintro e w6 ⟨v6, n6, rfl, hs6, hn6, hb6⟩
          have HB6 := Lib.hid (below_step HB5.out hb6)
          have HS6 := Lib.hid hs6
          have HN6 := Lib.hid hn6
          have j0 := cell_alloc (cell_below hb6 i0) (.cells #[.int .i64 c, .int .i64 a] 24)
          have j1 := cell_alloc (cell_below hb6 i1) (.cells #[.int .i64 c, .int .i64 a] 24)
          clear hs6 hn6 hb6 i0 i1
          have hq := eqFlt c a c a
          go_wp2_with fail
          have hdec : decide (lns n6 = lns ns) = true := decide_eq_true HN6.out
          refine (texts_at _ _ n6 ns true hdec _ (HS6.out.mono (below_alloc _ _)) (HV.out.mono (below_step HB6.out (below_alloc _ _)))).mono ?_
          rintro e w7 ⟨rfl, nd, rfl⟩
          go_wp2_with fail
          go_ret
          exact ⟨by simp, below_drewN (below_step HB6.out (below_alloc _ _)) nd⟩

/-- THE LAW, AT EVERY CHAIN WHOSE TEXT, AND EVERY TEXT, IS OF FEWER THAN 4294967281 BYTES. -/
theorem lawBack_any (c a : Int) (hc : -9223372036854775808 ≤ c ∧ c ≤ 9223372036854775807) (ha : -9223372036854775808 ≤ a ∧ a ≤ 9223372036854775807) (ns : List ByteArray) (v : Value) (s : ByteArray) (w : World) (hE : Env w) (hv : StrsAt w v ns) (hz : ∀ s ∈ ns, s.size ≤ maxLen)
    (hl : (Fm.chainText c a (lns ns)).length < 4294967281) (hs : s.size < 4294967281) :
    Calls Tryd.prog 4 #[.agg #[.int .i64 c, .int .i64 a], v, .string s] w (IsPost true w) := by
  obtain ⟨pv, cv, rfl⟩ := hv.1
  obtain ⟨b, c2, a2, ms, h, hy, _⟩ := readB_of (l := s.data.toList)
  exact lawBack_walk c a hc ha ns pv cv s w hE hv hz hl hs b c2 a2 ms h hy
end Go.Proofs.YthiaeppaaahlgaaDoor
