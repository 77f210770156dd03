/-
  The law LinenoSkips.
-/
import Derived.Test.YtffjboddnjbepaaLawMar16
set_option linter.unusedVariables false
set_option linter.unusedSimpArgs false
namespace Go.Proofs.Ytffjboddnjbepaa
open Go.RowKit

theorem OwnR.base16 {α : Type} {T : TypeId} {f : α → List Value} {k B B' : Nat} {v : Value} {l : List α} {w : World} (h : OwnR T f k B v l w) (hB : B' ≤ B) : OwnR T f k B' v l w := by
  refine ⟨h.1, ?_⟩
  rcases h.2 with h2 | ⟨g, cap, cur, rfl, hb, hr⟩
  · exact .inl h2
  · exact .inr ⟨g, cap, cur, rfl, by omega, hr⟩
theorem own_apart16 {α β : Type} {T T' : TypeId} {f : α → List Value} {f' : β → List Value} {k k' B B' : Nat} {v v' : Value} {l : List α} {l' : List β} {w : World} (h1 : OwnR T f k B v l w) (h2 : OwnR T' f' k' B' v' l' w) (hT : T ≠ T') : v.ownBlock = none ∨ v.ownBlock ≠ v'.ownBlock := by
  rcases h1.2 with ⟨rfl, _⟩ | ⟨g, cap, cur, rfl, _, hg, _⟩
  · exact .inl rfl
  · exact .inr (own_off9 h2 hg hT)
namespace Ln
theorem kept_len (l : List Rw) : (kept l).length ≤ l.length := List.length_filter_le _ _
theorem pick_len : ∀ (l : List Rw) (xs : List (Int × Int)), (pick l xs).length ≤ l.length
  | [], xs => by cases xs <;> simp [pick]
  | r :: l, [] => by simp [pick]
  | r :: l, x :: xs => by
    have := pick_len l xs
    unfold pick
    split <;> simp only [List.length_cons] <;> omega
theorem take_add16 {α : Type} {l : List α} {k : Nat} {x : α} (h : l[k]? = some x) : l.take (k + 1) = l.take k ++ [x] := by rw [List.take_add_one, h]; rfl
end Ln
set_option maxHeartbeats 8000000 in
set_option maxRecDepth 100000 in
theorem lawSkips (v : Value) (l : List Ln.Rw) (u : Int) (w : World) (h : RwsAt w v l) (hb : l.length * 40 ≤ 140737488355328) : Calls Try.prog 6 #[v, .int .i64 u] w fun e w' => e = .returned (.bool true) ∧ Below w.heap.size w w' := by
  have HF := Lib.hid fixed16_any
  have HNum := Lib.hid (number_any v l u w h (by omega))
  have HKn := Lib.hid (fun v' w' (h : RwsAt w' v' (Ln.kept l)) => number_any v' (Ln.kept l) u w' h (by have := Ln.kept_len l; omega))
  have HR := Lib.hid h
  obtain ⟨a, cp, rfl, hm, _⟩ := slc_open h
  obtain ⟨N, hN⟩ : ∃ N, N = Ln.number u l := ⟨_, rfl⟩
  have HNe := Lib.hid hN
  have hNl : N.length = l.length := by rw [hN]; exact Ln.goN_len u l _ _
  have HNl := Lib.hid hNl
  rw [← hN] at HNum
  obtain ⟨n, hn⟩ : ∃ n, n = l.length := ⟨_, rfl⟩
  have Hn := Lib.hid hn
  rw [← hn] at hb hm HNl HNum ⊢
  have hz : n ≤ 9223372036854775807 := by unfold maxLen at hm; omega
  have Hm := Lib.hid hm
  have Hb := Lib.hid hb
  clear h hN hNl hn hm hb
  go_enter Try.func6, Try.ntmps6
  go_wp2_with fail
  refine HNum.out.mono ?_
  rintro e w1 ⟨v1, rfl, hv1, hb1⟩
  have HB1 := Lib.hid hb1
  have HV1 := Lib.hid hv1
  clear hb1 hv1
  obtain ⟨a1, cp1, rfl, hm1, _⟩ := slc_open HV1.out
  rw [HNl.out] at hm1 HV1 ⊢
  go_wp2_with fail
  refine (HF.out _).mono ?_
  rintro e w2 ⟨rfl, hb2⟩
  have HB2 := Lib.hid (below_step HB1.out hb2)
  have HA := Lib.hid (SlcAt.mono HR.out HB2.out)
  have HV := Lib.hid (SlcAt.mono HV1.out hb2)
  clear hb2
  obtain ⟨w3, hw3⟩ : ∃ W, W = w2.alloc (.cells #[] 29) := ⟨_, rfl⟩
  have hO3 := own_empty 29 rwC 7 w2
  have hb3 := below_alloc w2 (.cells #[] 29)
  have hs3 : w3.heap.size = w2.heap.size + 1 := by rw [hw3]; exact World.size_alloc _ _
  rw [← hw3] at hO3 hb3
  obtain ⟨w4, hw4⟩ : ∃ W, W = w3.alloc (.cells #[] 31) := ⟨_, rfl⟩
  have hO4 := own_empty 31 nmC 2 w3
  have hb4 := below_alloc w3 (.cells #[] 31)
  rw [← hw4] at hO4 hb4
  rw [hs3] at hO4
  have HO0 : Hid (OwnW w2.heap.size (.slice (some ⟨w2.heap.size, 0, none⟩) 0 0) (Ln.kept (l.take 0)) w4) := Lib.hid (hO3.mono hb4)
  have HQ0 : Hid (OwnN w2.heap.size (.slice (some ⟨w2.heap.size + 1, 0, none⟩) 0 0) (Ln.pick (l.take 0) (N.take 0)) w4) := Lib.hid (hO4.base16 (by omega))
  have HW0 := Lib.hid (below_step hb3 hb4)
  have HU0 : Hid (∀ (q : Ln.Rw), l[0]? = some q → ∀ r ∈ l.take 0, Ln.unit u r = Ln.unit u q) := Lib.hid (fun q _ r hr => by simp at hr)
  clear hO3 hb3 hO4 hb4 hs3
  go_wp2_with fail
  rw [← hw3, ← hw4]
  clear hw3 hw4
  go_loopw [6, 7, 8] (fun kv qv iv wr => ∃ k : Nat, k ≤ n ∧ iv = .int .i64 k ∧ Hid (OwnW w2.heap.size kv (Ln.kept (l.take k)) wr) ∧ Hid (OwnN w2.heap.size qv (Ln.pick (l.take k) (N.take k)) wr) ∧ Hid (∀ (q : Ln.Rw), l[0]? = some q → ∀ r ∈ l.take k, Ln.unit u r = Ln.unit u q) ∧ Hid (Below w2.heap.size w2 wr)) (fun _ _ iv _ => n - (intOf iv).toNat)
  case atStart => exact ⟨0, Nat.zero_le _, rfl, HO0, HQ0, HU0, HW0⟩
  case round =>
    obtain ⟨k, hk, rfl, HO, HQ, HU, HW⟩ := hrel
    clear HO0 HQ0 HU0 HW0
    by_cases hlt : k < n
    · obtain ⟨b1, o1, d1, e1, r1⟩ := HA.out.2.2 (by rw [← Hn.out]; omega)
      rw [← Hn.out] at e1
      obtain ⟨rfl, rfl⟩ : a = some ⟨b1, o1, none⟩ ∧ cp = d1 := by injection e1 with a1 a2 a3; exact ⟨a1, a3⟩
      obtain ⟨b9, o9, d9, e9, r9⟩ := HV.out.2.2 (by rw [HNl.out]; omega)
      rw [HNl.out] at e9
      obtain ⟨rfl, rfl⟩ : a1 = some ⟨b9, o9, none⟩ ∧ cp1 = d9 := by injection e9 with a1 a2 a3; exact ⟨a1, a3⟩
      obtain ⟨r, hr⟩ : ∃ r, l[k]? = some r := ⟨_, List.getElem?_eq_getElem (by rw [← Hn.out]; exact hlt)⟩
      obtain ⟨q, hq⟩ : ∃ r, l[0]? = some r := ⟨_, List.getElem?_eq_getElem (by rw [← Hn.out]; omega)⟩
      obtain ⟨⟨x, y⟩, hx⟩ : ∃ x, N[k]? = some x := ⟨_, List.getElem?_eq_getElem (by rw [HNl.out]; exact hlt)⟩
      have HZr := Lib.hid (r1 k r hr)
      have HZq : Hid (RecAt w2 b1 o1 (rwC q)) := Lib.hid (by have := r1 0 q hq; rwa [Nat.zero_mul, Nat.add_zero] at this)
      have HZx := Lib.hid (r9 k _ hx)
      have Hr := Lib.hid hr
      have Hq := Lib.hid hq
      have Hx := Lib.hid hx
      have k0 : (0 : Int) ≤ (k : Int) := by omega
      have kl : (k : Int) < (n : Int) := by omega
      have n0 : (0 : Int) < (n : Int) := by omega
      have n00 : 0 < n := by omega
      have HBd := Lib.hid (below_step HW.out (below_drew16 wr))
      have HOd := Lib.hid (HO.out.mono (below_drew16 wr))
      have HQd := Lib.hid (HQ.out.mono (below_drew16 wr))
      have HU1 := Lib.hid (fun w => unit_any r u w)
      have HU2 := Lib.hid (fun w => unit_any q u w)
      obtain ⟨⟨ua, ub, uc⟩, hU⟩ : ∃ x, x = Ln.unit u r := ⟨_, rfl⟩
      obtain ⟨⟨va, vb, vc⟩, hV⟩ : ∃ x, x = Ln.unit u q := ⟨_, rfl⟩
      rw [← hU] at HU1
      rw [← hV] at HU2
      unfold rwV unV at HU1 HU2
      simp only [] at HU1 HU2
      have HUr := Lib.hid hU
      have HUq := Lib.hid hV
      clear hU hV hr hq hx e1 r1 e9 r9
      obtain ⟨y0, y1, y2, y3, y4, y5, y6⟩ := rw_cells (HZr.out.mono HW.out)
      obtain ⟨z0, z1, z2, z3, z4, z5, z6⟩ := rw_cells (HZq.out.mono HW.out)
      by_cases hne : (ua, ub, uc) = (va, vb, vc)
      · have heq : ∀ w, (binOp .neq 26 (.agg #[.int .i64 ua, .int .i64 ub, .int .i64 uc]) (.agg #[.int .i64 va, .int .i64 vb, .int .i64 vc])).run Try.prog w = .ok (.bool false) w := fun w => by
          rw [run_neq_struct, eq_unit]
          have e : decide ((ua, ub, uc) = (va, vb, vc)) = true := by rw [decide_eq_true_iff]; exact hne
          rw [e]; rfl
        have HUn : Hid (∀ (q : Ln.Rw), l[0]? = some q → ∀ r ∈ l.take (k + 1), Ln.unit u r = Ln.unit u q) := Lib.hid (fun q' hq' r' hr' => by
          rw [Ln.take_add16 Hr.out] at hr'
          rcases List.mem_append.1 hr' with h | h
          · exact HU.out q' hq' r' h
          · rw [List.mem_singleton.1 h]
            rw [Hq.out] at hq'
            cases hq'
            rw [← HUr.out, ← HUq.out, hne])
        have HKs := Lib.hid (Ln.kept_snoc (l.take k) r)
        have HPs := Lib.hid (Ln.pick_snoc (l.take k) (N.take k) r (x, y) (by rw [List.length_take, List.length_take, HNl.out, ← Hn.out]))
        rw [← Ln.take_add16 Hr.out] at HKs HPs
        rw [← Ln.take_add16 Hx.out] at HPs
        clear hne
        cases hsk : r.sk with
        | true =>
          rw [hsk] at HU1 HKs HPs
          go_upto_region 9 with fail
          go_region_held3 (fun w' => w'.cell? ⟨b1, o1 + k * 7, none⟩ = some (.int .i64 r.pg) ∧ w'.cell? ⟨b1, o1 + k * 7 + 1, none⟩ = some (.int .i64 r.ch) ∧ w'.cell? ⟨b1, o1 + k * 7 + 2, none⟩ = some (.int .i64 r.pa) ∧ w'.cell? ⟨b1, o1 + k * 7 + 3, none⟩ = some (.int .i64 r.st) ∧ w'.cell? ⟨b1, o1 + k * 7 + 4, none⟩ = some (.bool r.sb) ∧ w'.cell? ⟨b1, o1 + k * 7 + 5, none⟩ = some (.bool r.sk) ∧ w'.cell? ⟨b1, o1 + k * 7 + 6, none⟩ = some (.bool r.lk) ∧ w'.cell? ⟨b1, o1, none⟩ = some (.int .i64 q.pg) ∧ w'.cell? ⟨b1, o1 + 1, none⟩ = some (.int .i64 q.ch) ∧ w'.cell? ⟨b1, o1 + 2, none⟩ = some (.int .i64 q.pa) ∧ w'.cell? ⟨b1, o1 + 3, none⟩ = some (.int .i64 q.st) ∧ w'.cell? ⟨b1, o1 + 4, none⟩ = some (.bool q.sb) ∧ w'.cell? ⟨b1, o1 + 5, none⟩ = some (.bool q.sk) ∧ w'.cell? ⟨b1, o1 + 6, none⟩ = some (.bool q.lk)) (first | (have hz := rw_cells (HZr.out.mono HB5.out); have hz2 := rw_cells (HZq.out.mono HB5.out); exact ⟨hz.1, hz.2.1, hz.2.2.1, hz.2.2.2.1, hz.2.2.2.2.1, hz.2.2.2.2.2.1, hz.2.2.2.2.2.2, hz2.1, hz2.2.1, hz2.2.2.1, hz2.2.2.2.1, hz2.2.2.2.2.1, hz2.2.2.2.2.2.1, hz2.2.2.2.2.2.2⟩) | (have hz := rw_cells (HZr.out.mono HB4.out); have hz2 := rw_cells (HZq.out.mono HB4.out); exact ⟨hz.1, hz.2.1, hz.2.2.1, hz.2.2.2.1, hz.2.2.2.2.1, hz.2.2.2.2.2.1, hz.2.2.2.2.2.2, hz2.1, hz2.2.1, hz2.2.2.1, hz2.2.2.2.1, hz2.2.2.2.2.1, hz2.2.2.2.2.2.1, hz2.2.2.2.2.2.2⟩) | (have hz := rw_cells (HZr.out.mono HBd.out); have hz2 := rw_cells (HZq.out.mono HBd.out); exact ⟨hz.1, hz.2.1, hz.2.2.1, hz.2.2.2.1, hz.2.2.2.2.1, hz.2.2.2.2.2.1, hz.2.2.2.2.2.2, hz2.1, hz2.2.1, hz2.2.2.1, hz2.2.2.2.1, hz2.2.2.2.2.1, hz2.2.2.2.2.2.1, hz2.2.2.2.2.2.2⟩) | go_keep) (first | ((with_reducible refine (HU2.out _).mono ?_); rintro e w5 ⟨rfl, hb5⟩; have HB5 := Lib.hid (below_step HB4.out hb5); have HC5 := Lib.hid (below_step HC4.out hb5); clear hb5) | ((with_reducible refine (HU1.out _).mono ?_); rintro e w4 ⟨rfl, hb4⟩; have HB4 := Lib.hid (below_step HBd.out hb4); have HC4 := Lib.hid hb4; clear hb4))
          have HOn := Lib.hid (HOd.out.mono HC5.out)
          have HQn := Lib.hid (HQd.out.mono HC5.out)
          obtain ⟨p0, p1, p2, p3, p4, p5, p6⟩ := rw_cells (HZr.out.mono HB5.out)
          go_wp2_with fail
          go_roundw
          case rel => exact ⟨k + 1, by omega, by go_num, Lib.hid (by rw [HKs.out, if_pos trivial, List.append_nil]; exact HOn.out), Lib.hid (by rw [HPs.out, if_pos trivial, List.append_nil]; exact HQn.out), HUn, HB5⟩
          case measure => simp [intOf]; omega
        | false =>
          rw [hsk] at HU1 HKs HPs
          go_upto_region 9 with fail
          go_region_held3 (fun w' => w'.cell? ⟨b1, o1 + k * 7, none⟩ = some (.int .i64 r.pg) ∧ w'.cell? ⟨b1, o1 + k * 7 + 1, none⟩ = some (.int .i64 r.ch) ∧ w'.cell? ⟨b1, o1 + k * 7 + 2, none⟩ = some (.int .i64 r.pa) ∧ w'.cell? ⟨b1, o1 + k * 7 + 3, none⟩ = some (.int .i64 r.st) ∧ w'.cell? ⟨b1, o1 + k * 7 + 4, none⟩ = some (.bool r.sb) ∧ w'.cell? ⟨b1, o1 + k * 7 + 5, none⟩ = some (.bool r.sk) ∧ w'.cell? ⟨b1, o1 + k * 7 + 6, none⟩ = some (.bool r.lk) ∧ w'.cell? ⟨b1, o1, none⟩ = some (.int .i64 q.pg) ∧ w'.cell? ⟨b1, o1 + 1, none⟩ = some (.int .i64 q.ch) ∧ w'.cell? ⟨b1, o1 + 2, none⟩ = some (.int .i64 q.pa) ∧ w'.cell? ⟨b1, o1 + 3, none⟩ = some (.int .i64 q.st) ∧ w'.cell? ⟨b1, o1 + 4, none⟩ = some (.bool q.sb) ∧ w'.cell? ⟨b1, o1 + 5, none⟩ = some (.bool q.sk) ∧ w'.cell? ⟨b1, o1 + 6, none⟩ = some (.bool q.lk)) (first | (have hz := rw_cells (HZr.out.mono HB5.out); have hz2 := rw_cells (HZq.out.mono HB5.out); exact ⟨hz.1, hz.2.1, hz.2.2.1, hz.2.2.2.1, hz.2.2.2.2.1, hz.2.2.2.2.2.1, hz.2.2.2.2.2.2, hz2.1, hz2.2.1, hz2.2.2.1, hz2.2.2.2.1, hz2.2.2.2.2.1, hz2.2.2.2.2.2.1, hz2.2.2.2.2.2.2⟩) | (have hz := rw_cells (HZr.out.mono HB4.out); have hz2 := rw_cells (HZq.out.mono HB4.out); exact ⟨hz.1, hz.2.1, hz.2.2.1, hz.2.2.2.1, hz.2.2.2.2.1, hz.2.2.2.2.2.1, hz.2.2.2.2.2.2, hz2.1, hz2.2.1, hz2.2.2.1, hz2.2.2.2.1, hz2.2.2.2.2.1, hz2.2.2.2.2.2.1, hz2.2.2.2.2.2.2⟩) | (have hz := rw_cells (HZr.out.mono HBd.out); have hz2 := rw_cells (HZq.out.mono HBd.out); exact ⟨hz.1, hz.2.1, hz.2.2.1, hz.2.2.2.1, hz.2.2.2.2.1, hz.2.2.2.2.2.1, hz.2.2.2.2.2.2, hz2.1, hz2.2.1, hz2.2.2.1, hz2.2.2.2.1, hz2.2.2.2.2.1, hz2.2.2.2.2.2.1, hz2.2.2.2.2.2.2⟩) | go_keep) (first | ((with_reducible refine (HU2.out _).mono ?_); rintro e w5 ⟨rfl, hb5⟩; have HB5 := Lib.hid (below_step HB4.out hb5); have HC5 := Lib.hid (below_step HC4.out hb5); clear hb5) | ((with_reducible refine (HU1.out _).mono ?_); rintro e w4 ⟨rfl, hb4⟩; have HB4 := Lib.hid (below_step HBd.out hb4); have HC4 := Lib.hid hb4; clear hb4))
          have HO5 := Lib.hid (HOd.out.mono HC5.out)
          have HQ5 := Lib.hid (HQd.out.mono HC5.out)
          obtain ⟨p0, p1, p2, p3, p4, p5, p6⟩ := rw_cells (HZr.out.mono HB5.out)
          rw [hsk] at p5
          have hkl := Ln.kept_len (l.take k)
          have hpl := Ln.pick_len (l.take k) (N.take k)
          rw [List.length_take] at hkl hpl
          have HKl : Hid ((Ln.kept (l.take k)).length ≤ k) := Lib.hid (by omega)
          have HPl : Hid ((Ln.pick (l.take k) (N.take k)).length ≤ k) := Lib.hid (by omega)
          have hba := below_alloc w5 (.cells #[.int .i64 r.pg, .int .i64 r.ch, .int .i64 r.pa, .int .i64 r.st, .bool r.sb, .bool false, .bool r.lk] 29)
          have HO6 := Lib.hid (HO5.out.mono hba)
          have HQ6 := Lib.hid (HQ5.out.mono hba)
          have HB6 := Lib.hid (below_step HB5.out hba)
          have HS6 := Lib.hid (slc_new rwC_len w5 w5.heap.size rfl [r] 29 (by simp) #[.int .i64 r.pg, .int .i64 r.ch, .int .i64 r.pa, .int .i64 r.st, .bool r.sb, .bool false, .bool r.lk] (by simp [rwC, hsk]))
          have hz6 := HB6.out.size
          clear hkl hpl hba
          go_wp2_with (first
            | (at_builtin; refine wpList_append_slc Try.underlying23 infoNm rfl (by decide) nmC_len nmC_cell rfl _ _ rfl w2.heap.size _ _ (Ln.pick (l.take k) (N.take k)) [(x, y)] rfl HQ8.out rfl HS8.out (by have := HPl.out; have := Hb.out; simp only [List.length_singleton]; omega) (by have := HPl.out; have := Hm.out; simp only [List.length_singleton]; omega) hz8 ?_; intro v9 w9 h9 hg9; have HQ9 := Lib.hid h9; have HO9 := Lib.hid (HO8.out.grown hg9 (own_apart16 HO8.out HQ8.out (by decide))); have HB9 := Lib.hid (below_app HB8.out hg9 HQ8.out hz8); clear h9 hg9)
            | (at_builtin; refine wpList_append_slc Try.underlying22 infoRw rfl (by decide) rwC_len rwC_cell rfl _ _ rfl w2.heap.size _ _ (Ln.kept (l.take k)) [r] rfl HO6.out rfl HS6.out (by have := HKl.out; have := Hb.out; simp only [List.length_singleton]; omega) (by have := HKl.out; have := Hm.out; simp only [List.length_singleton]; omega) hz6 ?_; intro v7 w7 h7 hg7; have HO7 := Lib.hid h7; have HQ7 := Lib.hid (HQ6.out.grown hg7 (own_apart16 HQ6.out HO6.out (by decide))); have HB7 := Lib.hid (below_app HB6.out hg7 HO6.out hz6); obtain ⟨x0, x1⟩ := nm_cells (HZx.out.mono HB7.out); have hb8 := below_alloc w7 (.cells #[.int .i64 x, .int .i64 y] 31); have HO8 := Lib.hid (HO7.out.mono hb8); have HQ8 := Lib.hid (HQ7.out.mono hb8); have HB8 := Lib.hid (below_step HB7.out hb8); have HS8 := Lib.hid (slc_new nmC_len w7 w7.heap.size rfl [(x, y)] 31 (by simp) #[.int .i64 x, .int .i64 y] rfl); have hz8 := HB8.out.size; clear h7 hg7 hb8))
          go_roundw
          case rel => exact ⟨k + 1, by omega, by go_num, Lib.hid (by rw [HKs.out, if_neg (by decide)]; exact HO9.out), Lib.hid (by rw [HPs.out, if_neg (by decide)]; exact HQ9.out), HUn, HB9⟩
          case measure => simp [intOf]; omega
      · have heq : ∀ w, (binOp .neq 26 (.agg #[.int .i64 ua, .int .i64 ub, .int .i64 uc]) (.agg #[.int .i64 va, .int .i64 vb, .int .i64 vc])).run Try.prog w = .ok (.bool true) w := fun w => by
          rw [run_neq_struct, eq_unit]
          have e : decide ((ua, ub, uc) = (va, vb, vc)) = false := by rw [decide_eq_false_iff_not]; exact hne
          rw [e]; rfl
        clear hne
        go_upto_region 9 with fail
        go_region_held3 (fun w' => w'.cell? ⟨b1, o1 + k * 7, none⟩ = some (.int .i64 r.pg) ∧ w'.cell? ⟨b1, o1 + k * 7 + 1, none⟩ = some (.int .i64 r.ch) ∧ w'.cell? ⟨b1, o1 + k * 7 + 2, none⟩ = some (.int .i64 r.pa) ∧ w'.cell? ⟨b1, o1 + k * 7 + 3, none⟩ = some (.int .i64 r.st) ∧ w'.cell? ⟨b1, o1 + k * 7 + 4, none⟩ = some (.bool r.sb) ∧ w'.cell? ⟨b1, o1 + k * 7 + 5, none⟩ = some (.bool r.sk) ∧ w'.cell? ⟨b1, o1 + k * 7 + 6, none⟩ = some (.bool r.lk) ∧ w'.cell? ⟨b1, o1, none⟩ = some (.int .i64 q.pg) ∧ w'.cell? ⟨b1, o1 + 1, none⟩ = some (.int .i64 q.ch) ∧ w'.cell? ⟨b1, o1 + 2, none⟩ = some (.int .i64 q.pa) ∧ w'.cell? ⟨b1, o1 + 3, none⟩ = some (.int .i64 q.st) ∧ w'.cell? ⟨b1, o1 + 4, none⟩ = some (.bool q.sb) ∧ w'.cell? ⟨b1, o1 + 5, none⟩ = some (.bool q.sk) ∧ w'.cell? ⟨b1, o1 + 6, none⟩ = some (.bool q.lk)) (first | (have hz := rw_cells (HZr.out.mono HB5.out); have hz2 := rw_cells (HZq.out.mono HB5.out); exact ⟨hz.1, hz.2.1, hz.2.2.1, hz.2.2.2.1, hz.2.2.2.2.1, hz.2.2.2.2.2.1, hz.2.2.2.2.2.2, hz2.1, hz2.2.1, hz2.2.2.1, hz2.2.2.2.1, hz2.2.2.2.2.1, hz2.2.2.2.2.2.1, hz2.2.2.2.2.2.2⟩) | (have hz := rw_cells (HZr.out.mono HB4.out); have hz2 := rw_cells (HZq.out.mono HB4.out); exact ⟨hz.1, hz.2.1, hz.2.2.1, hz.2.2.2.1, hz.2.2.2.2.1, hz.2.2.2.2.2.1, hz.2.2.2.2.2.2, hz2.1, hz2.2.1, hz2.2.2.1, hz2.2.2.2.1, hz2.2.2.2.2.1, hz2.2.2.2.2.2.1, hz2.2.2.2.2.2.2⟩) | (have hz := rw_cells (HZr.out.mono HBd.out); have hz2 := rw_cells (HZq.out.mono HBd.out); exact ⟨hz.1, hz.2.1, hz.2.2.1, hz.2.2.2.1, hz.2.2.2.2.1, hz.2.2.2.2.2.1, hz.2.2.2.2.2.2, hz2.1, hz2.2.1, hz2.2.2.1, hz2.2.2.2.1, hz2.2.2.2.2.1, hz2.2.2.2.2.2.1, hz2.2.2.2.2.2.2⟩) | go_keep) (first | ((with_reducible refine (HU2.out _).mono ?_); rintro e w5 ⟨rfl, hb5⟩; have HB5 := Lib.hid (below_step HB4.out hb5); have HC5 := Lib.hid (below_step HC4.out hb5); clear hb5) | ((with_reducible refine (HU1.out _).mono ?_); rintro e w4 ⟨rfl, hb4⟩; have HB4 := Lib.hid (below_step HBd.out hb4); have HC4 := Lib.hid hb4; clear hb4))
        go_wp2_with fail
        go_ret
        exact ⟨rfl, below_step HB2.out HB5.out⟩
    · obtain rfl : k = n := by omega
      have HT : Hid (l.take k = l) := Lib.hid (List.take_of_length_le (by rw [← Hn.out]; omega))
      have HTN : Hid (N.take k = N) := Lib.hid (List.take_of_length_le (by rw [HNl.out]; omega))
      rw [HT.out, HTN.out] at HQ
      rw [HT.out] at HO HU
      have HOa := Lib.hid (HO.out.at rwC_len)
      have HE : Hid (decide (Ln.number u (Ln.kept l) = Ln.pick l N) = true) := Lib.hid (by
        rw [decide_eq_true_iff, HNe.out]
        cases hl : l with
        | nil => rfl
        | cons r0 ls => 
          rw [← hl]
          exact Ln.number_kept u l (Ln.unit u r0) (HU.out r0 (by rw [hl]; rfl)))
      go_wp2_with fail
      refine (HKn.out _ _ HOa.out).mono ?_
      rintro e w5 ⟨v5, rfl, h5, hb5⟩
      have HB5 := Lib.hid (below_step HW.out hb5)
      have HNs := Lib.hid (refNums_any _ _ _ _ _ h5 (SlcAt.mono (HQ.out.at nmC_len) hb5))
      rw [HE.out] at HNs
      clear h5 hb5
      go_wp2_with fail
      refine HNs.out.mono ?_
      rintro e w6 ⟨rfl, hb6⟩
      have HB6 := Lib.hid (below_step HB5.out hb6)
      clear hb6
      go_wp2
      go_ret
      exact ⟨rfl, below_step HB2.out HB6.out⟩
end Go.Proofs.Ytffjboddnjbepaa
