/-
  The landed finish and make: what hangs on the whole source.
-/
import Derived.Test.YtfjplhgajoehfaaGreatDoorQChk214
set_option linter.unusedVariables false
set_option linter.unusedSimpArgs false
namespace Go.Proofs.YtfjplhgajoehfaaGreatDoor
open Go.RowKit

theorem txt_eq (x y : List UInt8) : ((str x).toList == y) = decide (x = y) := by
  rw [Lib.toList_data, str_data]
  by_cases h : x = y
  · rw [decide_eq_true h, h]; simp
  · rw [decide_eq_false h]; exact beq_eq_false_iff_ne.2 h
theorem sides_K {E : Env14} {S : Nat → Prop} {w1 : World} {lev d : Nat} {s : El.St} {K : Nat → Prop} {y : Dyn} {w : World} (h : MkP E S w1 lev d s K y w) : SidesK (fun b => K b ∨ y.vs.ownBlock = some b) w y.vs s.sides :=
  h.rows.sides.slcK okSd (K' := fun b => K b ∨ y.vs.ownBlock = some b) (fun b hb => .inl hb) (fun b hb => .inr hb)
/-- checkRefs, as the maker stands -/
theorem refs_mk (E : Env14) (S : Nat → Prop) (w1 : World) (s : El.St) (w : World) (hmk : MK E S w1 0 0 s w) : Calls Tryz.prog 72 #[E.m] w (Out14 E S w1 0 0 (El.checkRefs s)) := by
  have hmk2 := hmk
  obtain ⟨K, y, h⟩ := hmk
  have hl := h.lab
  rw [lab_names] at hl
  refine (refs_any E.p E.bl (s.labels.map (·.name)) _ y.vs s.sides w h.c28 h.c30 hl (sides_K h)).mono ?_
  rintro e w' ⟨hb, he⟩
  unfold El.checkRefs
  cases hr : El.refSides (s.labels.map (·.name)) s.sides with
  | none =>
    rw [hr] at he
    exact ⟨he, hmk2.mono hb⟩
  | some a =>
    rw [hr] at he
    exact ⟨[], _, s, he, rfl, hmk2.mono hb⟩
set_option maxHeartbeats 8000000 in
set_option maxRecDepth 100000 in
theorem finish_any (E : Env14) (S : Nat → Prop) (w1 : World) (s : El.St) (l : List El.Nd) (v : Value) (w : World) (hl : NodesAt E.w0 (fun _ => True) v l) (hsl : s.sides.length = l.length) (hmk : MK E S w1 0 0 s w) :
    Calls Tryz.prog 43 #[E.m, v] w (Out14 E S w1 0 0 (El.finish s l)) := by
  have hmk2 := hmk
  have hF := fun w9 (hb9 : Below w.heap.size w w9) => fail_out (d := 0) (hmk.mono hb9) (fail_any 140 0 w9)
  have hG := fun a w9 (hb9 : Below w.heap.size w w9) => fail_out (d := 0) (hmk.mono hb9) (fail_any 150 a w9)
  have hR := fun w9 (hb9 : Below w.heap.size w w9) => refs_mk E S w1 s w9 (hmk.mono hb9)
  have HF := Lib.hid hF
  have HG := Lib.hid hG
  have HR := Lib.hid hR
  have hbw := hmk.below
  obtain ⟨⟨pl, cl, rfl, _⟩, hml, hq⟩ := hl
  have hml2 : l.length ≤ 9223372036854775807 := by unfold maxLen at hml; omega
  by_cases h2 : l.length = 2
  · obtain ⟨n, m, rfl⟩ : ∃ n m, l = [n, m] := by
      match l, h2 with
      | [n, m], _ => exact ⟨n, m, rfl⟩
    obtain ⟨b1, o1, d1, e9, _, r1⟩ := hq (by simp)
    obtain ⟨rfl, rfl⟩ : pl = some ⟨b1, o1, none⟩ ∧ cl = d1 := by injection e9 with a1 a2 a3; exact ⟨a1, a3⟩
    have hn := r1.at (i := 0) (n := n) rfl
    have hm := r1.at (i := 1) (n := m) rfl
    rw [ndV_eq n] at hn
    rw [ndV_eq m] at hm
    unfold NdAt at hn hm
    obtain ⟨va, _, y1, _, _, _⟩ := hn
    obtain ⟨vb, _, z1, _, z3, _⟩ := hm
    rw [Nat.zero_mul, Nat.add_zero] at y1
    rw [Nat.one_mul] at z1 z3
    have x1 := cell_below hbw y1
    have u1 := cell_below hbw z1
    have u3 := cell_below hbw z3
    by_cases hb : El.text n = El.tLeft ∧ El.text m = El.tRight
    · have t1 : ((str (El.text n)).toList == [108, 101, 102, 116]) = true := by rw [txt_eq]; exact decide_eq_true hb.1
      have t2 : ((str (El.text m)).toList == [114, 105, 103, 104, 116]) = true := by rw [txt_eq]; exact decide_eq_true hb.2
      have hfin : El.finish s [n, m] = if El.chunksOf s 0 = El.chunksOf s 1 then El.checkRefs s else .bad 150 (El.loc m) := by
        have ht : El.isTwo [n, m] = true := by
          show (decide (El.text n = El.tLeft) && decide (El.text m = El.tRight)) = true
          rw [decide_eq_true hb.1, decide_eq_true hb.2]; rfl
        unfold El.finish
        rw [ht]
        rfl
      rw [hfin]
      obtain ⟨K, y, h⟩ := hmk
      obtain ⟨rs, hrs, hE⟩ := sides_K h
      have h28 := h.c28
      have hrl : rs.length = 2 := by rw [hE.1]; exact hsl
      obtain ⟨s0, s1, hss⟩ : ∃ s0 s1, s.sides = [s0, s1] := by
        match hx : s.sides, hsl with
        | [a, b], _ => exact ⟨a, b, rfl⟩
      obtain ⟨q0, q1', hqq⟩ : ∃ a b, rs = [a, b] := by
        match rs, hrl with
        | [a, b], _ => exact ⟨a, b, rfl⟩
      subst hqq
      obtain ⟨⟨ad, cp, hvs, _⟩, _, hk⟩ := hrs.at
      obtain ⟨b2, o2, d2, e2, r2⟩ := hk (by simp)
      rw [e2] at h28
      have w0 : w.cell? ⟨b2, o2, none⟩ = some q0.c.v := r2 0 q0 rfl 0 _ rfl
      have w1' : w.cell? ⟨b2, o2 + 3, none⟩ = some q1'.c.v := r2 1 q1' rfl 0 _ rfl
      have g0 := hE.2 0 q0 s0 rfl (by rw [hss]; rfl)
      have g1 := hE.2 1 q1' s1 rfl (by rw [hss]; rfl)
      have c0 : q0.c.n = s0.chunks.length := by
        obtain ⟨cs, hc1, hc2⟩ := g0.1
        obtain ⟨⟨a', c', e, _⟩, _, _⟩ := hc1
        unfold Hd.v at e
        injection e with _ e _
        rw [e, hc2.1]
      have c1 : q1'.c.n = s1.chunks.length := by
        obtain ⟨cs, hc1, hc2⟩ := g1.1
        obtain ⟨⟨a', c', e, _⟩, _, _⟩ := hc1
        unfold Hd.v at e
        injection e with _ e _
        rw [e, hc2.1]
      have e0 : El.chunksOf s 0 = s0.chunks.length := by unfold El.chunksOf; rw [hss]; rfl
      have e1 : El.chunksOf s 1 = s1.chunks.length := by unfold El.chunksOf; rw [hss]; rfl
      rw [e0, e1]
      change w.cell? _ = some (.slice q0.c.a q0.c.n q0.c.cap) at w0
      change w.cell? _ = some (.slice q1'.c.a q1'.c.n q1'.c.cap) at w1'
      rw [c0] at w0
      rw [c1] at w1'
      generalize s0.chunks.length = l0 at *
      generalize s1.chunks.length = l1 at *
      simp only [List.length_cons, List.length_nil] at h28 ⊢
      clear hmk2 hF hG hR hbw hml hq e9 r1 y1 z1 z3 hfin h hE hrl hss hvs hk e2 r2 g0 g1 c0 c1 e0 e1 hrs hsl hb h2 hml2
      by_cases hc : l0 = l1
      · rw [if_pos hc]
        have hc' : (l0 : Int) = (l1 : Int) := by omega
        clear hc
        unfold Env14.m at *
        go_enter Tryz.func43, Tryz.ntmps43
        go_upto_region 3 with fail
        go_quiet (fail)
        clear w0 w1' x1 u1 u3 h28
        go_wp2_with fail
        refine (HR.out _ (below_drew w nq)).mono ?_
        intro e w9 ho
        obtain ⟨v9, rfl⟩ := ho.ret
        have HO := Lib.hid ho
        clear ho HR HF HG
        go_wp2
        go_ret
        exact HO.out
      · rw [if_neg hc]
        have hc' : ¬ ((l0 : Int) = (l1 : Int)) := by omega
        clear hc
        unfold Env14.m at *
        go_enter Tryz.func43, Tryz.ntmps43
        go_upto_region 3 with fail
        go_quiet (fail)
        clear w0 w1' x1 u1 h28
        go_wp2_with fail
        refine (HG.out (El.loc m) _ (below_drew w nq)).mono ?_
        intro e w9 ho
        obtain ⟨v9, rfl⟩ := ho.ret
        have HO := Lib.hid ho
        clear ho HR HF HG
        go_wp2
        go_ret
        exact HO.out
    · have hfin : El.finish s [n, m] = .bad 140 0 := by
        have ht : El.isTwo [n, m] = false := by
          show (decide (El.text n = El.tLeft) && decide (El.text m = El.tRight)) = false
          rw [← Bool.decide_and]; exact decide_eq_false hb
        unfold El.finish
        rw [ht]
        rfl
      rw [hfin]
      simp only [List.length_cons, List.length_nil]
      by_cases hb0 : El.text n = El.tLeft
      · have hb1 : El.text m ≠ El.tRight := fun h => hb ⟨hb0, h⟩
        have t1 : ((str (El.text n)).toList == [108, 101, 102, 116]) = true := by rw [txt_eq]; exact decide_eq_true hb0
        have t2 : ((str (El.text m)).toList == [114, 105, 103, 104, 116]) = false := by rw [txt_eq]; exact decide_eq_false hb1
        clear hmk hmk2 hF hG hR hbw hml hq e9 r1 y1 z1 z3 hfin hsl hb h2 hml2 u3 hb0 hb1
        unfold Env14.m
        go_enter Tryz.func43, Tryz.ntmps43
        go_wp2_with fail
        refine (HF.out _ (Below.refl _ _)).mono ?_
        intro e w9 ho
        obtain ⟨v9, rfl⟩ := ho.ret
        have HO := Lib.hid ho
        clear ho HR HF HG
        go_wp2
        go_ret
        exact HO.out
      · have t1 : ((str (El.text n)).toList == [108, 101, 102, 116]) = false := by rw [txt_eq]; exact decide_eq_false hb0
        clear hmk hmk2 hF hG hR hbw hml hq e9 r1 y1 z1 z3 hfin hsl hb h2 hml2 u3 hb0 u1
        unfold Env14.m
        go_enter Tryz.func43, Tryz.ntmps43
        go_wp2_with fail
        refine (HF.out _ (Below.refl _ _)).mono ?_
        intro e w9 ho
        obtain ⟨v9, rfl⟩ := ho.ret
        have HO := Lib.hid ho
        clear ho HR HF HG
        go_wp2
        go_ret
        exact HO.out
  · by_cases h1 : l.length = 1
    · obtain ⟨n, rfl⟩ : ∃ n, l = [n] := by
        match l, h1 with
        | [n], _ => exact ⟨n, rfl⟩
      obtain ⟨b1, o1, d1, e9, _, r1⟩ := hq (by simp)
      obtain ⟨rfl, rfl⟩ : pl = some ⟨b1, o1, none⟩ ∧ cl = d1 := by injection e9 with a1 a2 a3; exact ⟨a1, a3⟩
      have hn := r1.at (i := 0) (n := n) rfl
      rw [ndV_eq n] at hn
      unfold NdAt at hn
      obtain ⟨va, _, y1, _, _, _⟩ := hn
      rw [Nat.zero_mul, Nat.add_zero] at y1
      have x1 := cell_below hbw y1
      simp only [List.length_cons, List.length_nil]
      by_cases hb0 : El.text n = El.tText
      · have t1 : ((str (El.text n)).toList == [116, 101, 120, 116]) = true := by rw [txt_eq]; exact decide_eq_true hb0
        have hfin : El.finish s [n] = El.checkRefs s := by
          have ht : El.isOne [n] = true := decide_eq_true hb0
          show (if El.isTwo [n] = true then _ else if El.isOne [n] = true then El.checkRefs s else _) = _
          rw [ht]
          rfl
        rw [hfin]
        clear hmk hmk2 hF hG hR hbw hml hq e9 r1 y1 hfin hsl h1 h2 hml2 hb0
        unfold Env14.m at *
        go_enter Tryz.func43, Tryz.ntmps43
        go_wp2_with fail
        refine (HR.out _ (Below.refl _ _)).mono ?_
        intro e w9 ho
        obtain ⟨v9, rfl⟩ := ho.ret
        have HO := Lib.hid ho
        clear ho HR HF HG
        go_wp2
        go_ret
        exact HO.out
      · have t1 : ((str (El.text n)).toList == [116, 101, 120, 116]) = false := by rw [txt_eq]; exact decide_eq_false hb0
        have hfin : El.finish s [n] = .bad 140 0 := by
          have ht : El.isOne [n] = false := decide_eq_false hb0
          show (if El.isTwo [n] = true then _ else if El.isOne [n] = true then El.checkRefs s else _) = _
          rw [ht]
          rfl
        rw [hfin]
        clear hmk hmk2 hF hG hR hbw hml hq e9 r1 y1 hfin hsl h1 h2 hml2 hb0
        unfold Env14.m
        go_enter Tryz.func43, Tryz.ntmps43
        go_wp2_with fail
        refine (HF.out _ (Below.refl _ _)).mono ?_
        intro e w9 ho
        obtain ⟨v9, rfl⟩ := ho.ret
        have HO := Lib.hid ho
        clear ho HR HF HG
        go_wp2
        go_ret
        exact HO.out
    · have hfin : El.finish s l = .bad 140 0 := by
        unfold El.finish El.isTwo El.isOne
        match l, h1, h2 with
        | [], _, _ => rfl
        | [n], h1, _ => exact absurd rfl h1
        | [n, m], _, h2 => exact absurd rfl h2
        | _ :: _ :: _ :: _, _, _ => rfl
      rw [hfin]
      have g1 : ¬ ((l.length : Int) = 1) := by omega
      have g2 : ¬ ((l.length : Int) = 2) := by omega
      generalize l.length = ln at *
      clear hmk hmk2 hF hG hR hbw hml hq hfin hsl h1 h2
      unfold Env14.m
      go_enter Tryz.func43, Tryz.ntmps43
      go_wp2_with fail
      refine (HF.out _ (Below.refl _ _)).mono ?_
      intro e w9 ho
      obtain ⟨v9, rfl⟩ := ho.ret
      have HO := Lib.hid ho
      clear ho HR HF HG
      go_wp2
      go_ret
      exact HO.out
end Go.Proofs.YtfjplhgajoehfaaGreatDoor
