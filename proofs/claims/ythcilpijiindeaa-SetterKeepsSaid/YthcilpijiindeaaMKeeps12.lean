/-
  PROVED: the law SetterKeeps at every argument: each box of the items stands in one line, once, in order, whatever the breaks are, as they may be; boxes of a line do not lie on one another; and lines follow one another.
-/
import Derived.Test.YthcilpijiindeaaFixedM12
import Derived.Test.YthcilpijiindeaaRefLines12
import Derived.Test.YthcilpijiindeaaIn10
import Derived.Test.YthcilpijiindeaaFrame10
set_option linter.unusedVariables false
set_option linter.unusedSimpArgs false
namespace Go.Proofs.Ythcilpijiindeaa
open Go.RowKit

namespace It
theorem goL_bad (l : List Itm) (t : Int) : ∀ (bs : List Int) (a : Int) (k : Nat) (ls : List Lin), (goL l t a k ls bs).2.1 ≠ 0 → (goL l t a k ls bs).1 = []
  | [], a, k, ls, h => by
    unfold goL at h ⊢
    split
    · rfl
    · rename_i hc; rw [if_neg hc] at h; exact absurd rfl h
  | b :: r, a, k, ls, h => by
    unfold goL at h ⊢
    cases e : linV l a b t with
    | none => rfl
    | some x =>
      rw [e] at h
      exact goL_bad l t r b (k + 1) _ h
theorem setR_bad {l : List Itm} {bs : List Int} {t : Int} (h : (setR l bs t).2.1 ≠ 0) : (setR l bs t).1 = [] := by
  unfold setR at h ⊢
  split
  · rfl
  · rename_i hc
    rw [if_neg hc] at h
    exact goL_bad l t bs _ _ _ h
end It
theorem words_keys {l : List It.Itm} {bs : List Int} {t : Int} (h : (It.setR l bs t).2.1 = 0) : (wordsL (It.setR l bs t).1).map It.keyP = (It.boxes l).map It.keyI := by
  obtain ⟨R, hR⟩ : ∃ R, R = It.setR l bs t := ⟨_, rfl⟩
  rw [← hR] at h ⊢
  obtain ⟨m, c, z⟩ := R
  simp only [] at h ⊢
  subst h
  exact It.keys_all hR.symm
theorem words_bound {l : List It.Itm} {bs : List Int} {t : Int} : (wordsL (It.setR l bs t).1).length ≤ l.length := by
  by_cases h : (It.setR l bs t).2.1 = 0
  · have := congrArg List.length (words_keys h)
    rw [List.length_map, List.length_map] at this
    rw [this]
    exact List.length_filter_le ..
  · rw [It.setR_bad h]
    simp [wordsL]
set_option maxHeartbeats 8000000 in
set_option maxRecDepth 100000 in
theorem lawLines (v u : Value) (l : List It.Itm) (bs : List Int) (t : Int) (w : World) (hI : ItsAt w v l) (hN : NumsAt w u bs) : Calls Try.prog 3 #[v, u, .int .i64 t] w (Ret (.bool true) w) := by
  have HF := Lib.hid (fun w => fixed12 w)
  have HA := Lib.hid hI
  have HN := Lib.hid hN
  have HL1 := Lib.hid (fun w (hb : bs.length ≤ 100000) h g => lines_any v u l bs t w h g hb)
  have HL2 := Lib.hid (fun w (hb : bs.length ≤ 100000) h g => refLines_any v u l bs t w h g hb)
  have HWb := Lib.hid (words_bound (l := l) (bs := bs) (t := t))
  obtain ⟨⟨p, cp, rfl, hcap⟩, hm, _⟩ := hI
  obtain ⟨⟨pb, cb, rfl, hcapb⟩, hmb, _⟩ := hN
  have hzl : l.length ≤ 9223372036854775807 := by unfold maxLen at hm; omega
  have hzb : bs.length ≤ 9223372036854775807 := by unfold maxLen at hmb; omega
  obtain ⟨n, hn⟩ : ∃ n, n = l.length := ⟨_, rfl⟩
  obtain ⟨nb, hnb⟩ : ∃ n, n = bs.length := ⟨_, rfl⟩
  have B0 := Lib.hid (Below.refl w.heap.size w)
  rw [← hn] at HA HL1 HL2 HWb hzl ⊢
  rw [← hnb] at HN HL1 HL2 hzb ⊢
  clear hn hnb hcap hm hcapb hmb
  by_cases h1 : 300 < n
  · have h1' : (300 : Int) < (n : Int) := by omega
    go_enter Try.func3, Try.ntmps3
    go_wp2_with fail
    refine (HF.out _).mono ?_
    rintro e w1 ⟨rfl, b1⟩
    go_wp2
    go_ret
    exact ⟨rfl, b1⟩
  · have h1' : ¬ (300 : Int) < (n : Int) := by omega
    by_cases h2 : 100 < nb
    · have h2' : (100 : Int) < (nb : Int) := by omega
      go_enter Try.func3, Try.ntmps3
      go_wp2_with fail
      refine (HF.out _).mono ?_
      rintro e w1 ⟨rfl, b1⟩
      go_wp2
      go_ret
      exact ⟨rfl, b1⟩
    · have h2' : ¬ (100 : Int) < (nb : Int) := by omega
      have H1 := Lib.hid (fun w h g => HL1.out w (by omega) h g)
      have H2 := Lib.hid (fun w h g => HL2.out w (by omega) h g)
      have HW2 : Hid ((wordsL (It.setR l bs t).1).length ≤ 100000) := Lib.hid (by have := HWb.out; omega)
      unfold LinesPost at H1 H2
      generalize It.setR l bs t = R at H1 H2 HW2
      obtain ⟨ls, c, z⟩ := R
      simp only [] at H1 H2 HW2
      have hEq := fun w => eq_fl c z c z w
      simp only [and_self, decide_true] at hEq
      clear HL1 HL2 HWb
      go_enter Try.func3, Try.ntmps3
      go_wp2_with fail
      refine (H1.out _ HA.out HN.out).mono ?_
      rintro e w1 ⟨x1, rfl, l1, b1⟩
      have hbA := below_step b1 (below_alloc w1 (.cells #[.int .i64 c, .int .i64 z] 28))
      have X1 := Lib.hid (obj_new w1 _ rfl #[.int .i64 c, .int .i64 z] 28)
      have L1 := Lib.hid (LinsAt.mono l1 (below_alloc w1 (.cells #[.int .i64 c, .int .i64 z] 28)))
      obtain ⟨WA, hWA⟩ : ∃ WA, WA = w1.alloc (.cells #[.int .i64 c, .int .i64 z] 28) := ⟨_, rfl⟩
      obtain ⟨P, hP⟩ : ∃ P, P = w1.heap.size := ⟨_, rfl⟩
      rw [← hWA] at hbA X1 L1
      rw [← hP] at X1
      have BA := Lib.hid hbA
      clear hbA l1 b1
      go_upto_region 4 with fail
      rw [← hWA, ← hP]
      clear hWA hP
      go_wp2_with fail
      refine (H2.out _ (SlcAt.mono HA.out BA.out) (SlcAt.mono HN.out BA.out)).mono ?_
      rintro e w2 ⟨x2, rfl, l2, b2⟩
      have hbB := below_step b2 (below_alloc w2 (.cells #[.int .i64 c, .int .i64 z] 28))
      have Y1 := Lib.hid (obj_new w2 _ rfl #[.int .i64 c, .int .i64 z] 28)
      have M1 := Lib.hid (LinsAt.mono l2 (below_alloc w2 (.cells #[.int .i64 c, .int .i64 z] 28)))
      obtain ⟨WB, hWB⟩ : ∃ WB, WB = w2.alloc (.cells #[.int .i64 c, .int .i64 z] 28) := ⟨_, rfl⟩
      obtain ⟨Q, hQ⟩ : ∃ Q, Q = w2.heap.size := ⟨_, rfl⟩
      rw [← hWB] at hbB Y1 M1
      rw [← hQ] at Y1
      have X2 := Lib.hid (obj_kept hbB X1.out)
      have L2 := Lib.hid (LinsAt.mono L1.out hbB)
      have BB := Lib.hid (below_step BA.out hbB)
      clear hbB l2 b2
      go_upto_region 5 with fail
      rw [← hWB, ← hQ]
      clear hWB hQ
      go_wp2_with fail
      refine (HF.out _).mono ?_
      rintro e w3 ⟨rfl, b3⟩
      have X3 := Lib.hid (obj_kept b3 X2.out)
      have Y3 := Lib.hid (obj_kept b3 Y1.out)
      have L3 := Lib.hid (LinsAt.mono L2.out b3)
      have M3 := Lib.hid (LinsAt.mono M1.out b3)
      have B3 := Lib.hid (below_step BB.out b3)
      clear b3
      have HS := Lib.hid (sameL_any x1 x2 ls ls w3 L3.out M3.out)
      rw [decide_eq_true rfl] at HS
      go_wp2_with fail
      refine HS.out.mono ?_
      rintro e w4 ⟨rfl, b4⟩
      have X4 := Lib.hid (obj_kept b4 X3.out)
      have Y4 := Lib.hid (obj_kept b4 Y3.out)
      have L4 := Lib.hid (LinsAt.mono L3.out b4)
      have M4 := Lib.hid (LinsAt.mono M3.out b4)
      have B4 := Lib.hid (below_step B3.out b4)
      clear b4
      have q0 : w4.cell? ⟨P, 0, none⟩ = some (.int .i64 c) := Lib.cell_of_heap X4.out 0
      have q1 : w4.cell? ⟨P, 1, none⟩ = some (.int .i64 z) := Lib.cell_of_heap X4.out 1
      have r0 : w4.cell? ⟨Q, 0, none⟩ = some (.int .i64 c) := Lib.cell_of_heap Y4.out 0
      have r1 : w4.cell? ⟨Q, 1, none⟩ = some (.int .i64 z) := Lib.cell_of_heap Y4.out 1
      go_wp2_with fail
      refine (words_any x1 ls w4 L4.out HW2.out).mono ?_
      rintro e w5 ⟨u5, rfl, o5, b5⟩
      have O5 := Lib.hid (OwnR.at o5 pcC_len)
      have M5 := Lib.hid (LinsAt.mono M4.out b5)
      have B5 := Lib.hid (below_step B4.out b5)
      clear b5 o5
      go_wp2_with fail
      refine (refWords_any x2 ls w5 M5.out HW2.out).mono ?_
      rintro e w6 ⟨u6, rfl, o6, b6⟩
      have O6 := Lib.hid (OwnR.at o6 pcC_len)
      have O5b := Lib.hid (SlcAt.mono O5.out b6)
      have B6 := Lib.hid (below_step B5.out b6)
      clear b6 o6
      have HPl := Lib.hid (placed_any u5 u6 (wordsL ls) (wordsL ls) w6 O5b.out O6.out)
      rw [decide_eq_true rfl] at HPl
      go_wp2_with fail
      refine HPl.out.mono ?_
      rintro e w7 ⟨rfl, b7⟩
      go_wp2
      go_ret
      exact ⟨rfl, below_step B6.out b7⟩
end Go.Proofs.Ythcilpijiindeaa
namespace Go.Proofs.Ythcilpijiindeaa
open Go.RowKit

namespace It
theorem apart_in : ∀ {bs : List Plc} {e x : Int}, apart e bs x → (∀ p ∈ bs, 0 ≤ p.w) → e ≤ x ∧ ∀ p ∈ bs, e ≤ p.x ∧ p.x + p.w ≤ x
  | [], e, x, h, _ => ⟨h, fun p hp => by simp at hp⟩
  | p :: r, e, x, h, hw => by
    obtain ⟨h1, h2⟩ := apart_in h.2 (fun q hq => hw q (List.mem_cons_of_mem _ hq))
    have h3 := hw p List.mem_cons_self
    have h4 := h.1
    refine ⟨by omega, fun q hq => ?_⟩
    rcases List.mem_cons.1 hq with rfl | hq
    · exact ⟨h4, h1⟩
    · have := h2 q hq
      omega
theorem bs_wK {l : List Itm} {a b t : Int} {x : Lin} (hm : may l = true) (h : linV l a b t = some x) : ∀ p ∈ x.bs, 0 ≤ p.w := by
  obtain ⟨s, h1, _, rfl⟩ := linV_some h
  intro p hp
  have hk := linS_keys l a b s
  have h2 : keyP p ∈ ((boxes (lits l a b)).map keyI) := by rw [← hk]; exact List.mem_map_of_mem hp
  obtain ⟨i, hi, he⟩ := List.mem_map.1 h2
  unfold boxes at hi
  obtain ⟨hi1, hi2⟩ := List.mem_filter.1 hi
  have hr := List.all_eq_true.1 (lits_right (a := a) (b := b) (may_yes hm).2.1) i hi1
  have hw := (right_box hr (of_decide_eq_true hi2)).1
  unfold keyI keyP at he
  simp only [Prod.mk.injEq] at he
  rw [← he.2.2]
  exact hw
theorem endAt_zero (bs : List Plc) : endAt bs 0 = 0 := rfl
theorem endAt_next {bs : List Plc} {k : Nat} {p : Plc} (h : bs[k]? = some p) : endAt bs (k + 1) = p.x + p.w := by
  unfold endAt
  rw [take_snoc h]
  simp
theorem endAt_le {bs : List Plc} {x : Int} (h : apart 0 bs x) {k : Nat} {p : Plc} (hp : bs[k]? = some p) : endAt bs k ≤ p.x := apart_at h hp
theorem endAt_end {bs : List Plc} {x : Int} (h : apart 0 bs x) : endAt bs bs.length ≤ x := by
  unfold endAt
  rw [List.take_length]
  exact apart_end h
/-- what is told of each line -/
structure LineFacts (bs : List Int) (ls : List Lin) (k : Nat) (x : Lin) : Prop where
  en : bs[k]? = some x.en
  fr : x.fr ≤ x.en
  ap : apart 0 x.bs x.x
  bd : 0 ≤ x.x ∧ x.x ≤ 3000000000 ∧ ∀ p ∈ x.bs, 0 ≤ p.x ∧ 0 ≤ p.w ∧ p.x + p.w ≤ x.x
  be : ∀ j y, k = j + 1 → ls[j]? = some y → y.en < x.fr
theorem line_facts {l : List Itm} {bs : List Int} {t z : Int} {ls : List Lin} (h : setR l bs t = (ls, 0, z)) {k : Nat} {x : Lin} (hx : ls[k]? = some x) : LineFacts bs ls k x := by
  obtain ⟨hm, _, hc, _, _⟩ := setR_some h
  obtain ⟨b, hb, hv⟩ := hc.at hx
  obtain ⟨h1, h2, h3, h4, h5, h6, h7, h8, _⟩ := line_ok hm hv
  obtain ⟨h9, h10⟩ := apart_in h1 (bs_wK hm hv)
  refine ⟨by rw [h2]; exact hb, by rw [h2]; exact h3, h1, ⟨h9, h8, fun p hp => ⟨(h10 p hp).1, bs_wK hm hv p hp, (h10 p hp).2⟩⟩, fun j y hj hy => ?_⟩
  subst hj
  obtain ⟨c, hc1, hv1⟩ := hc.at hy
  have e1 := (line_ok hm hv1).2.1
  have hp : prev (-1) bs (j + 1) = c := by
    unfold prev
    rw [if_neg (by omega), Nat.add_sub_cancel, List.getD_eq_getElem?_getD, hc1]
    rfl
  rw [hp] at h4
  rw [e1]
  exact h4
end It
theorem take_g12 {P : Program} {md : Region.Mode} {ops : Array Oper} {Q : Exit → Act → World → Prop} {S : World → Prop} {i : Nat} {d : Tmp} {op : Op} {ty : TypeId} {v : Value} {g : Option (Nat × Bool)} {fuel : Nat} {listed : Array Bool} {a : Act} {w : World}
    (hi : (ops[i]?).map (fun o => (o.dst, o.op, o.type)) = some (some d, op, ty)) (hg : (ops[i]?).map (fun o => o.guard) = some g)
    (hw : Region.wanted { dst := some d, op := op, type := ty, pos := "", after := #[], guard := g } (yielded ops a.tmps) = true)
    (hs : Region.noSelect ops = true) (hf : Region.free md ops listed i = true) (hr : (Region.ready md ops listed).contains i = true)
    (hQ : ∀ c a w, Q (.panic c) (a.put (some d) v) w → Q (.panic c) a w)
    (hy : ∀ w, S w → (execOp a.eval { dst := some d, op := op, type := ty, pos := "", after := #[], guard := none }).run P w = .ok (.value v) w) (hS : S w)
    (h : wpAnyH P md ops Q S fuel (listed.setIfInBounds i true) (a.put (some d) v) w) : wpAnyH P md ops Q S (fuel + 1) listed a w := by
  cases ho : ops[i]? with
  | none => rw [ho] at hi; cases hi
  | some o =>
    rw [ho] at hi hg
    obtain ⟨dst, op', ty', pos, aft, gd⟩ := o
    simp only [Option.map_some, Option.some.injEq, Prod.mk.injEq] at hi hg
    obtain ⟨rfl, rfl, rfl⟩ := hi
    subst hg
    exact wpAnyH_take ho hs hf hr hQ (.inl ⟨hw, hy⟩) hS h
/-- an operation that is not wanted -/
theorem skip_g12 {P : Program} {md : Region.Mode} {ops : Array Oper} {Q : Exit → Act → World → Prop} {S : World → Prop} {i : Nat} {d : Tmp} {g : Nat × Bool} {fuel : Nat} {listed : Array Bool} {a : Act} {w : World}
    (hi : (ops[i]?).map (fun o => o.dst) = some (some d)) (hg : (ops[i]?).map (fun o => o.guard) = some (some g))
    (hw : Region.wanted { dst := some d, op := .move (.tmp 0), type := 0, pos := "", after := #[], guard := some g } (yielded ops a.tmps) = false)
    (hs : Region.noSelect ops = true) (hf : Region.free md ops listed i = true) (hr : (Region.ready md ops listed).contains i = true)
    (hQ : ∀ c a w, Q (.panic c) (a.put (some d) undef) w → Q (.panic c) a w) (hS : S w)
    (h : wpAnyH P md ops Q S fuel (listed.setIfInBounds i true) (a.put (some d) undef) w) : wpAnyH P md ops Q S (fuel + 1) listed a w := by
  cases ho : ops[i]? with
  | none => rw [ho] at hi; cases hi
  | some o =>
    rw [ho] at hi hg
    obtain ⟨dst, op', ty', pos, aft, gd⟩ := o
    simp only [Option.map_some, Option.some.injEq] at hi hg
    subst hi
    subst hg
    exact wpAnyH_take ho hs hf hr hQ (.inr ⟨hw, rfl⟩) hS h
theorem wAdd12 {a b x : Int} (h0 : 0 ≤ a) (h1 : 0 ≤ b) (h2 : a + b ≤ x) (h3 : x ≤ 3000000000) : wrap64 (a + b) = a + b := w64 (by omega) (by omega)
theorem wAdd12' {a b x : Int} (h0 : 0 ≤ a) (h1 : 0 ≤ b) (h2 : a + b ≤ x) (h3 : x ≤ 3000000000) : IntKind.i64.wrap (a + b) = a + b := It.wr_in (by omega) (by omega)
theorem wSub12 {k j n : Nat} (hj : k = j + 1) (h : k < n) (hn : n ≤ 100) : wrap64 ((k : Int) - 1) = (j : Int) := by rw [show (k : Int) - 1 = (j : Int) by omega]; exact w64 (by omega) (by omega)
theorem wSub12' {k j n : Nat} (hj : k = j + 1) (h : k < n) (hn : n ≤ 100) : IntKind.i64.wrap ((k : Int) - 1) = (j : Int) := by rw [show (k : Int) - 1 = (j : Int) by omega]; exact It.wr_in (by omega) (by omega)
theorem map_at12 {α β γ : Type} {f : α → γ} {g : β → γ} {a : List α} {b : List β} (h : a.map f = b.map g) {k : Nat} {x : α} {y : β} (hx : a[k]? = some x) (hy : b[k]? = some y) : f x = g y := by
  have h1 : (a.map f)[k]? = some (f x) := by rw [List.getElem?_map, hx]; rfl
  rw [h, List.getElem?_map, hy] at h1
  exact (Option.some.inj h1).symm
set_option maxHeartbeats 16000000 in
set_option maxRecDepth 100000 in
theorem lawKeeps (v u : Value) (l : List It.Itm) (bs : List Int) (t : Int) (w : World) (hI : ItsAt w v l) (hN : NumsAt w u bs) : Calls Try.prog 4 #[v, u, .int .i64 t] w (Ret (.bool true) w) := by
  have HF := Lib.hid (fun w => fixed12 w)
  have HA := Lib.hid hI
  have HN := Lib.hid hN
  have HL1 := Lib.hid (fun w (hb : bs.length ≤ 100000) h g => lines_any v u l bs t w h g hb)
  have HWb := Lib.hid (words_bound (l := l) (bs := bs) (t := t))
  have HKy := Lib.hid (words_keys (l := l) (bs := bs) (t := t))
  have HBd := Lib.hid (It.setR_bad (l := l) (bs := bs) (t := t))
  have HLf := Lib.hid (fun ls z h k x hx => It.line_facts (l := l) (bs := bs) (t := t) (z := z) (ls := ls) h (k := k) (x := x) hx)
  have HLn := Lib.hid (fun ls z (h : It.setR l bs t = (ls, 0, z)) => (It.setR_some h).2.2.1.len)
  have HBx := Lib.hid (fun w (hb : l.length * 72 ≤ 140737488355328) h => refBoxes_any v l w h hb)
  obtain ⟨⟨p, cp, rfl, hcap⟩, hm, _⟩ := hI
  obtain ⟨⟨pb, cb, rfl, hcapb⟩, hmb, _⟩ := hN
  have hzl : l.length ≤ 9223372036854775807 := by unfold maxLen at hm; omega
  have hzb : bs.length ≤ 9223372036854775807 := by unfold maxLen at hmb; omega
  obtain ⟨n, hn⟩ : ∃ n, n = l.length := ⟨_, rfl⟩
  obtain ⟨nb, hnb⟩ : ∃ n, n = bs.length := ⟨_, rfl⟩
  have Hnb := Lib.hid hnb
  rw [← hn] at HA HL1 HWb HBx hzl ⊢
  rw [← hnb] at HN HL1 HLn hzb ⊢
  clear hn hnb hcap hm hcapb hmb
  by_cases h1 : 300 < n
  · have h1' : (300 : Int) < (n : Int) := by omega
    go_enter Try.func4, Try.ntmps4
    go_wp2_with fail
    refine (HF.out _).mono ?_
    rintro e w1 ⟨rfl, b1⟩
    go_wp2_with fail
    refine (HF.out _).mono ?_
    rintro e w2 ⟨rfl, b2⟩
    go_wp2
    go_ret
    exact ⟨rfl, below_step b1 b2⟩
  · have h1' : ¬ (300 : Int) < (n : Int) := by omega
    by_cases h2 : 100 < nb
    · have h2' : (100 : Int) < (nb : Int) := by omega
      go_enter Try.func4, Try.ntmps4
      go_wp2_with fail
      refine (HF.out _).mono ?_
      rintro e w1 ⟨rfl, b1⟩
      go_wp2_with fail
      refine (HF.out _).mono ?_
      rintro e w2 ⟨rfl, b2⟩
      go_wp2
      go_ret
      exact ⟨rfl, below_step b1 b2⟩
    · have h2' : ¬ (100 : Int) < (nb : Int) := by omega
      have H1 := Lib.hid (fun w h g => HL1.out w (by omega) h g)
      have HX := Lib.hid (fun w h => HBx.out w (by omega) h)
      have HW2 : Hid ((wordsL (It.setR l bs t).1).length ≤ 100000) := Lib.hid (by have := HWb.out; omega)
      have HNB : Hid (nb ≤ 100) := Lib.hid (by omega)
      unfold LinesPost at H1
      generalize It.setR l bs t = R at H1 HW2 HKy HBd HLf HLn
      obtain ⟨ls, c, z⟩ := R
      simp only [] at H1 HW2 HKy HBd
      clear HL1 HBx HWb
      go_enter Try.func4, Try.ntmps4
      go_wp2_with fail
      refine (HF.out _).mono ?_
      rintro e w1 ⟨rfl, b1⟩
      have B1 := Lib.hid b1
      clear b1
      go_wp2_with fail
      refine (H1.out _ (SlcAt.mono HA.out B1.out) (SlcAt.mono HN.out B1.out)).mono ?_
      rintro e w2 ⟨u2, rfl, l2, b2⟩
      have hbB := below_step b2 (below_alloc w2 (.cells #[.int .i64 c, .int .i64 z] 28))
      have X2 := Lib.hid (obj_new w2 _ rfl #[.int .i64 c, .int .i64 z] 28)
      have L2 := Lib.hid (LinsAt.mono l2 (below_alloc w2 (.cells #[.int .i64 c, .int .i64 z] 28)))
      obtain ⟨WB, hWB⟩ : ∃ WB, WB = w2.alloc (.cells #[.int .i64 c, .int .i64 z] 28) := ⟨_, rfl⟩
      obtain ⟨P, hP⟩ : ∃ P, P = w2.heap.size := ⟨_, rfl⟩
      rw [← hWB] at hbB X2 L2
      rw [← hP] at X2
      have BB := Lib.hid (below_step B1.out hbB)
      clear hbB l2 b2
      go_upto_region 4 with fail
      rw [← hWB, ← hP]
      clear hWB hP
      have c0 : WB.cell? ⟨P, 0, none⟩ = some (.int .i64 c) := Lib.cell_of_heap X2.out 0
      obtain ⟨av, cv, rfl, hml, hpart⟩ := lins_parts L2.out
      by_cases hc : c = 0
      · subst hc
        have hll := HLn.out ls z rfl
        have hke := HKy.out rfl
        rw [hll] at hml ⊢
        have HPt := Lib.hid hpart
        have HKe := Lib.hid hke
        have hlk := congrArg List.length hke
        rw [List.length_map, List.length_map] at hlk
        clear hml hpart hke
        go_wp2_with fail
        refine (HX.out _ (SlcAt.mono HA.out BB.out)).mono ?_
        rintro e w3 ⟨u6, rfl, o6, b3⟩
        have B3 := Lib.hid b3
        have O6 := Lib.hid (OwnR.at o6 itC_len)
        clear o6 b3
        go_wp2_with fail
        rw [← hll]
        refine (words_any _ ls w3 (LinsAt.mono L2.out B3.out) HW2.out).mono ?_
        rintro e WC ⟨u7, rfl, o7, b4⟩
        rw [hll]
        have HBC := Lib.hid (below_step B3.out b4)
        have HBX := Lib.hid (SlcAt.mono O6.out b4)
        have HWX := Lib.hid (OwnR.at o7 pcC_len)
        clear o7 b4 O6 c0
        obtain ⟨⟨a6, c6, rfl, _⟩, hm6, _⟩ := HBX.out
        obtain ⟨⟨a7, c7, rfl, _⟩, hm7, _⟩ := HWX.out
        obtain ⟨nx, hnx⟩ : ∃ nx, nx = (wordsL ls).length := ⟨_, rfl⟩
        have HlW := Lib.hid hnx.symm
        have HlB := Lib.hid (hlk.symm.trans hnx.symm)
        have hzx6 : nx ≤ 9223372036854775807 := by rw [← HlW.out]; unfold maxLen at hm7; omega
        rw [HlB.out] at HBX ⊢
        rw [HlW.out] at HWX ⊢
        have HB0 := Lib.hid (Below.refl WC.heap.size WC)
        clear hm6 hm7 hnx hlk
        go_wp2_with fail
        go_loopw [11] (fun iv wr => ∃ k : Nat, k ≤ nx ∧ iv = .int .i64 k ∧ Hid (Below WC.heap.size WC wr)) (fun iv _ => nx - (intOf iv).toNat)
        case atStart => exact ⟨0, Nat.zero_le _, rfl, HB0⟩
        case round =>
          obtain ⟨k, hk, rfl, HB⟩ := hrel
          clear HB0
          by_cases hlt : k < nx
          · obtain ⟨bx, hbx⟩ : ∃ x, (It.boxes l)[k]? = some x := ⟨_, List.getElem?_eq_getElem (by rw [HlB.out]; exact hlt)⟩
            obtain ⟨pw, hpw⟩ : ∃ x, (wordsL ls)[k]? = some x := ⟨_, List.getElem?_eq_getElem (by rw [HlW.out]; exact hlt)⟩
            obtain ⟨b6, o6, d6, e6, r6⟩ := HBX.out.2.2 (by rw [HlB.out]; omega)
            obtain ⟨b7, o7, d7, e7, r7⟩ := HWX.out.2.2 (by rw [HlW.out]; omega)
            rw [HlB.out] at e6
            rw [HlW.out] at e7
            obtain ⟨rfl, rfl⟩ : a6 = some ⟨b6, o6, none⟩ ∧ c6 = d6 := by injection e6 with a1 a2 a3; exact ⟨a1, a3⟩
            obtain ⟨rfl, rfl⟩ : a7 = some ⟨b7, o7, none⟩ ∧ c7 = d7 := by injection e7 with a1 a2 a3; exact ⟨a1, a3⟩
            obtain ⟨_, y1, _, _, _, _, _, y7, y8⟩ := it_cells ((r6 k bx hbx).mono HB.out)
            obtain ⟨z0, z1, _, z3⟩ := pc_cells ((r7 k pw hpw).mono HB.out)
            have hkey := map_at12 HKe.out hpw hbx
            unfold It.keyI It.keyP at hkey
            simp only [Prod.mk.injEq] at hkey
            obtain ⟨h5, h6, h7⟩ := hkey
            rw [h5] at z0
            rw [h6] at z1
            rw [h7] at z3
            have k0 : (0 : Int) ≤ (k : Int) := by omega
            have kl : (k : Int) < (nx : Int) := by omega
            clear hbx hpw r6 r7 e6 e7 h5 h6 h7
            go_wp2_with fail
            go_quiet (fail)
            go_wp2
            go_roundw
            case rel => exact ⟨k + 1, by omega, by go_num, Lib.hid (below_step HB.out (below_drew _ _))⟩
            case measure => simp [intOf]; omega
          · obtain rfl : k = nx := by omega
            have HBr := Lib.hid (below_step HBC.out HB.out)
            clear HBX HWX
            go_wp2_with fail
            go_loopw [12] (fun iv wr => ∃ k : Nat, k ≤ nb ∧ iv = .int .i64 k ∧ Hid (Below WB.heap.size WB wr)) (fun iv _ => nb - (intOf iv).toNat)
            case atStart => exact ⟨0, Nat.zero_le _, rfl, HBr⟩
            case round =>
              obtain ⟨k, hk, rfl, HB⟩ := hrel
              clear HBr
              by_cases hlt : k < nb
              · obtain ⟨x, hx⟩ : ∃ x, ls[k]? = some x := ⟨_, List.getElem?_eq_getElem (by rw [hll]; exact hlt)⟩
                obtain ⟨b2, o2, r, rfl, hr, hlr⟩ := HPt.out wr HB.out k x hx
                have hlf := HLf.out ls z rfl k x hx
                obtain ⟨x0, x1, x2, x3, x4, x5⟩ := lr_cells hr
                have HPb := Lib.hid hlr.bs
                obtain ⟨⟨pa, ca, e9, _⟩, hmx, _⟩ := hlr.bs
                injection e9 with e9 e10 e11
                rw [e10] at HPb x2
                have hzx : x.bs.length ≤ 9223372036854775807 := by unfold maxLen at hmx; omega
                have hrx : r.x = x.x := hlr.x
                have hrf : r.fr = x.fr := hlr.fr
                have hre : r.en = x.en := hlr.en
                rw [hrx] at x4
                rw [hrf] at x0
                rw [hre] at x1
                have k0 : (0 : Int) ≤ (k : Int) := by omega
                have kl : (k : Int) < (nb : Int) := by omega
                obtain ⟨b3, o3, d3, e3, r3⟩ := (nums_ints HN.out).2.2 (by rw [← Hnb.out]; omega)
                rw [← Hnb.out] at e3
                obtain ⟨rfl, rfl⟩ : pb = some ⟨b3, o3, none⟩ ∧ cb = d3 := by injection e3 with a1 a2 a3; exact ⟨a1, a3⟩
                have HR3 := Lib.hid (r3 k x.en hlf.en)
                have HPv : Hid (∀ j, k = j + 1 → ∀ wx, Below WB.heap.size WB wx → ∃ q : Int, q < x.fr ∧ wx.cell? ⟨b2, o2 + j * 6 + 1, none⟩ = some (.int .i64 q)) := Lib.hid (fun j hj wx hbx => by
                  obtain ⟨y, hy⟩ : ∃ y, ls[j]? = some y := ⟨_, List.getElem?_eq_getElem (by rw [hll]; omega)⟩
                  obtain ⟨b4, o4, s, e4, hs, hls⟩ := HPt.out wx hbx j y hy
                  injection e4 with e4
                  injection e4 with e5 e6
                  subst e5 e6
                  exact ⟨s.en, by rw [hls.en]; exact hlf.be j y hj hy, (lr_cells hs).2.1⟩)
                have HLF := Lib.hid hlf
                obtain ⟨nx, hnx0⟩ : ∃ nx, nx = x.bs.length := ⟨_, rfl⟩
                have Hnx := Lib.hid hnx0
                rw [← hnx0] at HPb x2 hzx
                have hb2 := below_alloc wr (.cells #[.int .i64 x.fr, .int .i64 x.en, .slice r.a nx r.c, .bool r.hy, .int .i64 x.x, .int .i64 r.bad] 44)
                have HQ := Lib.hid (obj_new wr _ rfl #[.int .i64 x.fr, .int .i64 x.en, .slice r.a nx r.c, .bool r.hy, .int .i64 x.x, .int .i64 r.bad] 44)
                obtain ⟨W2, hW2⟩ : ∃ W2, W2 = wr.alloc (.cells #[.int .i64 x.fr, .int .i64 x.en, .slice r.a nx r.c, .bool r.hy, .int .i64 x.x, .int .i64 r.bad] 44) := ⟨_, rfl⟩
                obtain ⟨Q, hQ⟩ : ∃ Q, Q = wr.heap.size := ⟨_, rfl⟩
                rw [← hW2] at hb2 HQ
                rw [← hQ] at HQ
                have HB2 := Lib.hid (below_step HB.out hb2)
                have HPc := Lib.hid (SlcAt.mono HPb.out hb2)
                have HD0 := Lib.hid (Below.refl W2.heap.size W2)
                clear r3 e3 hx hr hlr hlf hmx hb2 HPb e9 e10 e11 hrx hrf hre hnx0
                go_upto_region 18 with fail
                rw [← hW2, ← hQ]
                clear hW2 hQ x0 x1 x2 x3 x4 x5
                go_wp2_with fail
                go_loopw [14, 15] (fun ev kv wi => ∃ j : Nat, j ≤ nx ∧ kv = .int .i64 j ∧ ev = .int .i64 (It.endAt x.bs j) ∧ Hid (wi.heap[Q]? = some (.cells #[.int .i64 x.fr, .int .i64 x.en, .slice r.a nx r.c, .bool r.hy, .int .i64 x.x, .int .i64 r.bad] 44 (0, 0))) ∧ Hid (Below W2.heap.size W2 wi)) (fun _ kv _ => nx - (intOf kv).toNat)
                case atStart => exact ⟨0, Nat.zero_le _, rfl, by rw [It.endAt_zero], HQ, HD0⟩
                case round =>
                  obtain ⟨j, hj, rfl, rfl, HQi, HDi⟩ := hrel
                  clear HQ HD0
                  by_cases hjl : j < nx
                  · obtain ⟨pl, hpl⟩ : ∃ q, x.bs[j]? = some q := ⟨_, List.getElem?_eq_getElem (by rw [← Hnx.out]; exact hjl)⟩
                    obtain ⟨b5, o5, d5, e5, r5⟩ := HPc.out.2.2 (by rw [← Hnx.out]; omega)
                    injection e5 with e5 e6 e7
                    obtain ⟨y0, y1, y2, y3⟩ := pc_cells ((r5 j pl hpl).mono HDi.out)
                    have c2 : wr.cell? ⟨Q, 2, none⟩ = some (.slice r.a nx r.c) := Lib.cell_of_heap HQi.out 2
                    rw [e5] at c2
                    have hle := It.endAt_le HLF.out.ap hpl
                    have HNx := Lib.hid (It.endAt_next hpl)
                    obtain ⟨p0, p1, p2⟩ := HLF.out.bd.2.2 pl (List.mem_of_getElem? hpl)
                    have hx3 := HLF.out.bd.2.1
                    have j0 : (0 : Int) ≤ (j : Int) := by omega
                    have jl : (j : Int) < (nx : Int) := by omega
                    have hEn : ¬ (pl.x < It.endAt x.bs j) := by omega
                    have kw := wAdd12 p0 p1 p2 hx3
                    have kw2 := wAdd12' p0 p1 p2 hx3
                    clear hpl r5 e5 e6 e7
                    go_wp2_with fail
                    go_quiet (fail)
                    go_wp2
                    clear kw kw2
                    go_roundw
                    case rel => exact ⟨j + 1, by omega, by go_num, by rw [HNx.out], Lib.hid (obj_kept (below_drew _ _) HQi.out), Lib.hid (below_step HDi.out (below_drew _ _))⟩
                    case measure => simp [intOf]; omega
                  · obtain rfl : j = nx := by omega
                    have c0 : wr.cell? ⟨Q, 0, none⟩ = some (.int .i64 x.fr) := Lib.cell_of_heap HQi.out 0
                    have c1 : wr.cell? ⟨Q, 1, none⟩ = some (.int .i64 x.en) := Lib.cell_of_heap HQi.out 1
                    have c2 : wr.cell? ⟨Q, 2, none⟩ = some (.slice r.a j r.c) := Lib.cell_of_heap HQi.out 2
                    have c4 : wr.cell? ⟨Q, 4, none⟩ = some (.int .i64 x.x) := Lib.cell_of_heap HQi.out 4
                    have hen := It.endAt_end HLF.out.ap
                    rw [← Hnx.out] at hen
                    have hEe : ¬ (x.x < It.endAt x.bs j) := by omega
                    have hfr := HLF.out.fr
                    have hFr : ¬ (x.en < x.fr) := by omega
                    have HBi := Lib.hid (below_step HB2.out HDi.out)
                    have cb3 := cell_below (below_step BB.out HBi.out) HR3.out
                    clear HF HA HN HKy HBd HLf HLn H1 HX HW2 HPt HKe HR3 HLF HPc
                    by_cases hk0 : k = 0
                    · have hkp : ¬ (0 : Int) < (k : Int) := by omega
                      have hkN : ¬ 0 < k := by omega
                      clear hk0 hen hfr
                      go_upto_region 25 with fail
                      have S0 : (fun w' : World => w'.cell? ⟨Q, 0, none⟩ = some (.int .i64 x.fr) ∧ w'.cell? ⟨Q, 1, none⟩ = some (.int .i64 x.en) ∧ w'.cell? ⟨Q, 4, none⟩ = some (.int .i64 x.x) ∧ w'.cell? ⟨b3, o3 + k, none⟩ = some (.int .i64 x.en)) wr.drew := ⟨c0, c1, c4, cb3⟩
                      refine wp_region_held_drew (S := fun w' : World => w'.cell? ⟨Q, 0, none⟩ = some (.int .i64 x.fr) ∧ w'.cell? ⟨Q, 1, none⟩ = some (.int .i64 x.en) ∧ w'.cell? ⟨Q, 4, none⟩ = some (.int .i64 x.x) ∧ w'.cell? ⟨b3, o3 + k, none⟩ = some (.int .i64 x.en)) (by kernel_rfl) S0 (fun hHeld => ?_)
                      clear S0
                      refine take_g12 (i := 0) (d := 140) (op := Op.fieldAddr 44 (Operand.tmp 13) 4) (ty := 0) (v := (.pointer (some ⟨Q, 4, none⟩))) (g := none) (by kernel_rfl) (by kernel_rfl) (by rfl) (by kernel_rfl) (by kernel_rfl) (by kernel_rfl) (fun _ _ _ h => h) (fun wS hS => by clear hS; go_simp) hHeld ?_
                      try simp only [Act.put, List.setIfInBounds_toArray, List.set_cons_zero, List.set_cons_succ]
                      refine take_g12 (i := 1) (d := 141) (op := Op.load 2 (Operand.tmp 140)) (ty := 2) (v := (.int .i64 x.x)) (g := none) (by kernel_rfl) (by kernel_rfl) (by rfl) (by kernel_rfl) (by kernel_rfl) (by kernel_rfl) (fun _ _ _ h => h) (fun wS hS => by (try dsimp only at hS); have e0 := hS.1; have e1 := hS.2.1; have e4 := hS.2.2.1; have eb := hS.2.2.2; clear hS; go_simp) hHeld ?_
                      try simp only [Act.put, List.setIfInBounds_toArray, List.set_cons_zero, List.set_cons_succ]
                      refine take_g12 (i := 2) (d := 142) (op := Op.move (Operand.tmp 14)) (ty := 2) (v := (.int .i64 (It.endAt x.bs j))) (g := none) (by kernel_rfl) (by kernel_rfl) (by rfl) (by kernel_rfl) (by kernel_rfl) (by kernel_rfl) (fun _ _ _ h => h) (fun wS hS => by clear hS; go_simp) hHeld ?_
                      try simp only [Act.put, List.setIfInBounds_toArray, List.set_cons_zero, List.set_cons_succ]
                      refine take_g12 (i := 3) (d := 143) (op := Op.binOp BinOp.lss 2 (Operand.tmp 141) (Operand.tmp 142) 2) (ty := 4) (v := (.bool false)) (g := none) (by kernel_rfl) (by kernel_rfl) (by rfl) (by kernel_rfl) (by kernel_rfl) (by kernel_rfl) (fun _ _ _ h => h) (fun wS hS => by clear hS; go_simp) hHeld ?_
                      try simp only [Act.put, List.setIfInBounds_toArray, List.set_cons_zero, List.set_cons_succ]
                      refine take_g12 (i := 4) (d := 144) (op := Op.move (Operand.tmp 143)) (ty := 4) (v := (.bool false)) (g := none) (by kernel_rfl) (by kernel_rfl) (by rfl) (by kernel_rfl) (by kernel_rfl) (by kernel_rfl) (fun _ _ _ h => h) (fun wS hS => by clear hS; go_simp) hHeld ?_
                      try simp only [Act.put, List.setIfInBounds_toArray, List.set_cons_zero, List.set_cons_succ]
                      refine take_g12 (i := 5) (d := 145) (op := Op.move (Operand.tmp 12)) (ty := 3) (v := (.int .i64 (k : Int))) (g := some (4, false)) (by kernel_rfl) (by kernel_rfl) (by rfl) (by kernel_rfl) (by kernel_rfl) (by kernel_rfl) (fun _ _ _ h => h) (fun wS hS => by clear hS; go_simp) hHeld ?_
                      try simp only [Act.put, List.setIfInBounds_toArray, List.set_cons_zero, List.set_cons_succ]
                      refine take_g12 (i := 6) (d := 146) (op := Op.binOp BinOp.gtr 3 (Operand.tmp 145) (Operand.const (Value.int IntKind.i64 0)) 3) (ty := 4) (v := (.bool false)) (g := some (4, false)) (by kernel_rfl) (by kernel_rfl) (by rfl) (by kernel_rfl) (by kernel_rfl) (by kernel_rfl) (fun _ _ _ h => h) (fun wS hS => by clear hS; go_simp) hHeld ?_
                      try simp only [Act.put, List.setIfInBounds_toArray, List.set_cons_zero, List.set_cons_succ]
                      refine take_g12 (i := 7) (d := 147) (op := Op.move (Operand.tmp 146)) (ty := 4) (v := (.bool false)) (g := some (4, false)) (by kernel_rfl) (by kernel_rfl) (by rfl) (by kernel_rfl) (by kernel_rfl) (by kernel_rfl) (fun _ _ _ h => h) (fun wS hS => by clear hS; go_simp) hHeld ?_
                      try simp only [Act.put, List.setIfInBounds_toArray, List.set_cons_zero, List.set_cons_succ]
                      refine skip_g12 (i := 8) (d := 148) (g := (7, true)) (by kernel_rfl) (by kernel_rfl) (by rfl) (by kernel_rfl) (by kernel_rfl) (by kernel_rfl) (fun _ _ _ h => h) hHeld ?_
                      try simp only [Act.put, List.setIfInBounds_toArray, List.set_cons_zero, List.set_cons_succ]
                      refine skip_g12 (i := 9) (d := 149) (g := (7, true)) (by kernel_rfl) (by kernel_rfl) (by rfl) (by kernel_rfl) (by kernel_rfl) (by kernel_rfl) (fun _ _ _ h => h) hHeld ?_
                      try simp only [Act.put, List.setIfInBounds_toArray, List.set_cons_zero, List.set_cons_succ]
                      refine skip_g12 (i := 10) (d := 150) (g := (7, true)) (by kernel_rfl) (by kernel_rfl) (by rfl) (by kernel_rfl) (by kernel_rfl) (by kernel_rfl) (fun _ _ _ h => h) hHeld ?_
                      try simp only [Act.put, List.setIfInBounds_toArray, List.set_cons_zero, List.set_cons_succ]
                      refine skip_g12 (i := 11) (d := 151) (g := (7, true)) (by kernel_rfl) (by kernel_rfl) (by rfl) (by kernel_rfl) (by kernel_rfl) (by kernel_rfl) (fun _ _ _ h => h) hHeld ?_
                      try simp only [Act.put, List.setIfInBounds_toArray, List.set_cons_zero, List.set_cons_succ]
                      refine skip_g12 (i := 12) (d := 152) (g := (7, true)) (by kernel_rfl) (by kernel_rfl) (by rfl) (by kernel_rfl) (by kernel_rfl) (by kernel_rfl) (fun _ _ _ h => h) hHeld ?_
                      try simp only [Act.put, List.setIfInBounds_toArray, List.set_cons_zero, List.set_cons_succ]
                      refine skip_g12 (i := 13) (d := 153) (g := (7, true)) (by kernel_rfl) (by kernel_rfl) (by rfl) (by kernel_rfl) (by kernel_rfl) (by kernel_rfl) (fun _ _ _ h => h) hHeld ?_
                      try simp only [Act.put, List.setIfInBounds_toArray, List.set_cons_zero, List.set_cons_succ]
                      refine skip_g12 (i := 14) (d := 154) (g := (7, true)) (by kernel_rfl) (by kernel_rfl) (by rfl) (by kernel_rfl) (by kernel_rfl) (by kernel_rfl) (fun _ _ _ h => h) hHeld ?_
                      try simp only [Act.put, List.setIfInBounds_toArray, List.set_cons_zero, List.set_cons_succ]
                      refine skip_g12 (i := 15) (d := 155) (g := (7, true)) (by kernel_rfl) (by kernel_rfl) (by rfl) (by kernel_rfl) (by kernel_rfl) (by kernel_rfl) (fun _ _ _ h => h) hHeld ?_
                      try simp only [Act.put, List.setIfInBounds_toArray, List.set_cons_zero, List.set_cons_succ]
                      refine skip_g12 (i := 16) (d := 156) (g := (7, true)) (by kernel_rfl) (by kernel_rfl) (by rfl) (by kernel_rfl) (by kernel_rfl) (by kernel_rfl) (fun _ _ _ h => h) hHeld ?_
                      try simp only [Act.put, List.setIfInBounds_toArray, List.set_cons_zero, List.set_cons_succ]
                      refine take_g12 (i := 17) (d := 157) (op := Op.pick (Operand.tmp 147) (Operand.tmp 156) (Operand.const (Value.bool false))) (ty := 4) (v := (.bool false)) (g := some (4, false)) (by kernel_rfl) (by kernel_rfl) (by rfl) (by kernel_rfl) (by kernel_rfl) (by kernel_rfl) (fun _ _ _ h => h) (fun wS hS => by clear hS; go_simp) hHeld ?_
                      try simp only [Act.put, List.setIfInBounds_toArray, List.set_cons_zero, List.set_cons_succ]
                      refine take_g12 (i := 18) (d := 158) (op := Op.pick (Operand.tmp 144) (Operand.const (Value.bool true)) (Operand.tmp 157)) (ty := 4) (v := (.bool false)) (g := none) (by kernel_rfl) (by kernel_rfl) (by rfl) (by kernel_rfl) (by kernel_rfl) (by kernel_rfl) (fun _ _ _ h => h) (fun wS hS => by clear hS; go_simp) hHeld ?_
                      try simp only [Act.put, List.setIfInBounds_toArray, List.set_cons_zero, List.set_cons_succ]
                      refine take_g12 (i := 19) (d := 159) (op := Op.move (Operand.tmp 158)) (ty := 4) (v := (.bool false)) (g := none) (by kernel_rfl) (by kernel_rfl) (by rfl) (by kernel_rfl) (by kernel_rfl) (by kernel_rfl) (fun _ _ _ h => h) (fun wS hS => by clear hS; go_simp) hHeld ?_
                      try simp only [Act.put, List.setIfInBounds_toArray, List.set_cons_zero, List.set_cons_succ]
                      refine take_g12 (i := 20) (d := 160) (op := Op.fieldAddr 44 (Operand.tmp 13) 1) (ty := 0) (v := (.pointer (some ⟨Q, 1, none⟩))) (g := some (19, false)) (by kernel_rfl) (by kernel_rfl) (by rfl) (by kernel_rfl) (by kernel_rfl) (by kernel_rfl) (fun _ _ _ h => h) (fun wS hS => by clear hS; go_simp) hHeld ?_
                      try simp only [Act.put, List.setIfInBounds_toArray, List.set_cons_zero, List.set_cons_succ]
                      refine take_g12 (i := 21) (d := 161) (op := Op.load 3 (Operand.tmp 160)) (ty := 3) (v := (.int .i64 x.en)) (g := some (19, false)) (by kernel_rfl) (by kernel_rfl) (by rfl) (by kernel_rfl) (by kernel_rfl) (by kernel_rfl) (fun _ _ _ h => h) (fun wS hS => by (try dsimp only at hS); have e0 := hS.1; have e1 := hS.2.1; have e4 := hS.2.2.1; have eb := hS.2.2.2; clear hS; go_simp) hHeld ?_
                      try simp only [Act.put, List.setIfInBounds_toArray, List.set_cons_zero, List.set_cons_succ]
                      refine take_g12 (i := 22) (d := 162) (op := Op.move (Operand.tmp 1)) (ty := 23) (v := (.slice (some ⟨b3, o3, none⟩) nb cb)) (g := some (19, false)) (by kernel_rfl) (by kernel_rfl) (by rfl) (by kernel_rfl) (by kernel_rfl) (by kernel_rfl) (fun _ _ _ h => h) (fun wS hS => by clear hS; go_simp) hHeld ?_
                      try simp only [Act.put, List.setIfInBounds_toArray, List.set_cons_zero, List.set_cons_succ]
                      refine take_g12 (i := 23) (d := 163) (op := Op.move (Operand.tmp 12)) (ty := 3) (v := (.int .i64 (k : Int))) (g := some (19, false)) (by kernel_rfl) (by kernel_rfl) (by rfl) (by kernel_rfl) (by kernel_rfl) (by kernel_rfl) (fun _ _ _ h => h) (fun wS hS => by clear hS; go_simp) hHeld ?_
                      try simp only [Act.put, List.setIfInBounds_toArray, List.set_cons_zero, List.set_cons_succ]
                      refine take_g12 (i := 24) (d := 164) (op := Op.indexAddr 23 (Operand.tmp 162) (Operand.tmp 163)) (ty := 0) (v := (.pointer (some ⟨b3, o3 + k, none⟩))) (g := some (19, false)) (by kernel_rfl) (by kernel_rfl) (by rfl) (by kernel_rfl) (by kernel_rfl) (by kernel_rfl) (fun _ _ _ h => h) (fun wS hS => by clear hS; go_simp) hHeld ?_
                      try simp only [Act.put, List.setIfInBounds_toArray, List.set_cons_zero, List.set_cons_succ]
                      refine take_g12 (i := 25) (d := 165) (op := Op.load 3 (Operand.tmp 164)) (ty := 3) (v := (.int .i64 x.en)) (g := some (19, false)) (by kernel_rfl) (by kernel_rfl) (by rfl) (by kernel_rfl) (by kernel_rfl) (by kernel_rfl) (fun _ _ _ h => h) (fun wS hS => by (try dsimp only at hS); have e0 := hS.1; have e1 := hS.2.1; have e4 := hS.2.2.1; have eb := hS.2.2.2; clear hS; go_simp) hHeld ?_
                      try simp only [Act.put, List.setIfInBounds_toArray, List.set_cons_zero, List.set_cons_succ]
                      refine take_g12 (i := 26) (d := 166) (op := Op.binOp BinOp.neq 3 (Operand.tmp 161) (Operand.tmp 165) 3) (ty := 4) (v := (.bool false)) (g := some (19, false)) (by kernel_rfl) (by kernel_rfl) (by rfl) (by kernel_rfl) (by kernel_rfl) (by kernel_rfl) (fun _ _ _ h => h) (fun wS hS => by clear hS; go_simp) hHeld ?_
                      try simp only [Act.put, List.setIfInBounds_toArray, List.set_cons_zero, List.set_cons_succ]
                      refine take_g12 (i := 27) (d := 167) (op := Op.pick (Operand.tmp 159) (Operand.const (Value.bool true)) (Operand.tmp 166)) (ty := 4) (v := (.bool false)) (g := none) (by kernel_rfl) (by kernel_rfl) (by rfl) (by kernel_rfl) (by kernel_rfl) (by kernel_rfl) (fun _ _ _ h => h) (fun wS hS => by clear hS; go_simp) hHeld ?_
                      try simp only [Act.put, List.setIfInBounds_toArray, List.set_cons_zero, List.set_cons_succ]
                      refine take_g12 (i := 28) (d := 168) (op := Op.move (Operand.tmp 167)) (ty := 4) (v := (.bool false)) (g := none) (by kernel_rfl) (by kernel_rfl) (by rfl) (by kernel_rfl) (by kernel_rfl) (by kernel_rfl) (fun _ _ _ h => h) (fun wS hS => by clear hS; go_simp) hHeld ?_
                      try simp only [Act.put, List.setIfInBounds_toArray, List.set_cons_zero, List.set_cons_succ]
                      refine take_g12 (i := 29) (d := 169) (op := Op.fieldAddr 44 (Operand.tmp 13) 0) (ty := 0) (v := (.pointer (some ⟨Q, 0, none⟩))) (g := some (28, false)) (by kernel_rfl) (by kernel_rfl) (by rfl) (by kernel_rfl) (by kernel_rfl) (by kernel_rfl) (fun _ _ _ h => h) (fun wS hS => by clear hS; go_simp) hHeld ?_
                      try simp only [Act.put, List.setIfInBounds_toArray, List.set_cons_zero, List.set_cons_succ]
                      refine take_g12 (i := 30) (d := 170) (op := Op.load 3 (Operand.tmp 169)) (ty := 3) (v := (.int .i64 x.fr)) (g := some (28, false)) (by kernel_rfl) (by kernel_rfl) (by rfl) (by kernel_rfl) (by kernel_rfl) (by kernel_rfl) (fun _ _ _ h => h) (fun wS hS => by (try dsimp only at hS); have e0 := hS.1; have e1 := hS.2.1; have e4 := hS.2.2.1; have eb := hS.2.2.2; clear hS; go_simp) hHeld ?_
                      try simp only [Act.put, List.setIfInBounds_toArray, List.set_cons_zero, List.set_cons_succ]
                      refine take_g12 (i := 31) (d := 171) (op := Op.fieldAddr 44 (Operand.tmp 13) 1) (ty := 0) (v := (.pointer (some ⟨Q, 1, none⟩))) (g := some (28, false)) (by kernel_rfl) (by kernel_rfl) (by rfl) (by kernel_rfl) (by kernel_rfl) (by kernel_rfl) (fun _ _ _ h => h) (fun wS hS => by clear hS; go_simp) hHeld ?_
                      try simp only [Act.put, List.setIfInBounds_toArray, List.set_cons_zero, List.set_cons_succ]
                      refine take_g12 (i := 32) (d := 172) (op := Op.load 3 (Operand.tmp 171)) (ty := 3) (v := (.int .i64 x.en)) (g := some (28, false)) (by kernel_rfl) (by kernel_rfl) (by rfl) (by kernel_rfl) (by kernel_rfl) (by kernel_rfl) (fun _ _ _ h => h) (fun wS hS => by (try dsimp only at hS); have e0 := hS.1; have e1 := hS.2.1; have e4 := hS.2.2.1; have eb := hS.2.2.2; clear hS; go_simp) hHeld ?_
                      try simp only [Act.put, List.setIfInBounds_toArray, List.set_cons_zero, List.set_cons_succ]
                      refine take_g12 (i := 33) (d := 173) (op := Op.binOp BinOp.gtr 3 (Operand.tmp 170) (Operand.tmp 172) 3) (ty := 4) (v := (.bool false)) (g := some (28, false)) (by kernel_rfl) (by kernel_rfl) (by rfl) (by kernel_rfl) (by kernel_rfl) (by kernel_rfl) (fun _ _ _ h => h) (fun wS hS => by clear hS; go_simp) hHeld ?_
                      try simp only [Act.put, List.setIfInBounds_toArray, List.set_cons_zero, List.set_cons_succ]
                      refine take_g12 (i := 34) (d := 174) (op := Op.pick (Operand.tmp 168) (Operand.const (Value.bool true)) (Operand.tmp 173)) (ty := 4) (v := (.bool false)) (g := none) (by kernel_rfl) (by kernel_rfl) (by rfl) (by kernel_rfl) (by kernel_rfl) (by kernel_rfl) (fun _ _ _ h => h) (fun wS hS => by clear hS; go_simp) hHeld ?_
                      try simp only [Act.put, List.setIfInBounds_toArray, List.set_cons_zero, List.set_cons_succ]
                      refine wpAnyH_done (by kernel_rfl) ?_ _
                      clear hHeld
                      go_wp2
                      go_roundw
                      case rel => exact ⟨k + 1, by omega, by go_num, Lib.hid (below_step HB2.out (below_step HDi.out (below_drew10w _)))⟩
                      case measure => simp [intOf]; omega
                    · obtain ⟨i, hi⟩ : ∃ i, k = i + 1 := ⟨k - 1, by omega⟩
                      have hkp : (0 : Int) < (k : Int) := by omega
                      obtain ⟨q, hq, cq⟩ := HPv.out i hi _ HBi.out
                      have hqf : ¬ (x.fr ≤ q) := by omega
                      have i0 : (0 : Int) ≤ (i : Int) := by omega
                      have il : (i : Int) < (nb : Int) := by omega
                      have hkd : decide ((0 : Int) < (k : Int)) = true := decide_eq_true hkp
                      have hkN : 0 < k := by omega
                      have hkM : decide (0 < k) = true := decide_eq_true hkN
                      have kw := wSub12 hi hlt HNB.out
                      have kw2 := wSub12' hi hlt HNB.out
                      clear hk0 hi hen hfr hq
                      go_wp2_with fail
                      go_quiet (fail)
                      go_wp2
                      clear kw kw2
                      go_roundw
                      case rel => exact ⟨k + 1, by omega, by go_num, Lib.hid (below_step HB2.out (below_step HDi.out (below_drew _ _)))⟩
                      case measure => simp [intOf]; omega
              · obtain rfl : k = nb := by omega
                go_wp2
                go_ret
                exact ⟨rfl, below_step BB.out HB.out⟩
      · have hcb : (c == 0) = false := by simpa using hc
        have hcn : (c != 0) = true := by simpa using hc
        have hnil := HBd.out hc
        have hl0 : ls.length = 0 := by rw [hnil]; rfl
        rw [hl0]
        go_wp2
        go_ret
        exact ⟨rfl, BB.out⟩
end Go.Proofs.Ythcilpijiindeaa
namespace Go.Proofs.Ythcilpijiindeaa
open Go.ChangeShapes Go.WideShapes Go.ChangeAt Go.RowKit
theorem uFi12 : Try.prog.underlying 50 = some (.struct (Try.prog.fieldsOf 50)) := by kernel_rfl
theorem cFi12 : Try.prog.cellsOf 50 = 2 := by kernel_rfl
section
variable {H : Type} {enc : TypeId × Value → H} {W : World} {base : Nat} {held : Bool} {spare : Nat → Bool}
set_option maxRecDepth 100000 in
theorem first_in {v : Value} {d : DataW H} {p : List MemPlace} (h : DataW.Trod enc Try.prog W base spare held 50 v d p) {cs : Array Value} (hv : v = .agg cs) : ∃ a b : Int, v = .agg #[.int .i64 a, .int .i64 b] := by
  obtain ⟨fuel, hf⟩ := h
  subst hv
  obtain ⟨f0, f1, hfs, ⟨t0, o0⟩, ⟨t1, o1⟩⟩ := two_fields (show (Try.prog.fieldsOf 50).toList.map (fun f => (f.type, f.offset)) = [(3, 0), (2, 1)] by kernel_rfl)
  obtain ⟨xs, m, hm', hxe, hcl, hxl, hxi⟩ := DataW.trod_struct uFi12 hf
  have hcs : (Value.agg cs).cells.toList = cs.toList := rfl
  rw [hcs] at hcl hxi
  rw [hfs] at hxl hxi
  rw [cFi12] at hcl
  obtain ⟨l⟩ := cs
  simp only [] at hcl hxi
  match l, hcl, xs, hxl with
  | [v0, v1], _, [y0, y1], _ =>
    have g0 := hxi 0 f0 rfl
    have g1 := hxi 1 f1 rfl
    rw [t0, o0, cInt9] at g0
    rw [t1, o1, cI649] at g1
    simp at g0 g1
    obtain ⟨a, e0, _, w0⟩ := DataW.trod_int Try.underlying3 g0
    obtain ⟨b, e1, _, w1⟩ := DataW.trod_int Try.underlying2 g1
    simp at e0 e1
    subst e0 e1
    exact ⟨a, b, rfl⟩
end
end Go.Proofs.Ythcilpijiindeaa
namespace Go.Proofs.Ythcilpijiindeaa
open Go.ChangeShapes Go.WideShapes Go.ChangeAt Go.RowKit

set_option maxRecDepth 100000 in
/-- WHAT THE WALK GIVES, FOR EVERY ARGUMENT AND EVERY WORLD. -/
theorem setterKeeps_contract (H : Type) (enc : TypeId × Value → H) (W : World) (base : Nat) (args : Array Value) (ds gs : List (DataW H)) (before : List MemPlace)
    (hval : ∀ (j : Nat) t v, Try.f4.params[j]? = some t → args[j]? = some v → Value.okWide Try.prog W .any base t v)
    (hW : DataW.Whole enc Try.prog Try.f4.params.toList Rows.setterKeepsSpec.vars false W args.toList ds gs before) (hk : (DataW.weightsEach Try.prog (Try.f4.params.toList ++ (OpenSpec.ofChange Rows.setterKeepsSpec).bare.plain.varTypes Try.prog) (ds ++ gs)).all (· ≤ reachBytes) = true) :
    Calls Try.prog 4 args W fun e W' => ∃ v, e = .returned v ∧ Rows.setterKeepsSpec.post enc Try.prog Try.f4 false true false false W args v W' := by
  have hW' := hW
  have hlt : ∀ x ∈ before, x.block < W.heap.size := fun x hx => hW'.lt x hx
  obtain ⟨p, q, hA0, hV, hbe, hfz, hnd⟩ := hW
  have hA : DataW.TrodAll enc Try.prog W 0 (fun _ => true) true Try.f4.params.toList args.toList ds p := hA0
  rw [Try.params4] at hA hval hk
  have hAk := hA
  obtain ⟨v0, vs0, d0, ds0, p0, q0, hargs, rfl, rfl, h0, r0⟩ := trodAll_cons hA
  obtain ⟨v1, vs1, d1, ds1, p1, q1, rfl, rfl, rfl, h1, r1⟩ := trodAll_cons r0
  obtain ⟨v2, vs2, d2, ds2, p2, q2, rfl, rfl, rfl, h2, r2⟩ := trodAll_cons r1
  obtain ⟨rfl, rfl, rfl⟩ := trodAll_nil r2
  obtain rfl : args = #[v0, v1, v2] := by cases args; simp_all
  obtain ⟨rfl, rfl⟩ := trodVars_none hV
  obtain ⟨pa0, len0, cap0, hp0⟩ := okWide_slice Try.underlying22 (hval 0 _ v0 rfl rfl)
  obtain ⟨xs0, hxs0, _⟩ := items_in h0 (by rw [hp0]; rfl)
  obtain ⟨pa1, len1, cap1, hp1⟩ := okWide_slice Try.underlying23 (hval 1 _ v1 rfl rfl)
  obtain ⟨xs1, hxs1⟩ := ints_in h1 (by rw [hp1]; rfl)
  obtain ⟨x2, rfl⟩ := okWide_int Try.underlying2 (hval 2 _ v2 rfl rfl)
  refine (lawKeeps v0 v1 xs0 xs1 x2 W hxs0 (ints_nums hxs1)).mono fun e W' ⟨he, hb⟩ => ?_
  subst he
  have e1 : Rows.setterKeepsSpec.fn H ([d0, d1, d2] ++ []) = { results := [.lit (.bool true)], args := [d0, d1, d2] } := rfl
  refine ⟨_, rfl, [d0, d1, d2], [], before, [], p0 ++ (p1 ++ (p2 ++ [])), [], hW', ?_, ?_, ?_, hb.frame _, fun h => by cases h⟩
  · rw [e1]; exact trodAll_mk1 (shut_bool Try.underlying4 true)
  · rw [e1, Try.params4]
    exact args_kept laidOut hb _ _ _ _ (by
      intro t ht
      have : t = 22 ∨ t = 23 ∨ t = 2 := by simpa using ht
      rcases this with rfl | rfl | rfl
      all_goals exact ⟨by kernel_rfl, of_decide_eq_true (by kernel_rfl)⟩) hAk (fun x hx => hlt x (by rw [hbe]; exact List.mem_append_left _ hx))
  · rw [e1]; rfl

theorem setterKeeps_laid_met (os : Os) : laidMet Try.prog Rows.setterKeepsRow.laid ((World.laidAll Try.prog os laidList).forCall (fun _ _ => 0) ⟨#[], #[.slice none 0 0, .slice none 0 0, .int .i64 0], []⟩).memory :=
  laidMet_laidAll _ (by kernel_rfl) (by kernel_rfl)
theorem setterKeeps_reads (os : Os) {H : Type} (enc : TypeId × Value → H) : ∃ places, DataW.whole enc Try.prog ((World.laidAll Try.prog os laidList).forCall (fun _ _ => 0) ⟨#[], #[.slice none 0 0, .slice none 0 0, .int .i64 0], []⟩).memory Try.f4.params.toList Rows.setterKeepsSpec.vars false #[Value.slice none 0 0, .slice none 0 0, .int .i64 0].toList 8 = some ([.nil, .nil, .lit (.int .i64 0)], [], places) :=
  ⟨[], by kernel_rfl⟩

set_option maxRecDepth 100000 in
theorem setterKeeps_lifted (os : Os) (started : os.Started) (H : Type) (enc : TypeId × Value → H) (F : Stop.Interp) :
    ReturnsInHanded {} Try.checked os 4 .any ((OpenSpec.ofChange Rows.setterKeepsSpec).preRow enc Try.prog Try.f4 Rows.setterKeepsRow.domain false Rows.setterKeepsRow.laid) (((OpenSpec.ofChange Rows.setterKeepsSpec).at F).post enc Try.prog Try.f4 false true false false) := by
  obtain ⟨places, hx⟩ := setterKeeps_reads os enc
  refine returnsInHanded_of_row (C := Try.checked) (s := OpenSpec.ofChange Rows.setterKeepsSpec) own started (by kernel_rfl) Try.func4
    (witness_row_atRef (enc := enc) (C := Try.checked) false (World.laidAll Try.prog os laidList) #[.slice none 0 0, .slice none 0 0, .int .i64 0] (World.laidAll_os _ _ _) (by kernel_rfl) (by kernel_rfl) (by kernel_rfl)
      (OpenSpec.preRow_of_cond 8 hx (by kernel_rfl) (fun k hk => by cases hk) (by kernel_rfl) (setterKeeps_laid_met os))) ?_
  intro W base args ds gs before hval hW _ _ hz hL hsh _
  exact setterKeeps_contract H enc W base args ds gs before hval hW hz

theorem setterKeeps_full : Rows.SetterKeepsSaid :=
  OpenClaim.holds_of_cond 4 Try.f4 rfl rfl rfl rfl rfl rfl rfl ⟨rfl, rfl, rfl, rfl, rfl⟩ rfl rfl rfl rfl rfl (by kernel_rfl) Try.func4 (by kernel_rfl)
    (of_decide_eq_true (by kernel_rfl)) (by unfold Func.isWrapper; first | (rw [if_pos (by decide +kernel)]; kernel_rfl) | (rw [if_neg (by decide +kernel)]; exact ⟨rfl, rfl⟩))
    (fun os started H enc _ F => by rw [OpenClaim.pre_eq_preRow]; exact setterKeeps_lifted os started H enc F)

end Go.Proofs.Ythcilpijiindeaa
