/-
  The reference's Line: one line, from a break to another one, that may be.
-/
import Derived.Test.YthcilpijiindeaaSet12
import Derived.Test.YthcilpijiindeaaRefWidths12
import Derived.Test.YthcilpijiindeaaRefLine10
set_option linter.unusedVariables false
set_option linter.unusedSimpArgs false
namespace Go.Proofs.Ythcilpijiindeaa
open Go.RowKit

theorem kind_all {l : List It.Itm} (h : l.all It.right = true) {k : Nat} {x : It.Itm} (hx : l[k]? = some x) : x.k = 0 ∨ x.k = 1 ∨ x.k = 2 := by
  have hr := List.all_eq_true.1 h x (List.mem_of_getElem? hx)
  unfold It.right at hr
  by_cases h0 : x.k = 0
  · exact .inl h0
  · rw [if_neg h0] at hr
    split at hr
    · cases hr
    · by_cases h1 : x.k = 1
      · exact .inr (.inl h1)
      · rw [if_neg h1] at hr
        simp only [Bool.and_eq_true, decide_eq_true_eq] at hr
        exact .inr (.inr hr.1.1)
theorem right_of {l : List It.Itm} {a b t : Int} {s : It.Stg} (h : It.may l = true) : l.all It.right = true := (It.may_yes h).2.1
set_option maxHeartbeats 8000000 in
set_option maxRecDepth 100000 in
theorem refLine12_any (v : Value) (l : List It.Itm) (a b t : Int) (s : It.Stg) (w : World) (hI : ItsAt w v l) (hlen : l.length ≤ 2000) (hright : l.all It.right = true) (hz : It.lineOf l a b t = some s) : Calls Try.prog 21 #[v, .int .i64 a, .int .i64 b, .int .i64 t] w fun e w' => ∃ r, e = .returned (lrV r) ∧ LinOwn w.heap.size w' r (It.linS l a b s) ∧ Below w.heap.size w w' := by
  have HA := Lib.hid hI
  have HLn := Lib.hid (fun w h => refLine_any v l a b t w h hlen)
  obtain ⟨⟨p, cp, rfl, hcap⟩, hm, _⟩ := hI
  obtain ⟨P8, hP8⟩ : ∃ P, P = w.heap.size := ⟨_, rfl⟩
  obtain ⟨W1, hW1⟩ : ∃ W1, W1 = w.alloc (.cells #[.int .i64 0, .int .i64 0, .slice none 0 0, .bool false, .int .i64 0, .int .i64 0] 44) := ⟨_, rfl⟩
  have hb1 := below_alloc w (.cells #[.int .i64 0, .int .i64 0, .slice none 0 0, .bool false, .int .i64 0, .int .i64 0] 44)
  have HX1 := Lib.hid (obj_new w _ rfl #[.int .i64 0, .int .i64 0, .slice none 0 0, .bool false, .int .i64 0, .int .i64 0] 44)
  rw [← hW1] at hb1 HX1
  rw [← hP8] at HX1
  have HB1 := Lib.hid hb1
  have HA1 := Lib.hid (SlcAt.mono HA.out hb1)
  have HPw := Lib.hid hP8
  clear hb1
  rw [hz] at HLn
  unfold setV stgV at HLn
  simp only [] at HLn
  obtain ⟨hl1, hl2⟩ := It.lineOf_some hz
  obtain ⟨i1, i2, i3, i4, i5, _⟩ := It.isLine_lt hl1
  obtain ⟨g1, g2, g3⟩ := It.isLine_st hl1
  have HWd := Lib.hid (widths_of hz)
  have HLw := Lib.hid (lws_len hz)
  have hg2000 := (It.glMay_yes (It.setOf_some hl2).1).1
  obtain ⟨sa, hsa⟩ : ∃ k : Nat, a + 1 = (k : Int) := ⟨(a + 1).toNat, by omega⟩
  obtain ⟨kb, hk⟩ : ∃ k : Nat, b = (k : Int) := ⟨b.toNat, by omega⟩
  subst hk
  have hta : (a + 1).toNat = sa := by omega
  have HEx : Hid (It.linS l a (kb : Int) s = ⟨(It.st l sa : Nat), (kb : Int), (It.lay (It.lws l a (kb : Int) s) (It.lits l a (kb : Int))).2.1, It.flagN l kb, (It.lay (It.lws l a (kb : Int) s) (It.lits l a (kb : Int))).2.2, s.bad⟩) := Lib.hid (by unfold It.linS; rw [hta]; rfl)
  rw [hta] at HWd g1 g2 hg2000
  rw [Int.toNat_natCast] at HWd g2 hg2000
  have hkl : kb < l.length := by omega
  obtain ⟨xb, hx⟩ : ∃ x, l[kb]? = some x := ⟨_, List.getElem?_eq_getElem hkl⟩
  have HFl : Hid (It.flagN l kb = xb.f) := Lib.hid (by unfold It.flagN; rw [hx])
  have hitd : It.lits l a (kb : Int) = (l.take kb).drop (It.st l sa) := by unfold It.lits; rw [hta, Int.toNat_natCast]
  have HSt := Lib.hid (fun w h => refStart_any (.slice p l.length cp) l a sa hsa (by omega) w h)
  have HGl := Lib.hid (fun w h => refGlues10_any (.slice p l.length cp) l a (kb : Int) sa kb hsa rfl (by omega) hkl g2 hlen w h)
  generalize It.st l sa = F at *
  have HIt : Hid (∀ j x, F ≤ j → j < kb → l[j]? = some x → (It.lits l a (kb : Int))[j - F]? = some x) := Lib.hid (fun j x h1 h2 h3 => by rw [hitd, List.getElem?_drop, List.getElem?_take_of_lt (by omega), show F + (j - F) = j by omega]; exact h3)
  have HL2 : Hid ((It.lits l a (kb : Int)).length = kb - F) := Lib.hid (by rw [hitd, List.length_drop, List.length_take]; omega)
  have HKd := Lib.hid (fun j x h => kind_all hright (k := j) (x := x) h)
  clear hitd hright
  generalize It.lits l a (kb : Int) = its at *
  generalize It.lws l a (kb : Int) s = ws at *
  generalize It.gluesN l sa kb = G at *
  have HWt : Hid (∀ u w1, GlsAt w1 u G → Calls Try.prog 38 #[u, .int .i64 t] w1 fun e w' => ∃ pw cw, e = .returned (.tuple #[.slice pw ws.length cw, .bool true]) ∧ OwnZ w1.heap.size (.slice pw ws.length cw) ws w' ∧ Below w1.heap.size w1 w') := Lib.hid (fun u w1 h => by
    refine (refWidths_any u G t w1 h hg2000).mono ?_
    rintro e w' ⟨u, rfl, h1, h2⟩
    rw [HWd.out] at h1
    obtain ⟨x, rfl, hl⟩ := h1
    obtain ⟨⟨pw, cw, e, _⟩, _⟩ := OwnR.at hl inZ_len
    subst e
    exact ⟨pw, cw, rfl, hl, h2⟩)
  obtain ⟨b1, o1, d1, e1, r1⟩ := HA.out.2.2 (by omega)
  obtain ⟨rfl, rfl⟩ : p = some ⟨b1, o1, none⟩ ∧ cp = d1 := by injection e1 with a1 a2 a3; exact ⟨a1, a3⟩
  have HR := Lib.hid (r1 kb xb hx)
  have HRa := Lib.hid r1
  obtain ⟨n, hn⟩ : ∃ n, n = l.length := ⟨_, rfl⟩
  have Hn := Lib.hid hn
  have k0 : (0 : Int) ≤ (kb : Int) := by omega
  have kl : (kb : Int) < (n : Int) := by omega
  have HK := Lib.hid (And.intro (show kb < n by omega) (show n ≤ 2000 by omega))
  have hF := g2
  rw [← hn] at HLn HA1 HA HSt HGl ⊢
  clear hz hcap hm hn e1 r1 hx hkl hl1 hl2 i1 i2 i3 i4 i5 g1 g2 g3 hg2000 hsa hta hlen
  rw [HEx.out]
  go_enter Try.func21, Try.ntmps21
  go_upto_region 1 with fail
  rw [← hW1, ← hP8]
  clear hW1 hP8
  go_wp2_with fail
  refine (HLn.out _ HA1.out).mono ?_
  rintro e w2 ⟨rfl, hb2⟩
  have HX2 := Lib.hid (obj_kept hb2 HX1.out)
  have HB2 := Lib.hid (below_step HB1.out hb2)
  clear hb2
  have HB2b := Lib.hid (below_step HB2.out (below_alloc w2 (.cells #[.int .i64 s.sg, .int .i64 s.o, .int .i64 s.e, .int .i64 s.bad] 56)))
  have HX2b := Lib.hid (obj_kept (below_alloc w2 (.cells #[.int .i64 s.sg, .int .i64 s.o, .int .i64 s.e, .int .i64 s.bad] 56)) HX2.out)
  have HS2b := Lib.hid (obj_new w2 _ rfl #[.int .i64 s.sg, .int .i64 s.o, .int .i64 s.e, .int .i64 s.bad] 56)
  obtain ⟨W2b, hW2b⟩ : ∃ W2b, W2b = w2.alloc (.cells #[.int .i64 s.sg, .int .i64 s.o, .int .i64 s.e, .int .i64 s.bad] 56) := ⟨_, rfl⟩
  rw [← hW2b] at HB2b HX2b HS2b
  obtain ⟨Q, hQ⟩ : ∃ Q, Q = w2.heap.size := ⟨_, rfl⟩
  rw [← hQ] at HS2b
  go_upto_region 2 with fail
  rw [← hW2b, ← hQ]
  clear hW2b hQ
  go_wp2_with fail
  refine (HGl.out _ (SlcAt.mono HA.out HB2b.out)).mono ?_
  rintro e w6 ⟨u6, rfl, ho6, hb6⟩
  have HX6 := Lib.hid (obj_kept hb6 HX2b.out)
  have HS6 := Lib.hid (obj_kept hb6 HS2b.out)
  have HB6 := Lib.hid (below_step HB2b.out hb6)
  have HG6 := Lib.hid (OwnR.at ho6 glC_len)
  clear hb6 ho6
  go_wp2_with fail
  refine (HWt.out _ _ HG6.out).mono ?_
  rintro e W3 ⟨pw, cw, rfl, hl7, hb7⟩
  have HX3 := Lib.hid (obj_kept hb7 HX6.out)
  have HS3 := Lib.hid (obj_kept hb7 HS6.out)
  have HB3 := Lib.hid (below_step HB6.out hb7)
  have HL3 := Lib.hid hl7
  clear hb7 hl7
  go_upto_region 3 with fail
  have HBd := Lib.hid (below_step HB3.out (below_drew10w W3))
  have HStd := Lib.hid (HSt.out W3.drew (SlcAt.mono HA.out HBd.out))
  have c6 : W3.cell? ⟨b1, o1 + kb * 9 + 6, none⟩ = some (.bool xb.f) := (it_cells (HR.out.mono HB3.out)).2.2.2.2.2.2.1
  have c3 : W3.cell? ⟨Q, 3, none⟩ = some (.int .i64 s.bad) := Lib.cell_of_heap HS3.out 3
  have HBe := Lib.hid (below_step HB3.out (below_step (below_alloc W3 (.cells #[.int .i64 0, .int .i64 0, .slice none 0 0, .bool false, .int .i64 0, .int .i64 0] 44)) (below_drew10w _)))
  have HSte := Lib.hid (HSt.out ((W3.alloc (.cells #[.int .i64 0, .int .i64 0, .slice none 0 0, .bool false, .int .i64 0, .int .i64 0] 44)).drew) (SlcAt.mono HA.out HBe.out))
  have HXe := Lib.hid (obj_kept (below_drew10w _) (obj_kept (below_alloc W3 (.cells #[.int .i64 0, .int .i64 0, .slice none 0 0, .bool false, .int .i64 0, .int .i64 0] 44)) HX3.out))
  have HSe := Lib.hid (obj_kept (below_drew10w _) (obj_kept (below_alloc W3 (.cells #[.int .i64 0, .int .i64 0, .slice none 0 0, .bool false, .int .i64 0, .int .i64 0] 44)) HS3.out))
  have HLe := Lib.hid (OwnR.mono (OwnR.mono HL3.out (below_alloc W3 (.cells #[.int .i64 0, .int .i64 0, .slice none 0 0, .bool false, .int .i64 0, .int .i64 0] 44))) (below_drew10w _))
  have HPe := Lib.hid (obj_kept (below_drew10w _) (obj_new W3 _ rfl #[.int .i64 0, .int .i64 0, .slice none 0 0, .bool false, .int .i64 0, .int .i64 0] 44))
  have HPl2 : Hid (w.heap.size ≤ W3.heap.size) := Lib.hid HB3.out.size
  have HPn2 : Hid (P8 ≠ W3.heap.size) := Lib.hid (by have := lt_of_obj HX3.out; omega)
  have HPq2 : Hid (Q ≠ W3.heap.size) := Lib.hid (by have := lt_of_obj HS3.out; omega)
  have hSd : W3.drew.cell? ⟨b1, o1 + kb * 9 + 6, none⟩ = some (.bool xb.f) ∧ W3.drew.cell? ⟨Q, 3, none⟩ = some (.int .i64 s.bad) := ⟨c6, c3⟩
  have hSe : ((W3.alloc (.cells #[.int .i64 0, .int .i64 0, .slice none 0 0, .bool false, .int .i64 0, .int .i64 0] 44)).drew).cell? ⟨b1, o1 + kb * 9 + 6, none⟩ = some (.bool xb.f) ∧ ((W3.alloc (.cells #[.int .i64 0, .int .i64 0, .slice none 0 0, .bool false, .int .i64 0, .int .i64 0] 44)).drew).cell? ⟨Q, 3, none⟩ = some (.int .i64 s.bad) := ⟨(it_cells (HR.out.mono HBe.out)).2.2.2.2.2.2.1, Lib.cell_of_heap HSe.out 3⟩
  go_region_held3 (fun w' => w'.cell? ⟨b1, o1 + kb * 9 + 6, none⟩ = some (.bool xb.f) ∧ w'.cell? ⟨Q, 3, none⟩ = some (.int .i64 s.bad)) (first | (with_reducible exact hSd) | (with_reducible exact hSe) | (with_reducible exact hS4) | (with_reducible exact hS5) | go_keep) (first | ((with_reducible refine HStd.out.mono ?_); rintro e w4 ⟨rfl, hb4⟩; have HX4 := Lib.hid (obj_kept hb4 (obj_kept (below_drew10w W3) HX3.out)); have HS4 := Lib.hid (obj_kept hb4 (obj_kept (below_drew10w W3) HS3.out)); have HL4 := Lib.hid (OwnR.mono (OwnR.mono HL3.out (below_drew10w W3)) hb4); have HB4 := Lib.hid (below_step HBd.out hb4); have hS4 : w4.cell? ⟨b1, o1 + kb * 9 + 6, none⟩ = some (.bool xb.f) ∧ w4.cell? ⟨Q, 3, none⟩ = some (.int .i64 s.bad) := ⟨(it_cells (HR.out.mono HB4.out)).2.2.2.2.2.2.1, Lib.cell_of_heap HS4.out 3⟩; have hS5 : (w4.alloc (.cells #[.int .i64 (F : Int), .int .i64 (kb : Int), .slice none 0 0, .bool xb.f, .int .i64 0, .int .i64 s.bad] 44)).cell? ⟨b1, o1 + kb * 9 + 6, none⟩ = some (.bool xb.f) ∧ (w4.alloc (.cells #[.int .i64 (F : Int), .int .i64 (kb : Int), .slice none 0 0, .bool xb.f, .int .i64 0, .int .i64 s.bad] 44)).cell? ⟨Q, 3, none⟩ = some (.int .i64 s.bad) := ⟨(it_cells (HR.out.mono (below_step HB4.out (below_alloc _ _)))).2.2.2.2.2.2.1, Lib.cell_of_heap (obj_kept (below_alloc _ _) HS4.out) 3⟩; clear hb4) | ((with_reducible refine HSte.out.mono ?_); rintro e w4 ⟨rfl, hb4⟩; have HX4 := Lib.hid (obj_kept hb4 HXe.out); have HS4 := Lib.hid (obj_kept hb4 HSe.out); have HL4 := Lib.hid (OwnR.mono HLe.out hb4); have HB4 := Lib.hid (below_step HBe.out hb4); have HP4 := Lib.hid (obj_kept hb4 HPe.out); have cz0 := Lib.cell_of_heap HP4.out 0; have cz1 := Lib.cell_of_heap HP4.out 1; have cz2 := Lib.cell_of_heap HP4.out 2; have cz3 := Lib.cell_of_heap HP4.out 3; have cz4 := Lib.cell_of_heap HP4.out 4; have cz5 := Lib.cell_of_heap HP4.out 5; have fz0 := Lib.frozen_of_heap HP4.out 0; have fz1 := Lib.frozen_of_heap HP4.out 1; have fz2 := Lib.frozen_of_heap HP4.out 2; have fz3 := Lib.frozen_of_heap HP4.out 3; have fz4 := Lib.frozen_of_heap HP4.out 4; have fz5 := Lib.frozen_of_heap HP4.out 5; have HP5z := Lib.hid (six_set12 HP4.out rfl ⟨(F : Int), (kb : Int), none, 0, 0, xb.f, 0, s.bad⟩); have HG5z := Lib.hid (putLn_grown w4 W3.heap.size ⟨(F : Int), (kb : Int), none, 0, 0, xb.f, 0, s.bad⟩); have HX5z := Lib.hid (obj_far HX4.out HG5z.out (fun e => HPn2.out (Option.some.inj e))); have HS5z := Lib.hid (obj_far HS4.out HG5z.out (fun e => HPq2.out (Option.some.inj e))); have HL5z := Lib.hid (OwnR.grown HL4.out HG5z.out (.inr fun e => own_off9 HL4.out HP4.out (by decide) e.symm)); have HB5z := Lib.hid (HB4.out.grown HG5z.out HB4.out.size (fun j hj => by cases hj; exact HPl2.out)); have hS4 : w4.cell? ⟨b1, o1 + kb * 9 + 6, none⟩ = some (.bool xb.f) ∧ w4.cell? ⟨Q, 3, none⟩ = some (.int .i64 s.bad) := ⟨(it_cells (HR.out.mono HB4.out)).2.2.2.2.2.2.1, Lib.cell_of_heap HS4.out 3⟩; have hS5 : ((((((w4.setCell ⟨W3.heap.size, 0, none⟩ (.int .i64 (F : Int))).setCell ⟨W3.heap.size, 1, none⟩ (.int .i64 (kb : Int))).setCell ⟨W3.heap.size, 2, none⟩ (.slice none 0 0)).setCell ⟨W3.heap.size, 3, none⟩ (.bool xb.f)).setCell ⟨W3.heap.size, 4, none⟩ (.int .i64 0)).setCell ⟨W3.heap.size, 5, none⟩ (.int .i64 s.bad)).cell? ⟨b1, o1 + kb * 9 + 6, none⟩ = some (.bool xb.f) ∧ ((((((w4.setCell ⟨W3.heap.size, 0, none⟩ (.int .i64 (F : Int))).setCell ⟨W3.heap.size, 1, none⟩ (.int .i64 (kb : Int))).setCell ⟨W3.heap.size, 2, none⟩ (.slice none 0 0)).setCell ⟨W3.heap.size, 3, none⟩ (.bool xb.f)).setCell ⟨W3.heap.size, 4, none⟩ (.int .i64 0)).setCell ⟨W3.heap.size, 5, none⟩ (.int .i64 s.bad)).cell? ⟨Q, 3, none⟩ = some (.int .i64 s.bad) := ⟨(it_cells (HR.out.mono HB5z.out)).2.2.2.2.2.2.1, Lib.cell_of_heap HS5z.out 3⟩; clear hb4))
  · clear hSd hSe c6 c3
    have HB5 := Lib.hid (below_step HB4.out (below_alloc w4 (.cells (lineC (F : Int) (kb : Int) (.slice none 0 0) xb.f 0 s.bad) 44)))
    have HX5 := Lib.hid (obj_kept (below_alloc w4 (.cells (lineC (F : Int) (kb : Int) (.slice none 0 0) xb.f 0 s.bad) 44)) HX4.out)
    have HL5 := Lib.hid (OwnR.mono HL4.out (below_alloc w4 (.cells (lineC (F : Int) (kb : Int) (.slice none 0 0) xb.f 0 s.bad) 44)))
    have HP5 := Lib.hid (obj_new w4 _ rfl (lineC (F : Int) (kb : Int) (.slice none 0 0) xb.f 0 s.bad) 44)
    have HPl : Hid (w.heap.size ≤ w4.heap.size) := Lib.hid HB4.out.size
    have HPn : Hid (P8 ≠ w4.heap.size) := Lib.hid (by have := lt_of_obj HX4.out; omega)
    obtain ⟨W5, hW5⟩ : ∃ W5, W5 = w4.alloc (.cells (lineC (F : Int) (kb : Int) (.slice none 0 0) xb.f 0 s.bad) 44) := ⟨_, rfl⟩
    obtain ⟨P, hP⟩ : ∃ P, P = w4.heap.size := ⟨_, rfl⟩
    rw [← hW5] at HB5 HX5 HP5 HL5
    rw [← hP] at HP5 HPl HPn
    unfold lineC at hW5
    clear hS4 hS5
    go_upto_region 4 with fail
    rw [← hW5, ← hP]
    clear hW5 hP
    have HRj0 : Hid (∀ wx, W5.grownBy wx (some P) → ∀ j x, l[j]? = some x → RecAt wx b1 (o1 + j * 9) (itC x)) := Lib.hid (fun wx hg j x hx => (HRa.out j x hx).mono (HB5.out.grown hg HB5.out.size (fun q hq => by cases hq; exact HPl.out)))
    have HWs : Hid (∀ wx, W5.grownBy wx (some P) → LensAt wx (.slice pw ws.length cw) ws) := Lib.hid (fun wx hg => OwnR.at (OwnR.grown HL5.out hg (.inr fun e => own_off9 HL5.out HP5.out (by decide) e.symm)) inZ_len)
    obtain ⟨nw, hnw⟩ : ∃ nw, nw = ws.length := ⟨_, rfl⟩
    have Hnw := Lib.hid hnw
    have hzw : nw ≤ 9223372036854775807 := by
      have := (HWs.out W5 (World.grownBy.refl _ _)).2.1
      rw [← hnw] at this
      unfold maxLen at this
      omega
    rw [← hnw] at HWs ⊢
    clear hnw
    have p0 : W5.cell? ⟨P, 0, none⟩ = some (.int .i64 (F : Int)) := Lib.cell_of_heap HP5.out 0
    have H0 : Hid (∃ a n c, W5.heap[P]? = some (.cells (lineC (F : Int) (kb : Int) (.slice a n c) xb.f (It.lay ws (its.take (F - F))).2.2 s.bad) 44 (0, 0)) ∧ OwnP w.heap.size (.slice a n c) (It.lay ws (its.take (F - F))).2.1 W5 ∧ ∀ q, (Value.slice a n c).ownBlock = some q → W5.heap.size ≤ q) := Lib.hid (by rw [Nat.sub_self]; exact ⟨none, 0, 0, HP5.out, ownR_nil _ _ _ _ _, fun q hq => by cases hq⟩)
    have HG0 := Lib.hid (World.grownBy.refl W5 (some P))
    go_wp2_with fail
    go_loopw [14, 15] (fun nv jv wr => ∃ j : Nat, F ≤ j ∧ j ≤ kb ∧ jv = .int .i64 j ∧ nv = .int .i64 ((It.lay ws (its.take (j - F))).1 : Nat) ∧ Hid (∃ a n c, wr.heap[P]? = some (.cells (lineC (F : Int) (kb : Int) (.slice a n c) xb.f (It.lay ws (its.take (j - F))).2.2 s.bad) 44 (0, 0)) ∧ OwnP w.heap.size (.slice a n c) (It.lay ws (its.take (j - F))).2.1 wr ∧ ∀ q, (Value.slice a n c).ownBlock = some q → W5.heap.size ≤ q) ∧ Hid (W5.grownBy wr (some P))) (fun _ jv _ => kb - (intOf jv).toNat)
    case atStart => exact ⟨F, Nat.le_refl _, hF, rfl, by rw [Nat.sub_self]; rfl, H0, HG0⟩
    case round =>
      obtain ⟨j, hFj, hj, rfl, rfl, HRr, HG⟩ := hrel
      clear H0 HG0 p0
      by_cases hlt : j < kb
      · obtain ⟨x, hx⟩ : ∃ x, l[j]? = some x := ⟨_, List.getElem?_eq_getElem (by have := Hn.out; have := HK.out; omega)⟩
        have HRj := Lib.hid (fun wx hg => HRj0.out wx hg j x hx)
        have j0 : (0 : Int) ≤ (j : Int) := by omega
        have jl : (j : Int) < (n : Int) := by have := HK.out; omega
        have jk : (j : Int) < (kb : Int) := by omega
        have hxi := HIt.out j x hFj hlt hx
        have HS0 := It.lay_snoc ws hxi
        rw [show j - F + 1 = j + 1 - F by omega] at HS0
        have HS := Lib.hid HS0
        have HCn := Lib.hid (fun hg => lay_cnt (ws := ws) hxi hg HLw.out)
        have HLe5 := Lib.hid (lay_le (ws := ws) (l := its) (k := j - F) (by rw [HL2.out]; omega))
        have hkd := HKd.out j x hx
        obtain ⟨st0, hst⟩ : ∃ s, s = It.lay ws (its.take (j - F)) := ⟨_, rfl⟩
        rw [← hst] at HS HCn HLe5 HRr ⊢
        obtain ⟨m, bs, X⟩ := st0
        simp only [] at HCn HLe5 HRr ⊢
        clear hst hx hxi HS0
        obtain ⟨a, nbz, cb, hp0, ho0, hw0⟩ := HRr.out
        have HP1 := Lib.hid hp0
        have HO1 := Lib.hid ho0
        have HOw := Lib.hid hw0
        clear HRr hp0 ho0 hw0
        have hjk : IntKind.i64.wrap ((j : Int) + 1) = (j : Int) + 1 := It.wr_in (by have := HK.out; omega) (by have := HK.out; omega)
        rcases hkd with h0 | h1 | h2
        · have hg : It.gluey x = true := by unfold It.gluey; rw [decide_eq_true h0]; rfl
          have HE : Hid (It.lay ws (its.take (j + 1 - F)) = (m + 1, bs ++ [⟨x.n, x.q, X, x.g.w⟩], It.wr (X + ws.getD m 0))) := Lib.hid (by rw [HS.out]; unfold It.stp; rw [if_pos hg, if_pos h0])
          have hm := HCn.out hg
          have q0 : wr.cell? ⟨b1, o1 + j * 9, none⟩ = some (.int .i64 0) := by have := (it_cells (HRj.out _ HG.out)).1; rwa [h0] at this
          have q1 : wr.cell? ⟨b1, o1 + j * 9 + 1, none⟩ = some (.int .i64 x.g.w) := (it_cells (HRj.out _ HG.out)).2.1
          have q4 : wr.cell? ⟨b1, o1 + j * 9 + 7, none⟩ = some (.int .i64 x.n) := (it_cells (HRj.out _ HG.out)).2.2.2.2.2.2.2.1
          have q5 : wr.cell? ⟨b1, o1 + j * 9 + 8, none⟩ = some (.int .i64 x.q) := (it_cells (HRj.out _ HG.out)).2.2.2.2.2.2.2.2
          have c2 : wr.cell? ⟨P, 2, none⟩ = some (.slice a nbz cb) := Lib.cell_of_heap HP1.out 2
          have c4 : wr.cell? ⟨P, 4, none⟩ = some (.int .i64 X) := Lib.cell_of_heap HP1.out 4
          have hnb : bs.length = nbz := by
            obtain ⟨⟨_, _, e, _⟩, _⟩ := OwnR.at HO1.out pcC_len
            injection e with _ e _
            exact e.symm
          subst hnb
          have HE1 := Lib.hid (below_step (below_alloc wr (.cells #[.int .i64 x.n, .int .i64 x.q, .int .i64 X, .int .i64 x.g.w] 42)) (below_drew10w _))
          have HNw : Hid (∀ j u, [.int .i64 x.n, .int .i64 x.q, .int .i64 X, .int .i64 x.g.w][j]? = some u → ((wr.alloc (.cells #[.int .i64 x.n, .int .i64 x.q, .int .i64 X, .int .i64 x.g.w] 42)).drew).cell? ((⟨wr.heap.size, 0, none⟩ : Addr).add j) = some u) := Lib.hid (World.news_of_block (obj_kept (below_drew10w _) (obj_new wr _ rfl #[.int .i64 x.n, .int .i64 x.q, .int .i64 X, .int .i64 x.g.w] 42)))
          obtain ⟨iN, hiN, hN0, hN1, hN2⟩ := info_parts infoPc
          obtain ⟨WE, hWE⟩ : ∃ WE, WE = (wr.alloc (.cells #[.int .i64 x.n, .int .i64 x.q, .int .i64 X, .int .i64 x.g.w] 42)).drew := ⟨_, rfl⟩
          rw [← hWE] at HE1 HNw
          have HWE := Lib.hid hWE
          clear hWE
          have HOe5 := Lib.hid (OwnR.mono HO1.out HE1.out)
          have HPe5 := Lib.hid (obj_kept HE1.out HP1.out)
          have HGe := Lib.hid (grown_below12 HG.out HE1.out)
          have hbig : bs.length ≤ 2000 := by have := HK.out; have := HLe5.out; omega
          have hze : w.heap.size ≤ WE.heap.size := by have := HGe.out.size; have := HB5.out.size; omega
          have c2d : wr.drew.cell? ⟨P, 2, none⟩ = some (.slice a bs.length cb) := c2
          have c2e : WE.cell? ⟨P, 2, none⟩ = some (.slice a bs.length cb) := Lib.cell_of_heap HPe5.out 2
          go_upto_region 10 with fail
          refine wp_region_held_drew (S := fun w' : World => w'.cell? ⟨P, 4, none⟩ = some (.int .i64 X) ∧ w'.cell? ⟨b1, o1 + j * 9 + 1, none⟩ = some (.int .i64 x.g.w) ∧ w'.cell? ⟨b1, o1 + j * 9 + 7, none⟩ = some (.int .i64 x.n) ∧ w'.cell? ⟨b1, o1 + j * 9 + 8, none⟩ = some (.int .i64 x.q)) (by kernel_rfl) ?_ (fun hHeld => ?_)
          · exact ⟨c4, q1, q4, q5⟩
          refine take_op (i := 0) (d := 64) (op := Op.fieldAddr 44 (Operand.tmp 13) 2) (ty := 0) (v := (.pointer (some ⟨P, 2, none⟩))) (by kernel_rfl) (by kernel_rfl) (by kernel_rfl) (by kernel_rfl) (by kernel_rfl) (fun _ _ _ h => h) (fun wS hS => by clear hS; go_simp) hHeld ?_
          simp only [Act.put, List.setIfInBounds_toArray, List.set_cons_zero, List.set_cons_succ]
          refine take_op (i := 2) (d := 66) (op := Op.move (Operand.tmp 0)) (ty := 22) (v := (.slice (some ⟨b1, o1, none⟩) n cp)) (by kernel_rfl) (by kernel_rfl) (by kernel_rfl) (by kernel_rfl) (by kernel_rfl) (fun _ _ _ h => h) (fun wS hS => by clear hS; go_simp) hHeld ?_
          simp only [Act.put, List.setIfInBounds_toArray, List.set_cons_zero, List.set_cons_succ]
          refine take_op (i := 3) (d := 67) (op := Op.move (Operand.tmp 15)) (ty := 3) (v := (.int .i64 (j : Int))) (by kernel_rfl) (by kernel_rfl) (by kernel_rfl) (by kernel_rfl) (by kernel_rfl) (fun _ _ _ h => h) (fun wS hS => by clear hS; go_simp) hHeld ?_
          simp only [Act.put, List.setIfInBounds_toArray, List.set_cons_zero, List.set_cons_succ]
          refine take_op (i := 4) (d := 68) (op := Op.indexAddr 22 (Operand.tmp 66) (Operand.tmp 67)) (ty := 0) (v := (.pointer (some ⟨b1, o1 + j * 9, none⟩))) (by kernel_rfl) (by kernel_rfl) (by kernel_rfl) (by kernel_rfl) (by kernel_rfl) (fun _ _ _ h => h) (fun wS hS => by clear hS; go_simp) hHeld ?_
          simp only [Act.put, List.setIfInBounds_toArray, List.set_cons_zero, List.set_cons_succ]
          refine take_op (i := 5) (d := 69) (op := Op.fieldAddr 40 (Operand.tmp 68) 4) (ty := 0) (v := (.pointer (some ⟨b1, o1 + j * 9 + 7, none⟩))) (by kernel_rfl) (by kernel_rfl) (by kernel_rfl) (by kernel_rfl) (by kernel_rfl) (fun _ _ _ h => h) (fun wS hS => by clear hS; go_simp) hHeld ?_
          simp only [Act.put, List.setIfInBounds_toArray, List.set_cons_zero, List.set_cons_succ]
          refine take_op (i := 6) (d := 70) (op := Op.load 3 (Operand.tmp 69)) (ty := 3) (v := (.int .i64 x.n)) (by kernel_rfl) (by kernel_rfl) (by kernel_rfl) (by kernel_rfl) (by kernel_rfl) (fun _ _ _ h => h) (fun wS hS => by (try dsimp only at hS); have e0 := hS.1; have e1 := hS.2.1; have e2 := hS.2.2.1; have e3 := hS.2.2.2; clear hS; go_simp) hHeld ?_
          simp only [Act.put, List.setIfInBounds_toArray, List.set_cons_zero, List.set_cons_succ]
          refine take_op (i := 7) (d := 71) (op := Op.move (Operand.tmp 0)) (ty := 22) (v := (.slice (some ⟨b1, o1, none⟩) n cp)) (by kernel_rfl) (by kernel_rfl) (by kernel_rfl) (by kernel_rfl) (by kernel_rfl) (fun _ _ _ h => h) (fun wS hS => by clear hS; go_simp) hHeld ?_
          simp only [Act.put, List.setIfInBounds_toArray, List.set_cons_zero, List.set_cons_succ]
          refine take_op (i := 8) (d := 72) (op := Op.move (Operand.tmp 15)) (ty := 3) (v := (.int .i64 (j : Int))) (by kernel_rfl) (by kernel_rfl) (by kernel_rfl) (by kernel_rfl) (by kernel_rfl) (fun _ _ _ h => h) (fun wS hS => by clear hS; go_simp) hHeld ?_
          simp only [Act.put, List.setIfInBounds_toArray, List.set_cons_zero, List.set_cons_succ]
          refine take_op (i := 9) (d := 73) (op := Op.indexAddr 22 (Operand.tmp 71) (Operand.tmp 72)) (ty := 0) (v := (.pointer (some ⟨b1, o1 + j * 9, none⟩))) (by kernel_rfl) (by kernel_rfl) (by kernel_rfl) (by kernel_rfl) (by kernel_rfl) (fun _ _ _ h => h) (fun wS hS => by clear hS; go_simp) hHeld ?_
          simp only [Act.put, List.setIfInBounds_toArray, List.set_cons_zero, List.set_cons_succ]
          refine take_op (i := 10) (d := 74) (op := Op.fieldAddr 40 (Operand.tmp 73) 5) (ty := 0) (v := (.pointer (some ⟨b1, o1 + j * 9 + 8, none⟩))) (by kernel_rfl) (by kernel_rfl) (by kernel_rfl) (by kernel_rfl) (by kernel_rfl) (fun _ _ _ h => h) (fun wS hS => by clear hS; go_simp) hHeld ?_
          simp only [Act.put, List.setIfInBounds_toArray, List.set_cons_zero, List.set_cons_succ]
          refine take_op (i := 11) (d := 75) (op := Op.load 3 (Operand.tmp 74)) (ty := 3) (v := (.int .i64 x.q)) (by kernel_rfl) (by kernel_rfl) (by kernel_rfl) (by kernel_rfl) (by kernel_rfl) (fun _ _ _ h => h) (fun wS hS => by (try dsimp only at hS); have e0 := hS.1; have e1 := hS.2.1; have e2 := hS.2.2.1; have e3 := hS.2.2.2; clear hS; go_simp) hHeld ?_
          simp only [Act.put, List.setIfInBounds_toArray, List.set_cons_zero, List.set_cons_succ]
          refine take_op (i := 12) (d := 76) (op := Op.fieldAddr 44 (Operand.tmp 13) 4) (ty := 0) (v := (.pointer (some ⟨P, 4, none⟩))) (by kernel_rfl) (by kernel_rfl) (by kernel_rfl) (by kernel_rfl) (by kernel_rfl) (fun _ _ _ h => h) (fun wS hS => by clear hS; go_simp) hHeld ?_
          simp only [Act.put, List.setIfInBounds_toArray, List.set_cons_zero, List.set_cons_succ]
          refine take_op (i := 13) (d := 77) (op := Op.load 2 (Operand.tmp 76)) (ty := 2) (v := (.int .i64 X)) (by kernel_rfl) (by kernel_rfl) (by kernel_rfl) (by kernel_rfl) (by kernel_rfl) (fun _ _ _ h => h) (fun wS hS => by (try dsimp only at hS); have e0 := hS.1; have e1 := hS.2.1; have e2 := hS.2.2.1; have e3 := hS.2.2.2; clear hS; go_simp) hHeld ?_
          simp only [Act.put, List.setIfInBounds_toArray, List.set_cons_zero, List.set_cons_succ]
          refine take_op (i := 14) (d := 78) (op := Op.move (Operand.tmp 0)) (ty := 22) (v := (.slice (some ⟨b1, o1, none⟩) n cp)) (by kernel_rfl) (by kernel_rfl) (by kernel_rfl) (by kernel_rfl) (by kernel_rfl) (fun _ _ _ h => h) (fun wS hS => by clear hS; go_simp) hHeld ?_
          simp only [Act.put, List.setIfInBounds_toArray, List.set_cons_zero, List.set_cons_succ]
          refine take_op (i := 15) (d := 79) (op := Op.move (Operand.tmp 15)) (ty := 3) (v := (.int .i64 (j : Int))) (by kernel_rfl) (by kernel_rfl) (by kernel_rfl) (by kernel_rfl) (by kernel_rfl) (fun _ _ _ h => h) (fun wS hS => by clear hS; go_simp) hHeld ?_
          simp only [Act.put, List.setIfInBounds_toArray, List.set_cons_zero, List.set_cons_succ]
          refine take_op (i := 16) (d := 80) (op := Op.indexAddr 22 (Operand.tmp 78) (Operand.tmp 79)) (ty := 0) (v := (.pointer (some ⟨b1, o1 + j * 9, none⟩))) (by kernel_rfl) (by kernel_rfl) (by kernel_rfl) (by kernel_rfl) (by kernel_rfl) (fun _ _ _ h => h) (fun wS hS => by clear hS; go_simp) hHeld ?_
          simp only [Act.put, List.setIfInBounds_toArray, List.set_cons_zero, List.set_cons_succ]
          refine take_op (i := 17) (d := 81) (op := Op.fieldAddr 40 (Operand.tmp 80) 1) (ty := 0) (v := (.pointer (some ⟨b1, o1 + j * 9 + 1, none⟩))) (by kernel_rfl) (by kernel_rfl) (by kernel_rfl) (by kernel_rfl) (by kernel_rfl) (fun _ _ _ h => h) (fun wS hS => by clear hS; go_simp) hHeld ?_
          simp only [Act.put, List.setIfInBounds_toArray, List.set_cons_zero, List.set_cons_succ]
          refine take_op (i := 18) (d := 82) (op := Op.fieldAddr 38 (Operand.tmp 81) 0) (ty := 0) (v := (.pointer (some ⟨b1, o1 + j * 9 + 1, none⟩))) (by kernel_rfl) (by kernel_rfl) (by kernel_rfl) (by kernel_rfl) (by kernel_rfl) (fun _ _ _ h => h) (fun wS hS => by clear hS; go_simp) hHeld ?_
          simp only [Act.put, List.setIfInBounds_toArray, List.set_cons_zero, List.set_cons_succ]
          refine take_op (i := 19) (d := 83) (op := Op.load 2 (Operand.tmp 82)) (ty := 2) (v := (.int .i64 x.g.w)) (by kernel_rfl) (by kernel_rfl) (by kernel_rfl) (by kernel_rfl) (by kernel_rfl) (fun _ _ _ h => h) (fun wS hS => by (try dsimp only at hS); have e0 := hS.1; have e1 := hS.2.1; have e2 := hS.2.2.1; have e3 := hS.2.2.2; clear hS; go_simp) hHeld ?_
          simp only [Act.put, List.setIfInBounds_toArray, List.set_cons_zero, List.set_cons_succ]
          refine take_op (i := 20) (d := 84) (op := Op.build 42 #[(0, Operand.tmp 70), (1, Operand.tmp 75), (2, Operand.tmp 77), (3, Operand.tmp 83)]) (ty := 42) (v := (.agg #[.int .i64 x.n, .int .i64 x.q, .int .i64 X, .int .i64 x.g.w])) (by kernel_rfl) (by kernel_rfl) (by kernel_rfl) (by kernel_rfl) (by kernel_rfl) (fun _ _ _ h => h) (fun wS hS => by clear hS; go_simp) hHeld ?_
          simp only [Act.put, List.setIfInBounds_toArray, List.set_cons_zero, List.set_cons_succ]
          refine wpAnyH_ready (rs := [1, 21]) (by kernel_rfl) (by simp) ?_
          refine AllReadyH.cons rfl (fun K hK => ?_) (AllReadyH.cons rfl (fun K hK => ?_) AllReadyH.nil)
          · go_simp
            refine hK.out _ _ hHeld (fun _ => ?_)
            clear hK K
            refine wpAnyH_ready (rs := [21]) (by kernel_rfl) (by simp) ?_
            refine AllReadyH.cons rfl (fun K hK => ?_) AllReadyH.nil
            go_simp
            rw [← HWE.out]
            refine hK.out _ _ ⟨Lib.cell_of_heap HPe5.out 4, (it_cells (HRj.out _ HGe.out)).2.1, (it_cells (HRj.out _ HGe.out)).2.2.2.2.2.2.2.1, (it_cells (HRj.out _ HGe.out)).2.2.2.2.2.2.2.2⟩ (fun hHeld => ?_)
            clear hK K
            refine wpAnyH_ready (rs := [22]) (by kernel_rfl) (by simp) ?_
            refine AllReadyH.cons rfl (fun K hK => ?_) AllReadyH.nil
            refine step_append_lies _ (by rfl) _ _ _ (by rfl) w.heap.size 42 iN _ 4 32 Try.underlying33 hiN hN0 hN1 hN2 rfl (by decide) (.slice a bs.length cb) bs.length (bs.flatMap pcC) (by rfl) HOe5.out ⟨wr.heap.size, 0, none⟩ 1 1 [.int .i64 x.n, .int .i64 x.q, .int .i64 X, .int .i64 x.g.w] (by rfl) (by rfl) HNw.out (fun z hz => by simp at hz; rcases hz with rfl | rfl | rfl | rfl <;> rfl) (by omega) (by unfold maxLen; omega) (by omega) hze _ rfl ?_
            intro g9 cap9 w9 hown9 hgrow9 hat9 hlt9
            have HP9 := Lib.hid (obj_far HPe5.out hgrow9 (own_off9 HOe5.out HPe5.out (by decide)))
            have HG9 := Lib.hid (HGe.out.andThen hgrow9 (fun q hq => .inl (HOw.out q hq)))
            have HO9 : Hid (OwnP w.heap.size (.slice (some ⟨g9, 0, none⟩) (bs.length + 1) cap9) (bs ++ [⟨x.n, x.q, X, x.g.w⟩]) w9) := Lib.hid (by unfold OwnP OwnR; rw [List.length_append, List.flatMap_append]; exact hown9)
            have HOw9 : Hid (∀ q, (Value.slice (some ⟨g9, 0, none⟩) (bs.length + 1) cap9).ownBlock = some q → W5.heap.size ≤ q) := Lib.hid (fun q hq => by
              rcases hat9 with h | h
              · simp [Value.ownBlock] at hq; subst hq; exact HOw.out g9 h
              · simp [Value.ownBlock] at hq; subst hq; rw [h]; exact HGe.out.size)
            clear hown9 hgrow9 hat9 hlt9
            refine hK.out _ _ ⟨Lib.cell_of_heap HP9.out 4, (it_cells (HRj.out _ HG9.out)).2.1, (it_cells (HRj.out _ HG9.out)).2.2.2.2.2.2.2.1, (it_cells (HRj.out _ HG9.out)).2.2.2.2.2.2.2.2⟩ (fun hHeld => ?_)
            clear hK K
            simp only [Act.put, List.setIfInBounds_toArray, List.set_cons_zero, List.set_cons_succ]
            have c29 : w9.cell? ⟨P, 2, none⟩ = some (.slice a bs.length cb) := Lib.cell_of_heap HP9.out 2
            have f29 := Lib.frozen_of_heap HP9.out 2
            obtain ⟨WS, hWS⟩ : ∃ WS, WS = w9.setCell ⟨P, 2, none⟩ (.slice (some ⟨g9, 0, none⟩) (bs.length + 1) cap9) := ⟨_, rfl⟩
            have HPs : Hid (WS.heap[P]? = some (.cells (lineC (F : Int) (kb : Int) (.slice (some ⟨g9, 0, none⟩) (bs.length + 1) cap9) xb.f X s.bad) 44 (0, 0))) := Lib.hid (by rw [hWS]; exact heap_setCell_same _ _ 2 _ _ _ HP9.out)
            have HOs := Lib.hid (own_setP (i := 2) (y := .slice (some ⟨g9, 0, none⟩) (bs.length + 1) cap9) HO9.out HP9.out)
            have HGs := Lib.hid (grown_set12 (i := 2) (y := .slice (some ⟨g9, 0, none⟩) (bs.length + 1) cap9) HG9.out)
            have HOws := HOw9
            rw [← hWS] at HOs HGs
            refine take_op (i := 23) (d := 87) (op := Op.fieldAddr 44 (Operand.tmp 13) 2) (ty := 0) (v := (.pointer (some ⟨P, 2, none⟩))) (by kernel_rfl) (by kernel_rfl) (by kernel_rfl) (by kernel_rfl) (by kernel_rfl) (fun _ _ _ h => h) (fun wS hS => by clear hS; go_simp) hHeld ?_
            simp only [Act.put, List.setIfInBounds_toArray, List.set_cons_zero, List.set_cons_succ]
            refine wpAnyH_ready (rs := [24]) (by kernel_rfl) (by simp) ?_
            refine AllReadyH.cons rfl (fun K hK => ?_) AllReadyH.nil
            go_simp
            rw [← hWS]
            refine hK.out _ _ ⟨Lib.cell_of_heap HPs.out 4, (it_cells (HRj.out _ HGs.out)).2.1, (it_cells (HRj.out _ HGs.out)).2.2.2.2.2.2.2.1, (it_cells (HRj.out _ HGs.out)).2.2.2.2.2.2.2.2⟩ (fun _ => ?_)
            clear hK K hWS c29 f29
            refine wpAnyH_done (by kernel_rfl) ?_ _
            clear c2 c4 q1 q4 q5 hze c2d
            obtain ⟨bw, ow, dw, ew, rw0⟩ := (HWs.out _ HGs.out).2.2 (by omega)
            rw [← Hnw.out] at ew
            obtain ⟨rfl, rfl⟩ : pw = some ⟨bw, ow, none⟩ ∧ cw = dw := by injection ew with a1 a2 a3; exact ⟨a1, a3⟩
            obtain ⟨y, hyw⟩ : ∃ y, ws[m]? = some y := ⟨_, List.getElem?_eq_getElem hm⟩
            have hget : ws.getD m 0 = y := by rw [List.getD_eq_getElem?_getD, hyw]; rfl
            have cy : WS.cell? ⟨bw, ow + m, none⟩ = some (.int .i64 y) := by have := rw0 m y hyw 0 _ rfl; rwa [Nat.mul_one, Nat.add_zero] at this
            have c4 : WS.cell? ⟨P, 4, none⟩ = some (.int .i64 X) := Lib.cell_of_heap HPs.out 4
            have f4 := Lib.frozen_of_heap HPs.out 4
            have m0 : (0 : Int) ≤ (m : Int) := by omega
            have ml : (m : Int) < (nw : Int) := by have := Hnw.out; omega
            have hwr : IntKind.i64.wrap (X + y) = It.wr (X + y) := rfl
            rw [hget] at HE
            have HPd := Lib.hid (obj_kept (below_drew10w WS) HPs.out)
            have HPf : Hid ((WS.drew.setCell ⟨P, 4, none⟩ (.int .i64 (It.wr (X + y)))).heap[P]? = some (.cells (lineC (F : Int) (kb : Int) (.slice (some ⟨g9, 0, none⟩) (bs.length + 1) cap9) xb.f (It.wr (X + y)) s.bad) 44 (0, 0))) := Lib.hid (heap_setCell_same _ _ 4 _ _ _ HPd.out)
            have HOf := Lib.hid (own_setP (i := 4) (y := .int .i64 (It.wr (X + y))) (OwnR.mono HOs.out (below_drew10w WS)) HPd.out)
            have HGf := Lib.hid (grown_set12 (i := 4) (y := .int .i64 (It.wr (X + y))) (grown_drew12 HGs.out))
            have hk2 := HK.out.2
            obtain ⟨hl1, hl2⟩ := HLe5.out
            clear ew rw0 hyw hget
            go_upto_region 11 with fail
            go_region
            all_goals (
              go_wp2
              go_roundw
              case rel => exact ⟨j + 1, by omega, by omega, by go_num, by rw [HE.out]; go_num, by rw [HE.out]; exact Lib.hid ⟨_, _, _, HPf.out, HOf.out, HOws.out⟩, HGf⟩
              case measure => simp [intOf]; omega)
          · go_simp
            rw [← HWE.out]
            refine hK.out _ _ ⟨Lib.cell_of_heap HPe5.out 4, (it_cells (HRj.out _ HGe.out)).2.1, (it_cells (HRj.out _ HGe.out)).2.2.2.2.2.2.2.1, (it_cells (HRj.out _ HGe.out)).2.2.2.2.2.2.2.2⟩ (fun hHeld => ?_)
            clear hK K
            refine wpAnyH_ready (rs := [1]) (by kernel_rfl) (by simp) ?_
            refine AllReadyH.cons rfl (fun K hK => ?_) AllReadyH.nil
            go_simp
            refine hK.out _ _ hHeld (fun _ => ?_)
            clear hK K
            refine wpAnyH_ready (rs := [22]) (by kernel_rfl) (by simp) ?_
            refine AllReadyH.cons rfl (fun K hK => ?_) AllReadyH.nil
            refine step_append_lies _ (by rfl) _ _ _ (by rfl) w.heap.size 42 iN _ 4 32 Try.underlying33 hiN hN0 hN1 hN2 rfl (by decide) (.slice a bs.length cb) bs.length (bs.flatMap pcC) (by rfl) HOe5.out ⟨wr.heap.size, 0, none⟩ 1 1 [.int .i64 x.n, .int .i64 x.q, .int .i64 X, .int .i64 x.g.w] (by rfl) (by rfl) HNw.out (fun z hz => by simp at hz; rcases hz with rfl | rfl | rfl | rfl <;> rfl) (by omega) (by unfold maxLen; omega) (by omega) hze _ rfl ?_
            intro g9 cap9 w9 hown9 hgrow9 hat9 hlt9
            have HP9 := Lib.hid (obj_far HPe5.out hgrow9 (own_off9 HOe5.out HPe5.out (by decide)))
            have HG9 := Lib.hid (HGe.out.andThen hgrow9 (fun q hq => .inl (HOw.out q hq)))
            have HO9 : Hid (OwnP w.heap.size (.slice (some ⟨g9, 0, none⟩) (bs.length + 1) cap9) (bs ++ [⟨x.n, x.q, X, x.g.w⟩]) w9) := Lib.hid (by unfold OwnP OwnR; rw [List.length_append, List.flatMap_append]; exact hown9)
            have HOw9 : Hid (∀ q, (Value.slice (some ⟨g9, 0, none⟩) (bs.length + 1) cap9).ownBlock = some q → W5.heap.size ≤ q) := Lib.hid (fun q hq => by
              rcases hat9 with h | h
              · simp [Value.ownBlock] at hq; subst hq; exact HOw.out g9 h
              · simp [Value.ownBlock] at hq; subst hq; rw [h]; exact HGe.out.size)
            clear hown9 hgrow9 hat9 hlt9
            refine hK.out _ _ ⟨Lib.cell_of_heap HP9.out 4, (it_cells (HRj.out _ HG9.out)).2.1, (it_cells (HRj.out _ HG9.out)).2.2.2.2.2.2.2.1, (it_cells (HRj.out _ HG9.out)).2.2.2.2.2.2.2.2⟩ (fun hHeld => ?_)
            clear hK K
            simp only [Act.put, List.setIfInBounds_toArray, List.set_cons_zero, List.set_cons_succ]
            have c29 : w9.cell? ⟨P, 2, none⟩ = some (.slice a bs.length cb) := Lib.cell_of_heap HP9.out 2
            have f29 := Lib.frozen_of_heap HP9.out 2
            obtain ⟨WS, hWS⟩ : ∃ WS, WS = w9.setCell ⟨P, 2, none⟩ (.slice (some ⟨g9, 0, none⟩) (bs.length + 1) cap9) := ⟨_, rfl⟩
            have HPs : Hid (WS.heap[P]? = some (.cells (lineC (F : Int) (kb : Int) (.slice (some ⟨g9, 0, none⟩) (bs.length + 1) cap9) xb.f X s.bad) 44 (0, 0))) := Lib.hid (by rw [hWS]; exact heap_setCell_same _ _ 2 _ _ _ HP9.out)
            have HOs := Lib.hid (own_setP (i := 2) (y := .slice (some ⟨g9, 0, none⟩) (bs.length + 1) cap9) HO9.out HP9.out)
            have HGs := Lib.hid (grown_set12 (i := 2) (y := .slice (some ⟨g9, 0, none⟩) (bs.length + 1) cap9) HG9.out)
            have HOws := HOw9
            rw [← hWS] at HOs HGs
            refine take_op (i := 23) (d := 87) (op := Op.fieldAddr 44 (Operand.tmp 13) 2) (ty := 0) (v := (.pointer (some ⟨P, 2, none⟩))) (by kernel_rfl) (by kernel_rfl) (by kernel_rfl) (by kernel_rfl) (by kernel_rfl) (fun _ _ _ h => h) (fun wS hS => by clear hS; go_simp) hHeld ?_
            simp only [Act.put, List.setIfInBounds_toArray, List.set_cons_zero, List.set_cons_succ]
            refine wpAnyH_ready (rs := [24]) (by kernel_rfl) (by simp) ?_
            refine AllReadyH.cons rfl (fun K hK => ?_) AllReadyH.nil
            go_simp
            rw [← hWS]
            refine hK.out _ _ ⟨Lib.cell_of_heap HPs.out 4, (it_cells (HRj.out _ HGs.out)).2.1, (it_cells (HRj.out _ HGs.out)).2.2.2.2.2.2.2.1, (it_cells (HRj.out _ HGs.out)).2.2.2.2.2.2.2.2⟩ (fun _ => ?_)
            clear hK K hWS c29 f29
            refine wpAnyH_done (by kernel_rfl) ?_ _
            clear c2 c4 q1 q4 q5 hze c2d
            obtain ⟨bw, ow, dw, ew, rw0⟩ := (HWs.out _ HGs.out).2.2 (by omega)
            rw [← Hnw.out] at ew
            obtain ⟨rfl, rfl⟩ : pw = some ⟨bw, ow, none⟩ ∧ cw = dw := by injection ew with a1 a2 a3; exact ⟨a1, a3⟩
            obtain ⟨y, hyw⟩ : ∃ y, ws[m]? = some y := ⟨_, List.getElem?_eq_getElem hm⟩
            have hget : ws.getD m 0 = y := by rw [List.getD_eq_getElem?_getD, hyw]; rfl
            have cy : WS.cell? ⟨bw, ow + m, none⟩ = some (.int .i64 y) := by have := rw0 m y hyw 0 _ rfl; rwa [Nat.mul_one, Nat.add_zero] at this
            have c4 : WS.cell? ⟨P, 4, none⟩ = some (.int .i64 X) := Lib.cell_of_heap HPs.out 4
            have f4 := Lib.frozen_of_heap HPs.out 4
            have m0 : (0 : Int) ≤ (m : Int) := by omega
            have ml : (m : Int) < (nw : Int) := by have := Hnw.out; omega
            have hwr : IntKind.i64.wrap (X + y) = It.wr (X + y) := rfl
            rw [hget] at HE
            have HPd := Lib.hid (obj_kept (below_drew10w WS) HPs.out)
            have HPf : Hid ((WS.drew.setCell ⟨P, 4, none⟩ (.int .i64 (It.wr (X + y)))).heap[P]? = some (.cells (lineC (F : Int) (kb : Int) (.slice (some ⟨g9, 0, none⟩) (bs.length + 1) cap9) xb.f (It.wr (X + y)) s.bad) 44 (0, 0))) := Lib.hid (heap_setCell_same _ _ 4 _ _ _ HPd.out)
            have HOf := Lib.hid (own_setP (i := 4) (y := .int .i64 (It.wr (X + y))) (OwnR.mono HOs.out (below_drew10w WS)) HPd.out)
            have HGf := Lib.hid (grown_set12 (i := 4) (y := .int .i64 (It.wr (X + y))) (grown_drew12 HGs.out))
            have hk2 := HK.out.2
            obtain ⟨hl1, hl2⟩ := HLe5.out
            clear ew rw0 hyw hget
            go_upto_region 11 with fail
            go_region
            all_goals (
              go_wp2
              go_roundw
              case rel => exact ⟨j + 1, by omega, by omega, by go_num, by rw [HE.out]; go_num, by rw [HE.out]; exact Lib.hid ⟨_, _, _, HPf.out, HOf.out, HOws.out⟩, HGf⟩
              case measure => simp [intOf]; omega)
        · have hg : It.gluey x = true := by unfold It.gluey; rw [decide_eq_true h1]; simp
          have h0 : ¬ x.k = 0 := by omega
          have HE : Hid (It.lay ws (its.take (j + 1 - F)) = (m + 1, bs, It.wr (X + ws.getD m 0))) := Lib.hid (by rw [HS.out]; unfold It.stp; rw [if_pos hg, if_neg h0])
          have hm := HCn.out hg
          have q0 : wr.cell? ⟨b1, o1 + j * 9, none⟩ = some (.int .i64 1) := by have := (it_cells (HRj.out _ HG.out)).1; rwa [h1] at this
          obtain ⟨WS, hWS⟩ : ∃ WS, WS = wr := ⟨_, rfl⟩
          rw [← hWS] at q0 HP1 HO1 HG ⊢
          clear hWS
          have HPs := HP1
          have HOs := HO1
          have HOws := HOw
          have HGs := HG
          obtain ⟨bw, ow, dw, ew, rw0⟩ := (HWs.out _ HGs.out).2.2 (by omega)
          rw [← Hnw.out] at ew
          obtain ⟨rfl, rfl⟩ : pw = some ⟨bw, ow, none⟩ ∧ cw = dw := by injection ew with a1 a2 a3; exact ⟨a1, a3⟩
          obtain ⟨y, hyw⟩ : ∃ y, ws[m]? = some y := ⟨_, List.getElem?_eq_getElem hm⟩
          have hget : ws.getD m 0 = y := by rw [List.getD_eq_getElem?_getD, hyw]; rfl
          have cy : WS.cell? ⟨bw, ow + m, none⟩ = some (.int .i64 y) := by have := rw0 m y hyw 0 _ rfl; rwa [Nat.mul_one, Nat.add_zero] at this
          have c4 : WS.cell? ⟨P, 4, none⟩ = some (.int .i64 X) := Lib.cell_of_heap HPs.out 4
          have f4 := Lib.frozen_of_heap HPs.out 4
          have m0 : (0 : Int) ≤ (m : Int) := by omega
          have ml : (m : Int) < (nw : Int) := by have := Hnw.out; omega
          have hwr : IntKind.i64.wrap (X + y) = It.wr (X + y) := rfl
          rw [hget] at HE
          have HPd := Lib.hid (obj_kept (below_drew10w WS) HPs.out)
          have HPf : Hid ((WS.drew.setCell ⟨P, 4, none⟩ (.int .i64 (It.wr (X + y)))).heap[P]? = some (.cells (lineC (F : Int) (kb : Int) (.slice a nbz cb) xb.f (It.wr (X + y)) s.bad) 44 (0, 0))) := Lib.hid (heap_setCell_same _ _ 4 _ _ _ HPd.out)
          have HOf := Lib.hid (own_setP (i := 4) (y := .int .i64 (It.wr (X + y))) (OwnR.mono HOs.out (below_drew10w WS)) HPd.out)
          have HGf := Lib.hid (grown_set12 (i := 4) (y := .int .i64 (It.wr (X + y))) (grown_drew12 HGs.out))
          have hk2 := HK.out.2
          obtain ⟨hl1, hl2⟩ := HLe5.out
          clear ew rw0 hyw hget
          go_upto_region 11 with fail
          go_region
          all_goals (
            go_wp2
            go_roundw
            case rel => exact ⟨j + 1, by omega, by omega, by go_num, by rw [HE.out]; go_num, by rw [HE.out]; exact Lib.hid ⟨_, _, _, HPf.out, HOf.out, HOws.out⟩, HGf⟩
            case measure => simp [intOf]; omega)
        · have hg : It.gluey x = false := by unfold It.gluey; rw [decide_eq_false (show ¬ x.k = 0 by omega), decide_eq_false (show ¬ x.k = 1 by omega)]; rfl
          have HE : Hid (It.lay ws (its.take (j + 1 - F)) = (m, bs, X)) := Lib.hid (by rw [HS.out]; unfold It.stp; rw [if_neg (by rw [hg]; decide)])
          have q0 : wr.cell? ⟨b1, o1 + j * 9, none⟩ = some (.int .i64 2) := by have := (it_cells (HRj.out _ HG.out)).1; rwa [h2] at this
          have hk2 := HK.out.2
          go_wp2
          go_roundw
          case rel => exact ⟨j + 1, by omega, by omega, by go_num, by rw [HE.out], by rw [HE.out]; exact Lib.hid ⟨a, nbz, cb, HP1.out, HO1.out, HOw.out⟩, HG⟩
          case measure => simp [intOf]; omega
      · obtain rfl : j = kb := by omega
        have HE : Hid (its.take (j - F) = its) := Lib.hid (List.take_of_length_le (by rw [HL2.out]; exact Nat.le_refl _))
        rw [HE.out] at HRr
        obtain ⟨a8, n8, c8, hp8, ho8, _⟩ := HRr.out
        have HX8 := Lib.hid (obj_far HX5.out HG.out (fun e => HPn.out (Option.some.inj e)))
        have HP8 := Lib.hid hp8
        have HO8 := Lib.hid ho8
        have HB8 := Lib.hid (HB5.out.grown HG.out HB5.out.size (fun j hj => by cases hj; exact HPl.out))
        clear hp8 ho8 HRr
        have p0 := Lib.cell_of_heap HP8.out 0
        have p1 := Lib.cell_of_heap HP8.out 1
        have p2 := Lib.cell_of_heap HP8.out 2
        have p3 := Lib.cell_of_heap HP8.out 3
        have p4 := Lib.cell_of_heap HP8.out 4
        have p5 := Lib.cell_of_heap HP8.out 5
        unfold lineC at p0 p1 p2 p3 p4 p5
        have q0 := Lib.cell_of_heap HX8.out 0
        have q1 := Lib.cell_of_heap HX8.out 1
        have q2 := Lib.cell_of_heap HX8.out 2
        have q3 := Lib.cell_of_heap HX8.out 3
        have q4 := Lib.cell_of_heap HX8.out 4
        have q5 := Lib.cell_of_heap HX8.out 5
        have f0 := Lib.frozen_of_heap HX8.out 0
        have f1 := Lib.frozen_of_heap HX8.out 1
        have f2 := Lib.frozen_of_heap HX8.out 2
        have f3 := Lib.frozen_of_heap HX8.out 3
        have f4 := Lib.frozen_of_heap HX8.out 4
        have f5 := Lib.frozen_of_heap HX8.out 5
        have H6 := Lib.hid (six_set12 HX8.out rfl ⟨(F : Int), (j : Int), a8, n8, c8, xb.f, (It.lay ws its).2.2, s.bad⟩)
        have HGx := Lib.hid (putLn_grown wr P8 ⟨(F : Int), (j : Int), a8, n8, c8, xb.f, (It.lay ws its).2.2, s.bad⟩)
        have HY : Hid (LinOwn w.heap.size wr ⟨(F : Int), (j : Int), a8, n8, c8, xb.f, (It.lay ws its).2.2, s.bad⟩ ⟨(F : Int), (j : Int), (It.lay ws its).2.1, It.flagN l j, (It.lay ws its).2.2, s.bad⟩) := Lib.hid ⟨rfl, rfl, HO8.out, HFl.out.symm, rfl, rfl⟩
        have HZ := Lib.hid (HY.out.grown HGx.out (.inr fun e => own_off9 HY.out.bs HX8.out (by decide) e.symm))
        have HBz := Lib.hid (HB8.out.grown HGx.out HB8.out.size (fun j hj => by cases hj; rw [HPw.out]; exact Nat.le_refl _))
        clear HY HGx
        unfold putLn at H6 HZ HBz
        simp only [] at H6 HZ HBz
        go_wp2
        obtain ⟨WX, hWX⟩ : ∃ WX, WX = (((((wr.setCell ⟨P8, 0, none⟩ (.int .i64 (F : Int))).setCell ⟨P8, 1, none⟩ (.int .i64 (j : Int))).setCell ⟨P8, 2, none⟩ (.slice a8 n8 c8)).setCell ⟨P8, 3, none⟩ (.bool xb.f)).setCell ⟨P8, 4, none⟩ (.int .i64 (It.lay ws its).2.2)).setCell ⟨P8, 5, none⟩ (.int .i64 s.bad) := ⟨_, rfl⟩
        rw [← hWX] at H6 HZ HBz ⊢
        clear hWX q0 q1 q2 q3 q4 q5
        have q0 := Lib.cell_of_heap H6.out 0
        have q1 := Lib.cell_of_heap H6.out 1
        have q2 := Lib.cell_of_heap H6.out 2
        have q3 := Lib.cell_of_heap H6.out 3
        have q4 := Lib.cell_of_heap H6.out 4
        have q5 := Lib.cell_of_heap H6.out 5
        exact bodyPost_ret (v := .agg #[.int .i64 (F : Int), .int .i64 (j : Int), .slice a8 n8 c8, .bool xb.f, .int .i64 (It.lay ws its).2.2, .int .i64 s.bad]) (by simp [results, Try.results21, go_sem, q0, q1, q2, q3, q4, q5]) rfl ⟨_, rfl, HZ.out, HBz.out⟩
  · clear hSd hSe c6 c3
    have HPl := HPl2
    have HPn := HPn2
    have HB5 := HB5z
    have HX5 := HX5z
    have HL5 := HL5z
    have HP5 : Hid ((putLn w4 W3.heap.size ⟨(F : Int), (kb : Int), none, 0, 0, xb.f, 0, s.bad⟩).heap[W3.heap.size]? = some (.cells (lineC (F : Int) (kb : Int) (.slice none 0 0) xb.f 0 s.bad) 44 (0, 0))) := HP5z
    obtain ⟨W5, hW5⟩ : ∃ W5, W5 = putLn w4 W3.heap.size ⟨(F : Int), (kb : Int), none, 0, 0, xb.f, 0, s.bad⟩ := ⟨_, rfl⟩
    rw [← hW5] at HB5 HX5 HP5 HL5
    unfold putLn at hW5
    simp only [] at hW5
    clear cz0 cz1 cz2 cz3 cz4 cz5 fz0 fz1 fz2 fz3 fz4 fz5 hS4 hS5
    go_upto_region 4 with fail
    rw [← hW5]
    clear hW5 HP4 HP5z HG5z HX5z HS5z HB5z HL5z HPq2 HPl2 HPn2
    obtain ⟨P, hP⟩ : ∃ P, P = W3.heap.size := ⟨_, rfl⟩
    rw [← hP] at HP5 HPl HPn ⊢
    clear hP
    have HRj0 : Hid (∀ wx, W5.grownBy wx (some P) → ∀ j x, l[j]? = some x → RecAt wx b1 (o1 + j * 9) (itC x)) := Lib.hid (fun wx hg j x hx => (HRa.out j x hx).mono (HB5.out.grown hg HB5.out.size (fun q hq => by cases hq; exact HPl.out)))
    have HWs : Hid (∀ wx, W5.grownBy wx (some P) → LensAt wx (.slice pw ws.length cw) ws) := Lib.hid (fun wx hg => OwnR.at (OwnR.grown HL5.out hg (.inr fun e => own_off9 HL5.out HP5.out (by decide) e.symm)) inZ_len)
    obtain ⟨nw, hnw⟩ : ∃ nw, nw = ws.length := ⟨_, rfl⟩
    have Hnw := Lib.hid hnw
    have hzw : nw ≤ 9223372036854775807 := by
      have := (HWs.out W5 (World.grownBy.refl _ _)).2.1
      rw [← hnw] at this
      unfold maxLen at this
      omega
    rw [← hnw] at HWs ⊢
    clear hnw
    have p0 : W5.cell? ⟨P, 0, none⟩ = some (.int .i64 (F : Int)) := Lib.cell_of_heap HP5.out 0
    have H0 : Hid (∃ a n c, W5.heap[P]? = some (.cells (lineC (F : Int) (kb : Int) (.slice a n c) xb.f (It.lay ws (its.take (F - F))).2.2 s.bad) 44 (0, 0)) ∧ OwnP w.heap.size (.slice a n c) (It.lay ws (its.take (F - F))).2.1 W5 ∧ ∀ q, (Value.slice a n c).ownBlock = some q → W5.heap.size ≤ q) := Lib.hid (by rw [Nat.sub_self]; exact ⟨none, 0, 0, HP5.out, ownR_nil _ _ _ _ _, fun q hq => by cases hq⟩)
    have HG0 := Lib.hid (World.grownBy.refl W5 (some P))
    go_wp2_with fail
    go_loopw [14, 15] (fun nv jv wr => ∃ j : Nat, F ≤ j ∧ j ≤ kb ∧ jv = .int .i64 j ∧ nv = .int .i64 ((It.lay ws (its.take (j - F))).1 : Nat) ∧ Hid (∃ a n c, wr.heap[P]? = some (.cells (lineC (F : Int) (kb : Int) (.slice a n c) xb.f (It.lay ws (its.take (j - F))).2.2 s.bad) 44 (0, 0)) ∧ OwnP w.heap.size (.slice a n c) (It.lay ws (its.take (j - F))).2.1 wr ∧ ∀ q, (Value.slice a n c).ownBlock = some q → W5.heap.size ≤ q) ∧ Hid (W5.grownBy wr (some P))) (fun _ jv _ => kb - (intOf jv).toNat)
    case atStart => exact ⟨F, Nat.le_refl _, hF, rfl, by rw [Nat.sub_self]; rfl, H0, HG0⟩
    case round =>
      obtain ⟨j, hFj, hj, rfl, rfl, HRr, HG⟩ := hrel
      clear H0 HG0 p0
      by_cases hlt : j < kb
      · obtain ⟨x, hx⟩ : ∃ x, l[j]? = some x := ⟨_, List.getElem?_eq_getElem (by have := Hn.out; have := HK.out; omega)⟩
        have HRj := Lib.hid (fun wx hg => HRj0.out wx hg j x hx)
        have j0 : (0 : Int) ≤ (j : Int) := by omega
        have jl : (j : Int) < (n : Int) := by have := HK.out; omega
        have jk : (j : Int) < (kb : Int) := by omega
        have hxi := HIt.out j x hFj hlt hx
        have HS0 := It.lay_snoc ws hxi
        rw [show j - F + 1 = j + 1 - F by omega] at HS0
        have HS := Lib.hid HS0
        have HCn := Lib.hid (fun hg => lay_cnt (ws := ws) hxi hg HLw.out)
        have HLe5 := Lib.hid (lay_le (ws := ws) (l := its) (k := j - F) (by rw [HL2.out]; omega))
        have hkd := HKd.out j x hx
        obtain ⟨st0, hst⟩ : ∃ s, s = It.lay ws (its.take (j - F)) := ⟨_, rfl⟩
        rw [← hst] at HS HCn HLe5 HRr ⊢
        obtain ⟨m, bs, X⟩ := st0
        simp only [] at HCn HLe5 HRr ⊢
        clear hst hx hxi HS0
        obtain ⟨a, nbz, cb, hp0, ho0, hw0⟩ := HRr.out
        have HP1 := Lib.hid hp0
        have HO1 := Lib.hid ho0
        have HOw := Lib.hid hw0
        clear HRr hp0 ho0 hw0
        have hjk : IntKind.i64.wrap ((j : Int) + 1) = (j : Int) + 1 := It.wr_in (by have := HK.out; omega) (by have := HK.out; omega)
        rcases hkd with h0 | h1 | h2
        · have hg : It.gluey x = true := by unfold It.gluey; rw [decide_eq_true h0]; rfl
          have HE : Hid (It.lay ws (its.take (j + 1 - F)) = (m + 1, bs ++ [⟨x.n, x.q, X, x.g.w⟩], It.wr (X + ws.getD m 0))) := Lib.hid (by rw [HS.out]; unfold It.stp; rw [if_pos hg, if_pos h0])
          have hm := HCn.out hg
          have q0 : wr.cell? ⟨b1, o1 + j * 9, none⟩ = some (.int .i64 0) := by have := (it_cells (HRj.out _ HG.out)).1; rwa [h0] at this
          have q1 : wr.cell? ⟨b1, o1 + j * 9 + 1, none⟩ = some (.int .i64 x.g.w) := (it_cells (HRj.out _ HG.out)).2.1
          have q4 : wr.cell? ⟨b1, o1 + j * 9 + 7, none⟩ = some (.int .i64 x.n) := (it_cells (HRj.out _ HG.out)).2.2.2.2.2.2.2.1
          have q5 : wr.cell? ⟨b1, o1 + j * 9 + 8, none⟩ = some (.int .i64 x.q) := (it_cells (HRj.out _ HG.out)).2.2.2.2.2.2.2.2
          have c2 : wr.cell? ⟨P, 2, none⟩ = some (.slice a nbz cb) := Lib.cell_of_heap HP1.out 2
          have c4 : wr.cell? ⟨P, 4, none⟩ = some (.int .i64 X) := Lib.cell_of_heap HP1.out 4
          have hnb : bs.length = nbz := by
            obtain ⟨⟨_, _, e, _⟩, _⟩ := OwnR.at HO1.out pcC_len
            injection e with _ e _
            exact e.symm
          subst hnb
          have HE1 := Lib.hid (below_step (below_alloc wr (.cells #[.int .i64 x.n, .int .i64 x.q, .int .i64 X, .int .i64 x.g.w] 42)) (below_drew10w _))
          have HNw : Hid (∀ j u, [.int .i64 x.n, .int .i64 x.q, .int .i64 X, .int .i64 x.g.w][j]? = some u → ((wr.alloc (.cells #[.int .i64 x.n, .int .i64 x.q, .int .i64 X, .int .i64 x.g.w] 42)).drew).cell? ((⟨wr.heap.size, 0, none⟩ : Addr).add j) = some u) := Lib.hid (World.news_of_block (obj_kept (below_drew10w _) (obj_new wr _ rfl #[.int .i64 x.n, .int .i64 x.q, .int .i64 X, .int .i64 x.g.w] 42)))
          obtain ⟨iN, hiN, hN0, hN1, hN2⟩ := info_parts infoPc
          obtain ⟨WE, hWE⟩ : ∃ WE, WE = (wr.alloc (.cells #[.int .i64 x.n, .int .i64 x.q, .int .i64 X, .int .i64 x.g.w] 42)).drew := ⟨_, rfl⟩
          rw [← hWE] at HE1 HNw
          have HWE := Lib.hid hWE
          clear hWE
          have HOe5 := Lib.hid (OwnR.mono HO1.out HE1.out)
          have HPe5 := Lib.hid (obj_kept HE1.out HP1.out)
          have HGe := Lib.hid (grown_below12 HG.out HE1.out)
          have hbig : bs.length ≤ 2000 := by have := HK.out; have := HLe5.out; omega
          have hze : w.heap.size ≤ WE.heap.size := by have := HGe.out.size; have := HB5.out.size; omega
          have c2d : wr.drew.cell? ⟨P, 2, none⟩ = some (.slice a bs.length cb) := c2
          have c2e : WE.cell? ⟨P, 2, none⟩ = some (.slice a bs.length cb) := Lib.cell_of_heap HPe5.out 2
          go_upto_region 10 with fail
          refine wp_region_held_drew (S := fun w' : World => w'.cell? ⟨P, 4, none⟩ = some (.int .i64 X) ∧ w'.cell? ⟨b1, o1 + j * 9 + 1, none⟩ = some (.int .i64 x.g.w) ∧ w'.cell? ⟨b1, o1 + j * 9 + 7, none⟩ = some (.int .i64 x.n) ∧ w'.cell? ⟨b1, o1 + j * 9 + 8, none⟩ = some (.int .i64 x.q)) (by kernel_rfl) ?_ (fun hHeld => ?_)
          · exact ⟨c4, q1, q4, q5⟩
          refine take_op (i := 0) (d := 64) (op := Op.fieldAddr 44 (Operand.tmp 13) 2) (ty := 0) (v := (.pointer (some ⟨P, 2, none⟩))) (by kernel_rfl) (by kernel_rfl) (by kernel_rfl) (by kernel_rfl) (by kernel_rfl) (fun _ _ _ h => h) (fun wS hS => by clear hS; go_simp) hHeld ?_
          simp only [Act.put, List.setIfInBounds_toArray, List.set_cons_zero, List.set_cons_succ]
          refine take_op (i := 2) (d := 66) (op := Op.move (Operand.tmp 0)) (ty := 22) (v := (.slice (some ⟨b1, o1, none⟩) n cp)) (by kernel_rfl) (by kernel_rfl) (by kernel_rfl) (by kernel_rfl) (by kernel_rfl) (fun _ _ _ h => h) (fun wS hS => by clear hS; go_simp) hHeld ?_
          simp only [Act.put, List.setIfInBounds_toArray, List.set_cons_zero, List.set_cons_succ]
          refine take_op (i := 3) (d := 67) (op := Op.move (Operand.tmp 15)) (ty := 3) (v := (.int .i64 (j : Int))) (by kernel_rfl) (by kernel_rfl) (by kernel_rfl) (by kernel_rfl) (by kernel_rfl) (fun _ _ _ h => h) (fun wS hS => by clear hS; go_simp) hHeld ?_
          simp only [Act.put, List.setIfInBounds_toArray, List.set_cons_zero, List.set_cons_succ]
          refine take_op (i := 4) (d := 68) (op := Op.indexAddr 22 (Operand.tmp 66) (Operand.tmp 67)) (ty := 0) (v := (.pointer (some ⟨b1, o1 + j * 9, none⟩))) (by kernel_rfl) (by kernel_rfl) (by kernel_rfl) (by kernel_rfl) (by kernel_rfl) (fun _ _ _ h => h) (fun wS hS => by clear hS; go_simp) hHeld ?_
          simp only [Act.put, List.setIfInBounds_toArray, List.set_cons_zero, List.set_cons_succ]
          refine take_op (i := 5) (d := 69) (op := Op.fieldAddr 40 (Operand.tmp 68) 4) (ty := 0) (v := (.pointer (some ⟨b1, o1 + j * 9 + 7, none⟩))) (by kernel_rfl) (by kernel_rfl) (by kernel_rfl) (by kernel_rfl) (by kernel_rfl) (fun _ _ _ h => h) (fun wS hS => by clear hS; go_simp) hHeld ?_
          simp only [Act.put, List.setIfInBounds_toArray, List.set_cons_zero, List.set_cons_succ]
          refine take_op (i := 6) (d := 70) (op := Op.load 3 (Operand.tmp 69)) (ty := 3) (v := (.int .i64 x.n)) (by kernel_rfl) (by kernel_rfl) (by kernel_rfl) (by kernel_rfl) (by kernel_rfl) (fun _ _ _ h => h) (fun wS hS => by (try dsimp only at hS); have e0 := hS.1; have e1 := hS.2.1; have e2 := hS.2.2.1; have e3 := hS.2.2.2; clear hS; go_simp) hHeld ?_
          simp only [Act.put, List.setIfInBounds_toArray, List.set_cons_zero, List.set_cons_succ]
          refine take_op (i := 7) (d := 71) (op := Op.move (Operand.tmp 0)) (ty := 22) (v := (.slice (some ⟨b1, o1, none⟩) n cp)) (by kernel_rfl) (by kernel_rfl) (by kernel_rfl) (by kernel_rfl) (by kernel_rfl) (fun _ _ _ h => h) (fun wS hS => by clear hS; go_simp) hHeld ?_
          simp only [Act.put, List.setIfInBounds_toArray, List.set_cons_zero, List.set_cons_succ]
          refine take_op (i := 8) (d := 72) (op := Op.move (Operand.tmp 15)) (ty := 3) (v := (.int .i64 (j : Int))) (by kernel_rfl) (by kernel_rfl) (by kernel_rfl) (by kernel_rfl) (by kernel_rfl) (fun _ _ _ h => h) (fun wS hS => by clear hS; go_simp) hHeld ?_
          simp only [Act.put, List.setIfInBounds_toArray, List.set_cons_zero, List.set_cons_succ]
          refine take_op (i := 9) (d := 73) (op := Op.indexAddr 22 (Operand.tmp 71) (Operand.tmp 72)) (ty := 0) (v := (.pointer (some ⟨b1, o1 + j * 9, none⟩))) (by kernel_rfl) (by kernel_rfl) (by kernel_rfl) (by kernel_rfl) (by kernel_rfl) (fun _ _ _ h => h) (fun wS hS => by clear hS; go_simp) hHeld ?_
          simp only [Act.put, List.setIfInBounds_toArray, List.set_cons_zero, List.set_cons_succ]
          refine take_op (i := 10) (d := 74) (op := Op.fieldAddr 40 (Operand.tmp 73) 5) (ty := 0) (v := (.pointer (some ⟨b1, o1 + j * 9 + 8, none⟩))) (by kernel_rfl) (by kernel_rfl) (by kernel_rfl) (by kernel_rfl) (by kernel_rfl) (fun _ _ _ h => h) (fun wS hS => by clear hS; go_simp) hHeld ?_
          simp only [Act.put, List.setIfInBounds_toArray, List.set_cons_zero, List.set_cons_succ]
          refine take_op (i := 11) (d := 75) (op := Op.load 3 (Operand.tmp 74)) (ty := 3) (v := (.int .i64 x.q)) (by kernel_rfl) (by kernel_rfl) (by kernel_rfl) (by kernel_rfl) (by kernel_rfl) (fun _ _ _ h => h) (fun wS hS => by (try dsimp only at hS); have e0 := hS.1; have e1 := hS.2.1; have e2 := hS.2.2.1; have e3 := hS.2.2.2; clear hS; go_simp) hHeld ?_
          simp only [Act.put, List.setIfInBounds_toArray, List.set_cons_zero, List.set_cons_succ]
          refine take_op (i := 12) (d := 76) (op := Op.fieldAddr 44 (Operand.tmp 13) 4) (ty := 0) (v := (.pointer (some ⟨P, 4, none⟩))) (by kernel_rfl) (by kernel_rfl) (by kernel_rfl) (by kernel_rfl) (by kernel_rfl) (fun _ _ _ h => h) (fun wS hS => by clear hS; go_simp) hHeld ?_
          simp only [Act.put, List.setIfInBounds_toArray, List.set_cons_zero, List.set_cons_succ]
          refine take_op (i := 13) (d := 77) (op := Op.load 2 (Operand.tmp 76)) (ty := 2) (v := (.int .i64 X)) (by kernel_rfl) (by kernel_rfl) (by kernel_rfl) (by kernel_rfl) (by kernel_rfl) (fun _ _ _ h => h) (fun wS hS => by (try dsimp only at hS); have e0 := hS.1; have e1 := hS.2.1; have e2 := hS.2.2.1; have e3 := hS.2.2.2; clear hS; go_simp) hHeld ?_
          simp only [Act.put, List.setIfInBounds_toArray, List.set_cons_zero, List.set_cons_succ]
          refine take_op (i := 14) (d := 78) (op := Op.move (Operand.tmp 0)) (ty := 22) (v := (.slice (some ⟨b1, o1, none⟩) n cp)) (by kernel_rfl) (by kernel_rfl) (by kernel_rfl) (by kernel_rfl) (by kernel_rfl) (fun _ _ _ h => h) (fun wS hS => by clear hS; go_simp) hHeld ?_
          simp only [Act.put, List.setIfInBounds_toArray, List.set_cons_zero, List.set_cons_succ]
          refine take_op (i := 15) (d := 79) (op := Op.move (Operand.tmp 15)) (ty := 3) (v := (.int .i64 (j : Int))) (by kernel_rfl) (by kernel_rfl) (by kernel_rfl) (by kernel_rfl) (by kernel_rfl) (fun _ _ _ h => h) (fun wS hS => by clear hS; go_simp) hHeld ?_
          simp only [Act.put, List.setIfInBounds_toArray, List.set_cons_zero, List.set_cons_succ]
          refine take_op (i := 16) (d := 80) (op := Op.indexAddr 22 (Operand.tmp 78) (Operand.tmp 79)) (ty := 0) (v := (.pointer (some ⟨b1, o1 + j * 9, none⟩))) (by kernel_rfl) (by kernel_rfl) (by kernel_rfl) (by kernel_rfl) (by kernel_rfl) (fun _ _ _ h => h) (fun wS hS => by clear hS; go_simp) hHeld ?_
          simp only [Act.put, List.setIfInBounds_toArray, List.set_cons_zero, List.set_cons_succ]
          refine take_op (i := 17) (d := 81) (op := Op.fieldAddr 40 (Operand.tmp 80) 1) (ty := 0) (v := (.pointer (some ⟨b1, o1 + j * 9 + 1, none⟩))) (by kernel_rfl) (by kernel_rfl) (by kernel_rfl) (by kernel_rfl) (by kernel_rfl) (fun _ _ _ h => h) (fun wS hS => by clear hS; go_simp) hHeld ?_
          simp only [Act.put, List.setIfInBounds_toArray, List.set_cons_zero, List.set_cons_succ]
          refine take_op (i := 18) (d := 82) (op := Op.fieldAddr 38 (Operand.tmp 81) 0) (ty := 0) (v := (.pointer (some ⟨b1, o1 + j * 9 + 1, none⟩))) (by kernel_rfl) (by kernel_rfl) (by kernel_rfl) (by kernel_rfl) (by kernel_rfl) (fun _ _ _ h => h) (fun wS hS => by clear hS; go_simp) hHeld ?_
          simp only [Act.put, List.setIfInBounds_toArray, List.set_cons_zero, List.set_cons_succ]
          refine take_op (i := 19) (d := 83) (op := Op.load 2 (Operand.tmp 82)) (ty := 2) (v := (.int .i64 x.g.w)) (by kernel_rfl) (by kernel_rfl) (by kernel_rfl) (by kernel_rfl) (by kernel_rfl) (fun _ _ _ h => h) (fun wS hS => by (try dsimp only at hS); have e0 := hS.1; have e1 := hS.2.1; have e2 := hS.2.2.1; have e3 := hS.2.2.2; clear hS; go_simp) hHeld ?_
          simp only [Act.put, List.setIfInBounds_toArray, List.set_cons_zero, List.set_cons_succ]
          refine take_op (i := 20) (d := 84) (op := Op.build 42 #[(0, Operand.tmp 70), (1, Operand.tmp 75), (2, Operand.tmp 77), (3, Operand.tmp 83)]) (ty := 42) (v := (.agg #[.int .i64 x.n, .int .i64 x.q, .int .i64 X, .int .i64 x.g.w])) (by kernel_rfl) (by kernel_rfl) (by kernel_rfl) (by kernel_rfl) (by kernel_rfl) (fun _ _ _ h => h) (fun wS hS => by clear hS; go_simp) hHeld ?_
          simp only [Act.put, List.setIfInBounds_toArray, List.set_cons_zero, List.set_cons_succ]
          refine wpAnyH_ready (rs := [1, 21]) (by kernel_rfl) (by simp) ?_
          refine AllReadyH.cons rfl (fun K hK => ?_) (AllReadyH.cons rfl (fun K hK => ?_) AllReadyH.nil)
          · go_simp
            refine hK.out _ _ hHeld (fun _ => ?_)
            clear hK K
            refine wpAnyH_ready (rs := [21]) (by kernel_rfl) (by simp) ?_
            refine AllReadyH.cons rfl (fun K hK => ?_) AllReadyH.nil
            go_simp
            rw [← HWE.out]
            refine hK.out _ _ ⟨Lib.cell_of_heap HPe5.out 4, (it_cells (HRj.out _ HGe.out)).2.1, (it_cells (HRj.out _ HGe.out)).2.2.2.2.2.2.2.1, (it_cells (HRj.out _ HGe.out)).2.2.2.2.2.2.2.2⟩ (fun hHeld => ?_)
            clear hK K
            refine wpAnyH_ready (rs := [22]) (by kernel_rfl) (by simp) ?_
            refine AllReadyH.cons rfl (fun K hK => ?_) AllReadyH.nil
            refine step_append_lies _ (by rfl) _ _ _ (by rfl) w.heap.size 42 iN _ 4 32 Try.underlying33 hiN hN0 hN1 hN2 rfl (by decide) (.slice a bs.length cb) bs.length (bs.flatMap pcC) (by rfl) HOe5.out ⟨wr.heap.size, 0, none⟩ 1 1 [.int .i64 x.n, .int .i64 x.q, .int .i64 X, .int .i64 x.g.w] (by rfl) (by rfl) HNw.out (fun z hz => by simp at hz; rcases hz with rfl | rfl | rfl | rfl <;> rfl) (by omega) (by unfold maxLen; omega) (by omega) hze _ rfl ?_
            intro g9 cap9 w9 hown9 hgrow9 hat9 hlt9
            have HP9 := Lib.hid (obj_far HPe5.out hgrow9 (own_off9 HOe5.out HPe5.out (by decide)))
            have HG9 := Lib.hid (HGe.out.andThen hgrow9 (fun q hq => .inl (HOw.out q hq)))
            have HO9 : Hid (OwnP w.heap.size (.slice (some ⟨g9, 0, none⟩) (bs.length + 1) cap9) (bs ++ [⟨x.n, x.q, X, x.g.w⟩]) w9) := Lib.hid (by unfold OwnP OwnR; rw [List.length_append, List.flatMap_append]; exact hown9)
            have HOw9 : Hid (∀ q, (Value.slice (some ⟨g9, 0, none⟩) (bs.length + 1) cap9).ownBlock = some q → W5.heap.size ≤ q) := Lib.hid (fun q hq => by
              rcases hat9 with h | h
              · simp [Value.ownBlock] at hq; subst hq; exact HOw.out g9 h
              · simp [Value.ownBlock] at hq; subst hq; rw [h]; exact HGe.out.size)
            clear hown9 hgrow9 hat9 hlt9
            refine hK.out _ _ ⟨Lib.cell_of_heap HP9.out 4, (it_cells (HRj.out _ HG9.out)).2.1, (it_cells (HRj.out _ HG9.out)).2.2.2.2.2.2.2.1, (it_cells (HRj.out _ HG9.out)).2.2.2.2.2.2.2.2⟩ (fun hHeld => ?_)
            clear hK K
            simp only [Act.put, List.setIfInBounds_toArray, List.set_cons_zero, List.set_cons_succ]
            have c29 : w9.cell? ⟨P, 2, none⟩ = some (.slice a bs.length cb) := Lib.cell_of_heap HP9.out 2
            have f29 := Lib.frozen_of_heap HP9.out 2
            obtain ⟨WS, hWS⟩ : ∃ WS, WS = w9.setCell ⟨P, 2, none⟩ (.slice (some ⟨g9, 0, none⟩) (bs.length + 1) cap9) := ⟨_, rfl⟩
            have HPs : Hid (WS.heap[P]? = some (.cells (lineC (F : Int) (kb : Int) (.slice (some ⟨g9, 0, none⟩) (bs.length + 1) cap9) xb.f X s.bad) 44 (0, 0))) := Lib.hid (by rw [hWS]; exact heap_setCell_same _ _ 2 _ _ _ HP9.out)
            have HOs := Lib.hid (own_setP (i := 2) (y := .slice (some ⟨g9, 0, none⟩) (bs.length + 1) cap9) HO9.out HP9.out)
            have HGs := Lib.hid (grown_set12 (i := 2) (y := .slice (some ⟨g9, 0, none⟩) (bs.length + 1) cap9) HG9.out)
            have HOws := HOw9
            rw [← hWS] at HOs HGs
            refine take_op (i := 23) (d := 87) (op := Op.fieldAddr 44 (Operand.tmp 13) 2) (ty := 0) (v := (.pointer (some ⟨P, 2, none⟩))) (by kernel_rfl) (by kernel_rfl) (by kernel_rfl) (by kernel_rfl) (by kernel_rfl) (fun _ _ _ h => h) (fun wS hS => by clear hS; go_simp) hHeld ?_
            simp only [Act.put, List.setIfInBounds_toArray, List.set_cons_zero, List.set_cons_succ]
            refine wpAnyH_ready (rs := [24]) (by kernel_rfl) (by simp) ?_
            refine AllReadyH.cons rfl (fun K hK => ?_) AllReadyH.nil
            go_simp
            rw [← hWS]
            refine hK.out _ _ ⟨Lib.cell_of_heap HPs.out 4, (it_cells (HRj.out _ HGs.out)).2.1, (it_cells (HRj.out _ HGs.out)).2.2.2.2.2.2.2.1, (it_cells (HRj.out _ HGs.out)).2.2.2.2.2.2.2.2⟩ (fun _ => ?_)
            clear hK K hWS c29 f29
            refine wpAnyH_done (by kernel_rfl) ?_ _
            clear c2 c4 q1 q4 q5 hze c2d
            obtain ⟨bw, ow, dw, ew, rw0⟩ := (HWs.out _ HGs.out).2.2 (by omega)
            rw [← Hnw.out] at ew
            obtain ⟨rfl, rfl⟩ : pw = some ⟨bw, ow, none⟩ ∧ cw = dw := by injection ew with a1 a2 a3; exact ⟨a1, a3⟩
            obtain ⟨y, hyw⟩ : ∃ y, ws[m]? = some y := ⟨_, List.getElem?_eq_getElem hm⟩
            have hget : ws.getD m 0 = y := by rw [List.getD_eq_getElem?_getD, hyw]; rfl
            have cy : WS.cell? ⟨bw, ow + m, none⟩ = some (.int .i64 y) := by have := rw0 m y hyw 0 _ rfl; rwa [Nat.mul_one, Nat.add_zero] at this
            have c4 : WS.cell? ⟨P, 4, none⟩ = some (.int .i64 X) := Lib.cell_of_heap HPs.out 4
            have f4 := Lib.frozen_of_heap HPs.out 4
            have m0 : (0 : Int) ≤ (m : Int) := by omega
            have ml : (m : Int) < (nw : Int) := by have := Hnw.out; omega
            have hwr : IntKind.i64.wrap (X + y) = It.wr (X + y) := rfl
            rw [hget] at HE
            have HPd := Lib.hid (obj_kept (below_drew10w WS) HPs.out)
            have HPf : Hid ((WS.drew.setCell ⟨P, 4, none⟩ (.int .i64 (It.wr (X + y)))).heap[P]? = some (.cells (lineC (F : Int) (kb : Int) (.slice (some ⟨g9, 0, none⟩) (bs.length + 1) cap9) xb.f (It.wr (X + y)) s.bad) 44 (0, 0))) := Lib.hid (heap_setCell_same _ _ 4 _ _ _ HPd.out)
            have HOf := Lib.hid (own_setP (i := 4) (y := .int .i64 (It.wr (X + y))) (OwnR.mono HOs.out (below_drew10w WS)) HPd.out)
            have HGf := Lib.hid (grown_set12 (i := 4) (y := .int .i64 (It.wr (X + y))) (grown_drew12 HGs.out))
            have hk2 := HK.out.2
            obtain ⟨hl1, hl2⟩ := HLe5.out
            clear ew rw0 hyw hget
            go_upto_region 11 with fail
            go_region
            all_goals (
              go_wp2
              go_roundw
              case rel => exact ⟨j + 1, by omega, by omega, by go_num, by rw [HE.out]; go_num, by rw [HE.out]; exact Lib.hid ⟨_, _, _, HPf.out, HOf.out, HOws.out⟩, HGf⟩
              case measure => simp [intOf]; omega)
          · go_simp
            rw [← HWE.out]
            refine hK.out _ _ ⟨Lib.cell_of_heap HPe5.out 4, (it_cells (HRj.out _ HGe.out)).2.1, (it_cells (HRj.out _ HGe.out)).2.2.2.2.2.2.2.1, (it_cells (HRj.out _ HGe.out)).2.2.2.2.2.2.2.2⟩ (fun hHeld => ?_)
            clear hK K
            refine wpAnyH_ready (rs := [1]) (by kernel_rfl) (by simp) ?_
            refine AllReadyH.cons rfl (fun K hK => ?_) AllReadyH.nil
            go_simp
            refine hK.out _ _ hHeld (fun _ => ?_)
            clear hK K
            refine wpAnyH_ready (rs := [22]) (by kernel_rfl) (by simp) ?_
            refine AllReadyH.cons rfl (fun K hK => ?_) AllReadyH.nil
            refine step_append_lies _ (by rfl) _ _ _ (by rfl) w.heap.size 42 iN _ 4 32 Try.underlying33 hiN hN0 hN1 hN2 rfl (by decide) (.slice a bs.length cb) bs.length (bs.flatMap pcC) (by rfl) HOe5.out ⟨wr.heap.size, 0, none⟩ 1 1 [.int .i64 x.n, .int .i64 x.q, .int .i64 X, .int .i64 x.g.w] (by rfl) (by rfl) HNw.out (fun z hz => by simp at hz; rcases hz with rfl | rfl | rfl | rfl <;> rfl) (by omega) (by unfold maxLen; omega) (by omega) hze _ rfl ?_
            intro g9 cap9 w9 hown9 hgrow9 hat9 hlt9
            have HP9 := Lib.hid (obj_far HPe5.out hgrow9 (own_off9 HOe5.out HPe5.out (by decide)))
            have HG9 := Lib.hid (HGe.out.andThen hgrow9 (fun q hq => .inl (HOw.out q hq)))
            have HO9 : Hid (OwnP w.heap.size (.slice (some ⟨g9, 0, none⟩) (bs.length + 1) cap9) (bs ++ [⟨x.n, x.q, X, x.g.w⟩]) w9) := Lib.hid (by unfold OwnP OwnR; rw [List.length_append, List.flatMap_append]; exact hown9)
            have HOw9 : Hid (∀ q, (Value.slice (some ⟨g9, 0, none⟩) (bs.length + 1) cap9).ownBlock = some q → W5.heap.size ≤ q) := Lib.hid (fun q hq => by
              rcases hat9 with h | h
              · simp [Value.ownBlock] at hq; subst hq; exact HOw.out g9 h
              · simp [Value.ownBlock] at hq; subst hq; rw [h]; exact HGe.out.size)
            clear hown9 hgrow9 hat9 hlt9
            refine hK.out _ _ ⟨Lib.cell_of_heap HP9.out 4, (it_cells (HRj.out _ HG9.out)).2.1, (it_cells (HRj.out _ HG9.out)).2.2.2.2.2.2.2.1, (it_cells (HRj.out _ HG9.out)).2.2.2.2.2.2.2.2⟩ (fun hHeld => ?_)
            clear hK K
            simp only [Act.put, List.setIfInBounds_toArray, List.set_cons_zero, List.set_cons_succ]
            have c29 : w9.cell? ⟨P, 2, none⟩ = some (.slice a bs.length cb) := Lib.cell_of_heap HP9.out 2
            have f29 := Lib.frozen_of_heap HP9.out 2
            obtain ⟨WS, hWS⟩ : ∃ WS, WS = w9.setCell ⟨P, 2, none⟩ (.slice (some ⟨g9, 0, none⟩) (bs.length + 1) cap9) := ⟨_, rfl⟩
            have HPs : Hid (WS.heap[P]? = some (.cells (lineC (F : Int) (kb : Int) (.slice (some ⟨g9, 0, none⟩) (bs.length + 1) cap9) xb.f X s.bad) 44 (0, 0))) := Lib.hid (by rw [hWS]; exact heap_setCell_same _ _ 2 _ _ _ HP9.out)
            have HOs := Lib.hid (own_setP (i := 2) (y := .slice (some ⟨g9, 0, none⟩) (bs.length + 1) cap9) HO9.out HP9.out)
            have HGs := Lib.hid (grown_set12 (i := 2) (y := .slice (some ⟨g9, 0, none⟩) (bs.length + 1) cap9) HG9.out)
            have HOws := HOw9
            rw [← hWS] at HOs HGs
            refine take_op (i := 23) (d := 87) (op := Op.fieldAddr 44 (Operand.tmp 13) 2) (ty := 0) (v := (.pointer (some ⟨P, 2, none⟩))) (by kernel_rfl) (by kernel_rfl) (by kernel_rfl) (by kernel_rfl) (by kernel_rfl) (fun _ _ _ h => h) (fun wS hS => by clear hS; go_simp) hHeld ?_
            simp only [Act.put, List.setIfInBounds_toArray, List.set_cons_zero, List.set_cons_succ]
            refine wpAnyH_ready (rs := [24]) (by kernel_rfl) (by simp) ?_
            refine AllReadyH.cons rfl (fun K hK => ?_) AllReadyH.nil
            go_simp
            rw [← hWS]
            refine hK.out _ _ ⟨Lib.cell_of_heap HPs.out 4, (it_cells (HRj.out _ HGs.out)).2.1, (it_cells (HRj.out _ HGs.out)).2.2.2.2.2.2.2.1, (it_cells (HRj.out _ HGs.out)).2.2.2.2.2.2.2.2⟩ (fun _ => ?_)
            clear hK K hWS c29 f29
            refine wpAnyH_done (by kernel_rfl) ?_ _
            clear c2 c4 q1 q4 q5 hze c2d
            obtain ⟨bw, ow, dw, ew, rw0⟩ := (HWs.out _ HGs.out).2.2 (by omega)
            rw [← Hnw.out] at ew
            obtain ⟨rfl, rfl⟩ : pw = some ⟨bw, ow, none⟩ ∧ cw = dw := by injection ew with a1 a2 a3; exact ⟨a1, a3⟩
            obtain ⟨y, hyw⟩ : ∃ y, ws[m]? = some y := ⟨_, List.getElem?_eq_getElem hm⟩
            have hget : ws.getD m 0 = y := by rw [List.getD_eq_getElem?_getD, hyw]; rfl
            have cy : WS.cell? ⟨bw, ow + m, none⟩ = some (.int .i64 y) := by have := rw0 m y hyw 0 _ rfl; rwa [Nat.mul_one, Nat.add_zero] at this
            have c4 : WS.cell? ⟨P, 4, none⟩ = some (.int .i64 X) := Lib.cell_of_heap HPs.out 4
            have f4 := Lib.frozen_of_heap HPs.out 4
            have m0 : (0 : Int) ≤ (m : Int) := by omega
            have ml : (m : Int) < (nw : Int) := by have := Hnw.out; omega
            have hwr : IntKind.i64.wrap (X + y) = It.wr (X + y) := rfl
            rw [hget] at HE
            have HPd := Lib.hid (obj_kept (below_drew10w WS) HPs.out)
            have HPf : Hid ((WS.drew.setCell ⟨P, 4, none⟩ (.int .i64 (It.wr (X + y)))).heap[P]? = some (.cells (lineC (F : Int) (kb : Int) (.slice (some ⟨g9, 0, none⟩) (bs.length + 1) cap9) xb.f (It.wr (X + y)) s.bad) 44 (0, 0))) := Lib.hid (heap_setCell_same _ _ 4 _ _ _ HPd.out)
            have HOf := Lib.hid (own_setP (i := 4) (y := .int .i64 (It.wr (X + y))) (OwnR.mono HOs.out (below_drew10w WS)) HPd.out)
            have HGf := Lib.hid (grown_set12 (i := 4) (y := .int .i64 (It.wr (X + y))) (grown_drew12 HGs.out))
            have hk2 := HK.out.2
            obtain ⟨hl1, hl2⟩ := HLe5.out
            clear ew rw0 hyw hget
            go_upto_region 11 with fail
            go_region
            all_goals (
              go_wp2
              go_roundw
              case rel => exact ⟨j + 1, by omega, by omega, by go_num, by rw [HE.out]; go_num, by rw [HE.out]; exact Lib.hid ⟨_, _, _, HPf.out, HOf.out, HOws.out⟩, HGf⟩
              case measure => simp [intOf]; omega)
        · have hg : It.gluey x = true := by unfold It.gluey; rw [decide_eq_true h1]; simp
          have h0 : ¬ x.k = 0 := by omega
          have HE : Hid (It.lay ws (its.take (j + 1 - F)) = (m + 1, bs, It.wr (X + ws.getD m 0))) := Lib.hid (by rw [HS.out]; unfold It.stp; rw [if_pos hg, if_neg h0])
          have hm := HCn.out hg
          have q0 : wr.cell? ⟨b1, o1 + j * 9, none⟩ = some (.int .i64 1) := by have := (it_cells (HRj.out _ HG.out)).1; rwa [h1] at this
          obtain ⟨WS, hWS⟩ : ∃ WS, WS = wr := ⟨_, rfl⟩
          rw [← hWS] at q0 HP1 HO1 HG ⊢
          clear hWS
          have HPs := HP1
          have HOs := HO1
          have HOws := HOw
          have HGs := HG
          obtain ⟨bw, ow, dw, ew, rw0⟩ := (HWs.out _ HGs.out).2.2 (by omega)
          rw [← Hnw.out] at ew
          obtain ⟨rfl, rfl⟩ : pw = some ⟨bw, ow, none⟩ ∧ cw = dw := by injection ew with a1 a2 a3; exact ⟨a1, a3⟩
          obtain ⟨y, hyw⟩ : ∃ y, ws[m]? = some y := ⟨_, List.getElem?_eq_getElem hm⟩
          have hget : ws.getD m 0 = y := by rw [List.getD_eq_getElem?_getD, hyw]; rfl
          have cy : WS.cell? ⟨bw, ow + m, none⟩ = some (.int .i64 y) := by have := rw0 m y hyw 0 _ rfl; rwa [Nat.mul_one, Nat.add_zero] at this
          have c4 : WS.cell? ⟨P, 4, none⟩ = some (.int .i64 X) := Lib.cell_of_heap HPs.out 4
          have f4 := Lib.frozen_of_heap HPs.out 4
          have m0 : (0 : Int) ≤ (m : Int) := by omega
          have ml : (m : Int) < (nw : Int) := by have := Hnw.out; omega
          have hwr : IntKind.i64.wrap (X + y) = It.wr (X + y) := rfl
          rw [hget] at HE
          have HPd := Lib.hid (obj_kept (below_drew10w WS) HPs.out)
          have HPf : Hid ((WS.drew.setCell ⟨P, 4, none⟩ (.int .i64 (It.wr (X + y)))).heap[P]? = some (.cells (lineC (F : Int) (kb : Int) (.slice a nbz cb) xb.f (It.wr (X + y)) s.bad) 44 (0, 0))) := Lib.hid (heap_setCell_same _ _ 4 _ _ _ HPd.out)
          have HOf := Lib.hid (own_setP (i := 4) (y := .int .i64 (It.wr (X + y))) (OwnR.mono HOs.out (below_drew10w WS)) HPd.out)
          have HGf := Lib.hid (grown_set12 (i := 4) (y := .int .i64 (It.wr (X + y))) (grown_drew12 HGs.out))
          have hk2 := HK.out.2
          obtain ⟨hl1, hl2⟩ := HLe5.out
          clear ew rw0 hyw hget
          go_upto_region 11 with fail
          go_region
          all_goals (
            go_wp2
            go_roundw
            case rel => exact ⟨j + 1, by omega, by omega, by go_num, by rw [HE.out]; go_num, by rw [HE.out]; exact Lib.hid ⟨_, _, _, HPf.out, HOf.out, HOws.out⟩, HGf⟩
            case measure => simp [intOf]; omega)
        · have hg : It.gluey x = false := by unfold It.gluey; rw [decide_eq_false (show ¬ x.k = 0 by omega), decide_eq_false (show ¬ x.k = 1 by omega)]; rfl
          have HE : Hid (It.lay ws (its.take (j + 1 - F)) = (m, bs, X)) := Lib.hid (by rw [HS.out]; unfold It.stp; rw [if_neg (by rw [hg]; decide)])
          have q0 : wr.cell? ⟨b1, o1 + j * 9, none⟩ = some (.int .i64 2) := by have := (it_cells (HRj.out _ HG.out)).1; rwa [h2] at this
          have hk2 := HK.out.2
          go_wp2
          go_roundw
          case rel => exact ⟨j + 1, by omega, by omega, by go_num, by rw [HE.out], by rw [HE.out]; exact Lib.hid ⟨a, nbz, cb, HP1.out, HO1.out, HOw.out⟩, HG⟩
          case measure => simp [intOf]; omega
      · obtain rfl : j = kb := by omega
        have HE : Hid (its.take (j - F) = its) := Lib.hid (List.take_of_length_le (by rw [HL2.out]; exact Nat.le_refl _))
        rw [HE.out] at HRr
        obtain ⟨a8, n8, c8, hp8, ho8, _⟩ := HRr.out
        have HX8 := Lib.hid (obj_far HX5.out HG.out (fun e => HPn.out (Option.some.inj e)))
        have HP8 := Lib.hid hp8
        have HO8 := Lib.hid ho8
        have HB8 := Lib.hid (HB5.out.grown HG.out HB5.out.size (fun j hj => by cases hj; exact HPl.out))
        clear hp8 ho8 HRr
        have p0 := Lib.cell_of_heap HP8.out 0
        have p1 := Lib.cell_of_heap HP8.out 1
        have p2 := Lib.cell_of_heap HP8.out 2
        have p3 := Lib.cell_of_heap HP8.out 3
        have p4 := Lib.cell_of_heap HP8.out 4
        have p5 := Lib.cell_of_heap HP8.out 5
        unfold lineC at p0 p1 p2 p3 p4 p5
        have q0 := Lib.cell_of_heap HX8.out 0
        have q1 := Lib.cell_of_heap HX8.out 1
        have q2 := Lib.cell_of_heap HX8.out 2
        have q3 := Lib.cell_of_heap HX8.out 3
        have q4 := Lib.cell_of_heap HX8.out 4
        have q5 := Lib.cell_of_heap HX8.out 5
        have f0 := Lib.frozen_of_heap HX8.out 0
        have f1 := Lib.frozen_of_heap HX8.out 1
        have f2 := Lib.frozen_of_heap HX8.out 2
        have f3 := Lib.frozen_of_heap HX8.out 3
        have f4 := Lib.frozen_of_heap HX8.out 4
        have f5 := Lib.frozen_of_heap HX8.out 5
        have H6 := Lib.hid (six_set12 HX8.out rfl ⟨(F : Int), (j : Int), a8, n8, c8, xb.f, (It.lay ws its).2.2, s.bad⟩)
        have HGx := Lib.hid (putLn_grown wr P8 ⟨(F : Int), (j : Int), a8, n8, c8, xb.f, (It.lay ws its).2.2, s.bad⟩)
        have HY : Hid (LinOwn w.heap.size wr ⟨(F : Int), (j : Int), a8, n8, c8, xb.f, (It.lay ws its).2.2, s.bad⟩ ⟨(F : Int), (j : Int), (It.lay ws its).2.1, It.flagN l j, (It.lay ws its).2.2, s.bad⟩) := Lib.hid ⟨rfl, rfl, HO8.out, HFl.out.symm, rfl, rfl⟩
        have HZ := Lib.hid (HY.out.grown HGx.out (.inr fun e => own_off9 HY.out.bs HX8.out (by decide) e.symm))
        have HBz := Lib.hid (HB8.out.grown HGx.out HB8.out.size (fun j hj => by cases hj; rw [HPw.out]; exact Nat.le_refl _))
        clear HY HGx
        unfold putLn at H6 HZ HBz
        simp only [] at H6 HZ HBz
        go_wp2
        obtain ⟨WX, hWX⟩ : ∃ WX, WX = (((((wr.setCell ⟨P8, 0, none⟩ (.int .i64 (F : Int))).setCell ⟨P8, 1, none⟩ (.int .i64 (j : Int))).setCell ⟨P8, 2, none⟩ (.slice a8 n8 c8)).setCell ⟨P8, 3, none⟩ (.bool xb.f)).setCell ⟨P8, 4, none⟩ (.int .i64 (It.lay ws its).2.2)).setCell ⟨P8, 5, none⟩ (.int .i64 s.bad) := ⟨_, rfl⟩
        rw [← hWX] at H6 HZ HBz ⊢
        clear hWX q0 q1 q2 q3 q4 q5
        have q0 := Lib.cell_of_heap H6.out 0
        have q1 := Lib.cell_of_heap H6.out 1
        have q2 := Lib.cell_of_heap H6.out 2
        have q3 := Lib.cell_of_heap H6.out 3
        have q4 := Lib.cell_of_heap H6.out 4
        have q5 := Lib.cell_of_heap H6.out 5
        exact bodyPost_ret (v := .agg #[.int .i64 (F : Int), .int .i64 (j : Int), .slice a8 n8 c8, .bool xb.f, .int .i64 (It.lay ws its).2.2, .int .i64 s.bad]) (by simp [results, Try.results21, go_sem, q0, q1, q2, q3, q4, q5]) rfl ⟨_, rfl, HZ.out, HBz.out⟩
end Go.Proofs.Ythcilpijiindeaa
