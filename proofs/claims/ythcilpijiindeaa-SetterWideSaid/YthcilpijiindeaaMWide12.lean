/-
  PROVED: the law SetterWide at every argument: a line whose badness is below 10000 is just as wide as it must be, with its hyphen; broken as the best breaks say, no line is wider.
-/
import Derived.Test.YthcilpijiindeaaFixedM12
import Derived.Test.YthcilpijiindeaaCallM12
import Derived.Test.YthcilpijiindeaaMath11
import Derived.Test.YthcilpijiindeaaIn10
import Derived.Test.YthcilpijiindeaaFrame10
set_option linter.unusedVariables false
set_option linter.unusedSimpArgs false
namespace Go.Proofs.Ythcilpijiindeaa
open Go.RowKit

theorem rises_len : ∀ (bs : List Int) (a n : Int), bs.Pairwise (· < ·) → (∀ b ∈ bs, a < b ∧ b < n) → a < n → (bs.length : Int) ≤ n - 1 - a
  | [], a, n, _, _, h => by simp; omega
  | b :: r, a, n, hp, hb, _ => by
    obtain ⟨h1, h2⟩ := List.pairwise_cons.1 hp
    obtain ⟨h3, h4⟩ := hb b List.mem_cons_self
    have := rises_len r b n h2 (fun c hc => ⟨h1 c hc, (hb c (List.mem_cons_of_mem _ hc)).2⟩) h4
    simp only [List.length_cons]
    omega
theorem setR_len {l : List It.Itm} {bs : List Int} {t z : Int} {m : List It.Lin} (h : It.setR l bs t = (m, 0, z)) : bs.length ≤ l.length := by
  obtain ⟨_, _, hc, _, hp⟩ := It.setR_some h
  rcases hc.rises with ⟨_, hr, hpw⟩ | h
  · have := rises_len bs (-1) l.length hpw (fun b hb => ⟨(hr b hb).1, (hr b hb).2.2⟩) (by omega)
    omega
  · rw [h]; simp
theorem way_lines {l : List It.Itm} {t tol : Int} {x : Int × Int × List Int} (h : bestW l t tol = some x) : ∃ m, It.setR l x.2.2 t = (m, 0, 0) ∧ ∀ y ∈ m, y.bad ≤ 10000 := by
  obtain ⟨hm, _, _, ht, _⟩ := best_some h
  obtain ⟨hl, z, hz, _⟩ := It.total_some ht
  obtain ⟨m, hc, hb⟩ := It.goS_chn _ _ _ _ z hz
  exact ⟨m, It.setR_of hm hc hl, hb⟩
theorem brk_lines {l : List It.Itm} {t : Int} (h : (brkR l t).2.2 = 0) : ∃ m, It.setR l (bl (brkR l t).1) t = (m, 0, 0) ∧ ∀ y ∈ m, y.bad ≤ 10000 := by
  cases hm : It.may l with
  | false =>
    have e : brkR l t = (none, false, 90) := by unfold brkR; rw [if_pos hm]
    rw [e] at h
    exact absurd h (by decide)
  | true =>
    have hm' : ¬ It.may l = false := by rw [hm]; decide
    cases h2 : bestW l t 200 with
    | some x =>
      have e : brkR l t = (some x, false, 0) := by unfold brkR; rw [if_neg hm', h2]
      rw [e]
      exact way_lines h2
    | none =>
      cases h3 : bestW l t 10000 with
      | some x =>
        have e : brkR l t = (some x, true, 0) := by unfold brkR; rw [if_neg hm', h2]; simp only []; rw [h3]
        rw [e]
        exact way_lines h3
      | none =>
        have e : brkR l t = (none, false, 110) := by unfold brkR; rw [if_neg hm', h2]; simp only []; rw [h3]
        rw [e] at h
        exact absurd h (by decide)
theorem wSum {a b : Int} (h0 : 0 ≤ a) (h1 : a ≤ 3000000000) (h2 : 0 ≤ b) (h3 : b ≤ 1073741823) : wrap64 (a + b) = a + b := w64 (by omega) (by omega)
theorem wSum' {a b : Int} (h0 : 0 ≤ a) (h1 : a ≤ 3000000000) (h2 : 0 ≤ b) (h3 : b ≤ 1073741823) : IntKind.i64.wrap (a + b) = a + b := It.wr_in (by omega) (by omega)
theorem It.apart_low : ∀ {bs : List It.Plc} {e x : Int}, It.apart e bs x → (∀ p ∈ bs, 0 ≤ p.w) → e ≤ x
  | [], e, x, h, _ => h
  | p :: r, e, x, h, hw => by
    have := It.apart_low h.2 (fun q hq => hw q (List.mem_cons_of_mem _ hq))
    have := hw p List.mem_cons_self
    have := h.1
    omega
theorem It.bs_w {l : List It.Itm} {a b t : Int} {x : It.Lin} (hm : It.may l = true) (h : It.linV l a b t = some x) : ∀ p ∈ x.bs, 0 ≤ p.w := by
  obtain ⟨s, h1, _, rfl⟩ := It.linV_some h
  intro p hp
  have hk := It.linS_keys l a b s
  have h2 : It.keyP p ∈ ((It.boxes (It.lits l a b)).map It.keyI) := by rw [← hk]; exact List.mem_map_of_mem hp
  obtain ⟨i, hi, he⟩ := List.mem_map.1 h2
  unfold It.boxes at hi
  obtain ⟨hi1, hi2⟩ := List.mem_filter.1 hi
  have hr := List.all_eq_true.1 (It.lits_right (a := a) (b := b) (It.may_yes hm).2.1) i hi1
  have hw := (It.right_box hr (of_decide_eq_true hi2)).1
  unfold It.keyI It.keyP at he
  simp only [Prod.mk.injEq] at he
  rw [← he.2.2]
  exact hw
theorem right_w {l : List It.Itm} (hm : It.may l = true) {k : Nat} {y : It.Itm} (hy : l[k]? = some y) (h2 : y.k = 2) : 0 ≤ y.g.w ∧ y.g.w ≤ 1073741823 := by
  have := It.right_pen12 (List.all_eq_true.1 (It.may_yes hm).2.1 y (List.mem_of_getElem? hy)) h2
  exact ⟨this.1, this.2.1⟩
set_option maxHeartbeats 8000000 in
set_option maxRecDepth 100000 in
theorem lawWide (v : Value) (l : List It.Itm) (t : Int) (w : World) (hI : ItsAt w v l) : Calls Try.prog 5 #[v, .int .i64 t] w (Ret (.bool true) w) := by
  have HF := Lib.hid (fun w => fixed12 w)
  have HA := Lib.hid hI
  have HM := Lib.hid (fun w h => refItMay_any v l w h)
  have HBk := Lib.hid (fun w h => refBreak_any v l t w h)
  have HBl := Lib.hid (fun h => brk_lines (l := l) (t := t) h)
  have HL1 := Lib.hid (fun u bs w h g hb => lines_any v u l bs t w h g hb)
  obtain ⟨⟨p, cp, rfl, hcap⟩, hm, _⟩ := hI
  have hzl : l.length ≤ 9223372036854775807 := by unfold maxLen at hm; omega
  obtain ⟨n, hn⟩ : ∃ n, n = l.length := ⟨_, rfl⟩
  have Hn := Lib.hid hn
  rw [← hn] at HA HM HBk HL1 hzl ⊢
  clear hn hm hcap
  by_cases h1 : 100 < n
  · have h1' : (100 : Int) < (n : Int) := by omega
    go_enter Try.func5, Try.ntmps5
    go_wp2_with fail
    refine (HF.out _).mono ?_
    rintro e w1 ⟨rfl, b1⟩
    go_wp2_with fail
    refine (HF.out _).mono ?_
    rintro e w2 ⟨rfl, b2⟩
    go_wp2
    go_ret
    exact ⟨rfl, below_step b1 b2⟩
  · have h1' : ¬ (100 : Int) < (n : Int) := by omega
    cases hmay : It.may l with
    | false =>
      rw [hmay] at HM
      go_enter Try.func5, Try.ntmps5
      go_wp2_with fail
      refine (HF.out _).mono ?_
      rintro e w1 ⟨rfl, b1⟩
      have B1 := Lib.hid b1
      clear b1
      go_wp2_with fail
      refine (HM.out _ (SlcAt.mono HA.out B1.out)).mono ?_
      rintro e w2 ⟨rfl, b2⟩
      have B2 := Lib.hid (below_step B1.out b2)
      clear b2
      go_wp2_with fail
      refine (HF.out _).mono ?_
      rintro e w3 ⟨rfl, b3⟩
      go_wp2
      go_ret
      exact ⟨rfl, below_step B2.out b3⟩
    | true =>
      rw [hmay] at HM
      have HMay := Lib.hid hmay
      clear hmay
      unfold BreakPost at HBk
      obtain ⟨R, hR⟩ : ∃ R, R = brkR l t := ⟨_, rfl⟩
      rw [← hR] at HBk HBl
      clear hR
      obtain ⟨rw0, fe, c⟩ := R
      simp only [] at HBk HBl
      go_enter Try.func5, Try.ntmps5
      go_wp2_with fail
      refine (HF.out _).mono ?_
      rintro e w1 ⟨rfl, b1⟩
      have B1 := Lib.hid b1
      clear b1
      go_wp2_with fail
      refine (HM.out _ (SlcAt.mono HA.out B1.out)).mono ?_
      rintro e w2 ⟨rfl, b2⟩
      have B2 := Lib.hid (below_step B1.out b2)
      clear b2
      go_wp2_with fail
      refine (HBk.out _ (SlcAt.mono HA.out B2.out)).mono ?_
      rintro e w3 ⟨u3, rfl, n3, b3⟩
      have hbA := below_step b3 (below_alloc w3 (.cells #[.int .i64 c, .int .i64 0] 28))
      have X3 := Lib.hid (obj_new w3 _ rfl #[.int .i64 c, .int .i64 0] 28)
      have N3 := Lib.hid (SlcAt.mono n3 (below_alloc w3 (.cells #[.int .i64 c, .int .i64 0] 28)))
      obtain ⟨WA, hWA⟩ : ∃ WA, WA = w3.alloc (.cells #[.int .i64 c, .int .i64 0] 28) := ⟨_, rfl⟩
      obtain ⟨P, hP⟩ : ∃ P, P = w3.heap.size := ⟨_, rfl⟩
      rw [← hWA] at hbA X3 N3
      rw [← hP] at X3
      have BA := Lib.hid (below_step B2.out hbA)
      clear hbA n3 b3
      go_upto_region 4 with fail
      rw [← hWA, ← hP]
      clear hWA hP
      have c0 : WA.cell? ⟨P, 0, none⟩ = some (.int .i64 c) := Lib.cell_of_heap X3.out 0
      by_cases hc : c = 0
      · subst hc
        obtain ⟨ls, hset, hbad⟩ := HBl.out rfl
        have HSt := Lib.hid hset
        have HBad := Lib.hid hbad
        have hbl := setR_len hset
        have hll : ls.length = (bl rw0).length := (It.setR_some hset).2.2.1.len
        have HL2 : Hid (∀ w, ItsAt w (.slice p n cp) l → NumsAt w u3 (bl rw0) → Calls Try.prog 8 #[.slice p n cp, u3, .int .i64 t] w (fun e w' => ∃ u, e = .returned (.tuple #[u, .agg #[.int .i64 0, .int .i64 0]]) ∧ LinsAt w' u ls ∧ Below w.heap.size w w')) := Lib.hid (fun w h g => by
          have := HL1.out u3 (bl rw0) w h g (by rw [← Hn.out] at hbl; omega)
          rw [hset] at this
          exact this)
        have HCh := Lib.hid (fun k x hx => (It.setR_some hset).2.2.1.at (k := k) (x := x) hx)
        generalize bl rw0 = bs at N3 HL2 hll HCh HSt hbl
        obtain ⟨⟨pb, cb, rfl, _⟩, hmb, _⟩ := N3.out
        have hzb : bs.length ≤ 9223372036854775807 := by unfold maxLen at hmb; omega
        clear hset hbad hbl hmb
        go_wp2_with fail
        refine (HL2.out _ (SlcAt.mono HA.out BA.out) N3.out).mono ?_
        rintro e w4 ⟨u4, rfl, l4, b4⟩
        have hbB := below_step b4 (below_alloc w4 (.cells #[.int .i64 0, .int .i64 0] 28))
        have X4 := Lib.hid (obj_new w4 _ rfl #[.int .i64 0, .int .i64 0] 28)
        have L4 := Lib.hid (LinsAt.mono l4 (below_alloc w4 (.cells #[.int .i64 0, .int .i64 0] 28)))
        obtain ⟨WB, hWB⟩ : ∃ WB, WB = w4.alloc (.cells #[.int .i64 0, .int .i64 0] 28) := ⟨_, rfl⟩
        obtain ⟨P2, hP2⟩ : ∃ P, P = w4.heap.size := ⟨_, rfl⟩
        rw [← hWB] at hbB X4 L4
        rw [← hP2] at X4
        have BB := Lib.hid (below_step BA.out hbB)
        clear hbB l4 b4 c0
        go_upto_region 7 with fail
        rw [← hWB, ← hP2]
        clear hWB hP2
        have c0 : WB.cell? ⟨P2, 0, none⟩ = some (.int .i64 0) := Lib.cell_of_heap X4.out 0
        obtain ⟨av, cv, rfl, hml, hpart⟩ := lins_parts L4.out
        rw [hll] at hml ⊢
        have HPt := Lib.hid hpart
        have HB0 := Lib.hid (Below.refl WB.heap.size WB)
        clear hml hpart
        go_wp2_with fail
        go_loopw [10] (fun iv wr => ∃ k : Nat, k ≤ bs.length ∧ iv = .int .i64 k ∧ Hid (Below WB.heap.size WB wr)) (fun iv _ => bs.length - (intOf iv).toNat)
        case atStart => exact ⟨0, Nat.zero_le _, rfl, HB0⟩
        case round =>
          obtain ⟨k, hk, rfl, HB⟩ := hrel
          clear HB0 c0
          by_cases hlt : k < bs.length
          · obtain ⟨x, hx⟩ : ∃ x, ls[k]? = some x := ⟨_, List.getElem?_eq_getElem (by rw [hll]; exact hlt)⟩
            obtain ⟨b2, o2, r, rfl, hr, hlr⟩ := HPt.out wr HB.out k x hx
            obtain ⟨b, hb, hlv⟩ := HCh.out k x hx
            obtain ⟨_, hen, _, _, hb0, hbn, hbad0, hxb, y, hy, hf1, hf2⟩ := It.line_ok HMay.out hlv
            have hbk := HBad.out x (List.mem_of_getElem? hx)
            have hf2 := hf2 hbk
            obtain ⟨kb, hkb⟩ : ∃ j : Nat, b = (j : Int) := ⟨b.toNat, by omega⟩
            subst hkb
            rw [Int.toNat_natCast] at hy
            rw [← Hn.out] at hbn
            have hen2 : r.en = (kb : Int) := by rw [hlr.en, hen]
            have hx2 : r.x = x.x := hlr.x
            have hbd2 : r.bad = x.bad := hlr.bad
            have hx0 : 0 ≤ r.x := by
              rw [hx2]
              exact It.apart_low (It.line_ok HMay.out hlv).1 (It.bs_w HMay.out hlv)
            rw [← hx2] at hxb hf1 hf2
            rw [← hbd2] at hf1
            obtain ⟨x0, x1, x2, x3, x4, x5⟩ := lr_cells hr
            rw [hen2] at x1
            have k0 : (0 : Int) ≤ (k : Int) := by omega
            have kl : (k : Int) < (bs.length : Int) := by omega
            have j0 : (0 : Int) ≤ (kb : Int) := by omega
            have jl : (kb : Int) < (n : Int) := hbn
            obtain ⟨b1, o1, d1, e1, r1⟩ := HA.out.2.2 (by rw [← Hn.out]; omega)
            rw [← Hn.out] at e1
            obtain ⟨rfl, rfl⟩ : p = some ⟨b1, o1, none⟩ ∧ cp = d1 := by injection e1 with a1 a2 a3; exact ⟨a1, a3⟩
            have HRy := Lib.hid (r1 kb y hy)
            have HRw := Lib.hid (fun h2 => right_w HMay.out hy h2)
            have hb2 := below_alloc wr (.cells #[.int .i64 r.fr, .int .i64 (kb : Int), .slice r.a r.n r.c, .bool r.hy, .int .i64 r.x, .int .i64 r.bad] 44)
            have HQ := Lib.hid (obj_new wr _ rfl #[.int .i64 r.fr, .int .i64 (kb : Int), .slice r.a r.n r.c, .bool r.hy, .int .i64 r.x, .int .i64 r.bad] 44)
            obtain ⟨W2, hW2⟩ : ∃ W2, W2 = wr.alloc (.cells #[.int .i64 r.fr, .int .i64 (kb : Int), .slice r.a r.n r.c, .bool r.hy, .int .i64 r.x, .int .i64 r.bad] 44) := ⟨_, rfl⟩
            obtain ⟨Q, hQ⟩ : ∃ Q, Q = wr.heap.size := ⟨_, rfl⟩
            rw [← hW2] at hb2 HQ
            rw [← hQ] at HQ
            have HB2 := Lib.hid (below_step HB.out hb2)
            clear e1 r1 hx hr hlr hb hlv hy hen hb2 hx2 hbd2 hen2
            go_upto_region 13 with fail
            rw [← hW2, ← hQ]
            clear hW2 hQ x0 x1 x2 x3 x4 x5
            have q1 : W2.cell? ⟨Q, 1, none⟩ = some (.int .i64 (kb : Int)) := Lib.cell_of_heap HQ.out 1
            have q4 : W2.cell? ⟨Q, 4, none⟩ = some (.int .i64 r.x) := Lib.cell_of_heap HQ.out 4
            have q5 : W2.cell? ⟨Q, 5, none⟩ = some (.int .i64 r.bad) := Lib.cell_of_heap HQ.out 5
            obtain ⟨y0, y1, _⟩ := it_cells (HRy.out.mono (below_step BB.out HB2.out))
            by_cases hy2 : y.k = 2
            · rw [if_pos hy2] at hf1 hf2
              rw [hy2] at y0
              obtain ⟨g0, g1⟩ := HRw.out hy2
              by_cases hb4 : r.bad < 10000
              · have hE : r.x + y.g.w = t := hf1 hb4
                have hEt : ¬ (t < r.x + y.g.w) := by omega
                have hEn : (r.x + y.g.w != t) = false := by rw [hE]; simp
                have hkn := Nat.succ_le_of_lt hlt
                have kw := wSum hx0 hxb g0 g1
                have kw2 := wSum' hx0 hxb g0 g1
                go_wp2
                clear kw kw2
                go_roundw
                case rel => exact ⟨k + 1, hkn, by go_num, HB2⟩
                case measure => simp [intOf]; omega
              · have hEt : ¬ (t < r.x + y.g.w) := by omega
                have hkn := Nat.succ_le_of_lt hlt
                have kw := wSum hx0 hxb g0 g1
                have kw2 := wSum' hx0 hxb g0 g1
                go_wp2
                clear kw kw2
                go_roundw
                case rel => exact ⟨k + 1, by omega, by go_num, HB2⟩
                case measure => simp [intOf]; omega
            · rw [if_neg hy2, Int.add_zero] at hf1 hf2
              have hyb : (y.k == 2) = false := by simpa using hy2
              by_cases hb4 : r.bad < 10000
              · have hE : r.x = t := hf1 hb4
                have hEt : ¬ (t < r.x) := by omega
                have hEn : (r.x != t) = false := by rw [hE]; simp
                have hkn := Nat.succ_le_of_lt hlt
                skip
                go_wp2
                skip
                go_roundw
                case rel => exact ⟨k + 1, hkn, by go_num, HB2⟩
                case measure => simp [intOf]; omega
              · have hEt : ¬ (t < r.x) := by omega
                have hkn := Nat.succ_le_of_lt hlt
                skip
                go_wp2
                skip
                go_roundw
                case rel => exact ⟨k + 1, by omega, by go_num, HB2⟩
                case measure => simp [intOf]; omega
          · obtain rfl : k = bs.length := by omega
            go_wp2
            go_ret
            exact ⟨rfl, below_step BB.out HB.out⟩
      · have hcb : (c == 0) = false := by simpa using hc
        have hcn : (c != 0) = true := by simpa using hc
        go_wp2
        go_ret
        exact ⟨rfl, BA.out⟩
end Go.Proofs.Ythcilpijiindeaa
namespace Go.Proofs.Ythcilpijiindeaa
open Go.ChangeShapes Go.WideShapes Go.ChangeAt Go.RowKit
theorem uFi12 : Try.prog.underlying 50 = some (.struct (Try.prog.fieldsOf 50)) := by kernel_rfl
theorem cFi12 : Try.prog.cellsOf 50 = 2 := by kernel_rfl
section
variable {H : Type} {enc : TypeId × Value → H} {W : World} {base : Nat} {held : Bool} {spare : Nat → Bool}
set_option maxRecDepth 100000 in
theorem first_in {v : Value} {d : DataW H} {p : List MemPlace} (h : DataW.Trod enc Try.prog W base spare held 50 v d p) {cs : Array Value} (hv : v = .agg cs) : ∃ a b : Int, v = .agg #[.int .i64 a, .int .i64 b] := by
  obtain ⟨fuel, hf⟩ := h
  subst hv
  obtain ⟨f0, f1, hfs, ⟨t0, o0⟩, ⟨t1, o1⟩⟩ := two_fields (show (Try.prog.fieldsOf 50).toList.map (fun f => (f.type, f.offset)) = [(3, 0), (2, 1)] by kernel_rfl)
  obtain ⟨xs, m, hm', hxe, hcl, hxl, hxi⟩ := DataW.trod_struct uFi12 hf
  have hcs : (Value.agg cs).cells.toList = cs.toList := rfl
  rw [hcs] at hcl hxi
  rw [hfs] at hxl hxi
  rw [cFi12] at hcl
  obtain ⟨l⟩ := cs
  simp only [] at hcl hxi
  match l, hcl, xs, hxl with
  | [v0, v1], _, [y0, y1], _ =>
    have g0 := hxi 0 f0 rfl
    have g1 := hxi 1 f1 rfl
    rw [t0, o0, cInt9] at g0
    rw [t1, o1, cI649] at g1
    simp at g0 g1
    obtain ⟨a, e0, _, w0⟩ := DataW.trod_int Try.underlying3 g0
    obtain ⟨b, e1, _, w1⟩ := DataW.trod_int Try.underlying2 g1
    simp at e0 e1
    subst e0 e1
    exact ⟨a, b, rfl⟩
end
end Go.Proofs.Ythcilpijiindeaa
namespace Go.Proofs.Ythcilpijiindeaa
open Go.ChangeShapes Go.WideShapes Go.ChangeAt Go.RowKit

set_option maxRecDepth 100000 in
/-- WHAT THE WALK GIVES, FOR EVERY ARGUMENT AND EVERY WORLD. -/
theorem setterWide_contract (H : Type) (enc : TypeId × Value → H) (W : World) (base : Nat) (args : Array Value) (ds gs : List (DataW H)) (before : List MemPlace)
    (hval : ∀ (j : Nat) t v, Try.f5.params[j]? = some t → args[j]? = some v → Value.okWide Try.prog W .any base t v)
    (hW : DataW.Whole enc Try.prog Try.f5.params.toList Rows.setterWideSpec.vars false W args.toList ds gs before) (hk : (DataW.weightsEach Try.prog (Try.f5.params.toList ++ (OpenSpec.ofChange Rows.setterWideSpec).bare.plain.varTypes Try.prog) (ds ++ gs)).all (· ≤ reachBytes) = true) :
    Calls Try.prog 5 args W fun e W' => ∃ v, e = .returned v ∧ Rows.setterWideSpec.post enc Try.prog Try.f5 false true false false W args v W' := by
  have hW' := hW
  have hlt : ∀ x ∈ before, x.block < W.heap.size := fun x hx => hW'.lt x hx
  obtain ⟨p, q, hA0, hV, hbe, hfz, hnd⟩ := hW
  have hA : DataW.TrodAll enc Try.prog W 0 (fun _ => true) true Try.f5.params.toList args.toList ds p := hA0
  rw [Try.params5] at hA hval hk
  have hAk := hA
  obtain ⟨v0, vs0, d0, ds0, p0, q0, hargs, rfl, rfl, h0, r0⟩ := trodAll_cons hA
  obtain ⟨v1, vs1, d1, ds1, p1, q1, rfl, rfl, rfl, h1, r1⟩ := trodAll_cons r0
  obtain ⟨rfl, rfl, rfl⟩ := trodAll_nil r1
  obtain rfl : args = #[v0, v1] := by cases args; simp_all
  obtain ⟨rfl, rfl⟩ := trodVars_none hV
  obtain ⟨pa0, len0, cap0, hp0⟩ := okWide_slice Try.underlying22 (hval 0 _ v0 rfl rfl)
  obtain ⟨xs0, hxs0, _⟩ := items_in h0 (by rw [hp0]; rfl)
  obtain ⟨x1, rfl⟩ := okWide_int Try.underlying2 (hval 1 _ v1 rfl rfl)
  refine (lawWide v0 xs0 x1 W hxs0).mono fun e W' ⟨he, hb⟩ => ?_
  subst he
  have e1 : Rows.setterWideSpec.fn H ([d0, d1] ++ []) = { results := [.lit (.bool true)], args := [d0, d1] } := rfl
  refine ⟨_, rfl, [d0, d1], [], before, [], p0 ++ (p1 ++ []), [], hW', ?_, ?_, ?_, hb.frame _, fun h => by cases h⟩
  · rw [e1]; exact trodAll_mk1 (shut_bool Try.underlying4 true)
  · rw [e1, Try.params5]
    exact args_kept laidOut hb _ _ _ _ (by
      intro t ht
      have : t = 22 ∨ t = 2 := by simpa using ht
      rcases this with rfl | rfl
      all_goals exact ⟨by kernel_rfl, of_decide_eq_true (by kernel_rfl)⟩) hAk (fun x hx => hlt x (by rw [hbe]; exact List.mem_append_left _ hx))
  · rw [e1]; rfl

theorem setterWide_laid_met (os : Os) : laidMet Try.prog Rows.setterWideRow.laid ((World.laidAll Try.prog os laidList).forCall (fun _ _ => 0) ⟨#[], #[.slice none 0 0, .int .i64 0], []⟩).memory :=
  laidMet_laidAll _ (by kernel_rfl) (by kernel_rfl)
theorem setterWide_reads (os : Os) {H : Type} (enc : TypeId × Value → H) : ∃ places, DataW.whole enc Try.prog ((World.laidAll Try.prog os laidList).forCall (fun _ _ => 0) ⟨#[], #[.slice none 0 0, .int .i64 0], []⟩).memory Try.f5.params.toList Rows.setterWideSpec.vars false #[Value.slice none 0 0, .int .i64 0].toList 8 = some ([.nil, .lit (.int .i64 0)], [], places) :=
  ⟨[], by kernel_rfl⟩

set_option maxRecDepth 100000 in
theorem setterWide_lifted (os : Os) (started : os.Started) (H : Type) (enc : TypeId × Value → H) (F : Stop.Interp) :
    ReturnsInHanded {} Try.checked os 5 .any ((OpenSpec.ofChange Rows.setterWideSpec).preRow enc Try.prog Try.f5 Rows.setterWideRow.domain false Rows.setterWideRow.laid) (((OpenSpec.ofChange Rows.setterWideSpec).at F).post enc Try.prog Try.f5 false true false false) := by
  obtain ⟨places, hx⟩ := setterWide_reads os enc
  refine returnsInHanded_of_row (C := Try.checked) (s := OpenSpec.ofChange Rows.setterWideSpec) own started (by kernel_rfl) Try.func5
    (witness_row_atRef (enc := enc) (C := Try.checked) false (World.laidAll Try.prog os laidList) #[.slice none 0 0, .int .i64 0] (World.laidAll_os _ _ _) (by kernel_rfl) (by kernel_rfl) (by kernel_rfl)
      (OpenSpec.preRow_of_cond 8 hx (by kernel_rfl) (fun k hk => by cases hk) (by kernel_rfl) (setterWide_laid_met os))) ?_
  intro W base args ds gs before hval hW _ _ hz hL hsh _
  exact setterWide_contract H enc W base args ds gs before hval hW hz

theorem setterWide_full : Rows.SetterWideSaid :=
  OpenClaim.holds_of_cond 5 Try.f5 rfl rfl rfl rfl rfl rfl rfl ⟨rfl, rfl, rfl, rfl, rfl⟩ rfl rfl rfl rfl rfl (by kernel_rfl) Try.func5 (by kernel_rfl)
    (of_decide_eq_true (by kernel_rfl)) (by unfold Func.isWrapper; first | (rw [if_pos (by decide +kernel)]; kernel_rfl) | (rw [if_neg (by decide +kernel)]; exact ⟨rfl, rfl⟩))
    (fun os started H enc _ F => by rw [OpenClaim.pre_eq_preRow]; exact setterWide_lifted os started H enc F)

end Go.Proofs.Ythcilpijiindeaa
