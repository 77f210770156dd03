/-
  The landed set: one line, from a break to another one.
-/
import Derived.Test.YthcilpijiindeaaPlace12
import Derived.Test.YthcilpijiindeaaLineAll10
set_option linter.unusedVariables false
set_option linter.unusedSimpArgs false
namespace Go.Proofs.Ythcilpijiindeaa
open Go.RowKit

/-- a line's record set anew -/
def putLn (w : World) (b : Nat) (r : LinR) : World := (((((w.setCell ⟨b, 0, none⟩ (.int .i64 r.fr)).setCell ⟨b, 1, none⟩ (.int .i64 r.en)).setCell ⟨b, 2, none⟩ (.slice r.a r.n r.c)).setCell ⟨b, 3, none⟩ (.bool r.hy)).setCell ⟨b, 4, none⟩ (.int .i64 r.x)).setCell ⟨b, 5, none⟩ (.int .i64 r.bad)
theorem six_set12 {w0 : World} {p : Nat} {cs : Array Value} {T : TypeId} (h : w0.heap[p]? = some (.cells cs T (0, 0))) (hn : cs.size = 6) (r : LinR) : (putLn w0 p r).heap[p]? = some (.cells #[.int .i64 r.fr, .int .i64 r.en, .slice r.a r.n r.c, .bool r.hy, .int .i64 r.x, .int .i64 r.bad] T (0, 0)) := by
  have h5 := heap_setCell_same _ p 5 _ T (.int .i64 r.bad) (heap_setCell_same _ p 4 _ T (.int .i64 r.x) (heap_setCell_same _ p 3 _ T (.bool r.hy) (heap_setCell_same _ p 2 _ T (.slice r.a r.n r.c) (heap_setCell_same _ p 1 _ T (.int .i64 r.en) (heap_setCell_same w0 p 0 _ T (.int .i64 r.fr) h)))))
  unfold putLn
  rw [h5]
  obtain ⟨l⟩ := cs
  have hl : l.length = 6 := hn
  clear hn h h5
  match l, hl with
  | [x0, x1, x2, x3, x4, x5], _ => simp only [List.setIfInBounds_toArray, List.set_cons_zero, List.set_cons_succ]
theorem putLn_grown (w : World) (b : Nat) (r : LinR) : w.grownBy (putLn w b r) (some b) := grown_set12 (grown_set12 (grown_set12 (grown_set12 (grown_set12 (grown_set12 (World.grownBy.refl w _))))))
def linZ : LinR := ⟨0, 0, none, 0, 0, false, 0, 0⟩
def SetPost (x : Option It.Lin) (w : World) (e : Ending) (w' : World) : Prop :=
  match x with
  | none => e = .returned (.tuple #[lrV linZ, .bool false]) ∧ Below w.heap.size w w'
  | some x => ∃ r, e = .returned (.tuple #[lrV r, .bool true]) ∧ LinOwn w.heap.size w' r x ∧ Below w.heap.size w w'
theorem linV_none {l : List It.Itm} {a b t : Int} (h : It.lineOf l a b t = none) : It.linV l a b t = none := by unfold It.linV; rw [h]; rfl
theorem linV_of {l : List It.Itm} {a b t : Int} {s : It.Stg} (h : It.lineOf l a b t = some s) : It.linV l a b t = some (It.linS l a b s) := by unfold It.linV; rw [h]; rfl
theorem widths_of {l : List It.Itm} {a b t : Int} {s : It.Stg} (h : It.lineOf l a b t = some s) : It.widths (It.gluesN l (a + 1).toNat b.toNat) t = some (It.lws l a b s) := by
  obtain ⟨_, h2⟩ := It.lineOf_some h
  unfold It.widths
  rw [h2]
  rfl
theorem lws_len {l : List It.Itm} {a b t : Int} {s : It.Stg} (h : It.lineOf l a b t = some s) : ((It.lits l a b).filter It.gluey).length ≤ (It.lws l a b s).length := by
  obtain ⟨h1, h2⟩ := It.lineOf_some h
  obtain ⟨_, _, g3⟩ := It.isLine_st h1
  unfold It.lws
  rw [It.widF_len, gluesN_is, List.length_append, g3]
  unfold gla It.lits
  rw [List.length_map]
  omega
theorem own_low {α : Type} {T : TypeId} {f : α → List Value} {k B C : Nat} {v : Value} {l : List α} {w : World} (h : OwnR T f k B v l w) (hC : C ≤ B) : OwnR T f k C v l w := by
  refine ⟨h.1, ?_⟩
  rcases h.2 with h1 | ⟨g, cp, cu, e, hB, rest⟩
  · exact .inl h1
  · exact .inr ⟨g, cp, cu, e, by omega, rest⟩
set_option maxHeartbeats 8000000 in
set_option maxRecDepth 100000 in
theorem set12_any (v : Value) (l : List It.Itm) (a b t : Int) (w : World) (hI : ItsAt w v l) (hlen : l.length ≤ 2000) : Calls Try.prog 19 #[v, .int .i64 a, .int .i64 b, .int .i64 t] w (SetPost (It.linV l a b t) w) := by
  have HA := Lib.hid hI
  have HLn := Lib.hid (fun w h => line_any v l a b t w h hlen)
  obtain ⟨⟨p, cp, rfl, hcap⟩, hm, _⟩ := hI
  obtain ⟨P8, hP8⟩ : ∃ P, P = w.heap.size := ⟨_, rfl⟩
  obtain ⟨W1, hW1⟩ : ∃ W1, W1 = w.alloc (.cells #[.int .i64 0, .int .i64 0, .slice none 0 0, .bool false, .int .i64 0, .int .i64 0] 44) := ⟨_, rfl⟩
  have hb1 := below_alloc w (.cells #[.int .i64 0, .int .i64 0, .slice none 0 0, .bool false, .int .i64 0, .int .i64 0] 44)
  have HX1 := Lib.hid (obj_new w _ rfl #[.int .i64 0, .int .i64 0, .slice none 0 0, .bool false, .int .i64 0, .int .i64 0] 44)
  rw [← hW1] at hb1 HX1
  rw [← hP8] at HX1
  have HB1 := Lib.hid hb1
  have HA1 := Lib.hid (SlcAt.mono HA.out hb1)
  have HPw := Lib.hid hP8
  clear hb1
  cases hz : It.lineOf l a b t with
  | none =>
    rw [linV_none hz]
    rw [hz] at HLn
    unfold setV at HLn
    simp only [] at HLn
    obtain ⟨n, hn⟩ : ∃ n, n = l.length := ⟨_, rfl⟩
    rw [← hn] at HLn HA1 ⊢
    clear hz hcap hm hn
    go_enter Try.func19, Try.ntmps19
    go_upto_region 1 with fail
    rw [← hW1, ← hP8]
    clear hW1 hP8
    go_wp2_with fail
    refine (HLn.out _ HA1.out).mono ?_
    rintro e w2 ⟨rfl, hb2⟩
    have HX2 := Lib.hid (obj_kept hb2 HX1.out)
    have HB2 := Lib.hid (below_step HB1.out hb2)
    clear hb2
    have HB3 := Lib.hid (below_step HB2.out (below_alloc w2 (.cells #[.int .i64 0, .int .i64 0, .int .i64 0, .int .i64 0] 56)))
    have HX3 := Lib.hid (obj_kept (below_alloc w2 (.cells #[.int .i64 0, .int .i64 0, .int .i64 0, .int .i64 0] 56)) HX2.out)
    obtain ⟨W3, hW3⟩ : ∃ W3, W3 = w2.alloc (.cells #[.int .i64 0, .int .i64 0, .int .i64 0, .int .i64 0] 56) := ⟨_, rfl⟩
    rw [← hW3] at HB3 HX3
    go_upto_region 2 with fail
    rw [← hW3]
    clear hW3
    have q0 := Lib.cell_of_heap HX3.out 0
    have q1 := Lib.cell_of_heap HX3.out 1
    have q2 := Lib.cell_of_heap HX3.out 2
    have q3 := Lib.cell_of_heap HX3.out 3
    have q4 := Lib.cell_of_heap HX3.out 4
    have q5 := Lib.cell_of_heap HX3.out 5
    have f0 := Lib.frozen_of_heap HX3.out 0
    have f1 := Lib.frozen_of_heap HX3.out 1
    have f2 := Lib.frozen_of_heap HX3.out 2
    have f3 := Lib.frozen_of_heap HX3.out 3
    have f4 := Lib.frozen_of_heap HX3.out 4
    have f5 := Lib.frozen_of_heap HX3.out 5
    have H6 := Lib.hid (six_set12 HX3.out rfl linZ)
    have HG := Lib.hid (putLn_grown W3 P8 linZ)
    unfold putLn linZ at H6 HG
    simp only [] at H6 HG
    go_wp2
    obtain ⟨WX, hWX⟩ : ∃ WX, WX = (((((W3.setCell ⟨P8, 0, none⟩ (.int .i64 0)).setCell ⟨P8, 1, none⟩ (.int .i64 0)).setCell ⟨P8, 2, none⟩ (.slice none 0 0)).setCell ⟨P8, 3, none⟩ (.bool false)).setCell ⟨P8, 4, none⟩ (.int .i64 0)).setCell ⟨P8, 5, none⟩ (.int .i64 0) := ⟨_, rfl⟩
    rw [← hWX] at H6 HG ⊢
    clear hWX q0 q1 q2 q3 q4 q5
    have q0 := Lib.cell_of_heap H6.out 0
    have q1 := Lib.cell_of_heap H6.out 1
    have q2 := Lib.cell_of_heap H6.out 2
    have q3 := Lib.cell_of_heap H6.out 3
    have q4 := Lib.cell_of_heap H6.out 4
    have q5 := Lib.cell_of_heap H6.out 5
    exact bodyPost_ret (v := .tuple #[.agg #[.int .i64 0, .int .i64 0, .slice none 0 0, .bool false, .int .i64 0, .int .i64 0], .bool false]) (by simp [results, Try.results19, go_sem, q0, q1, q2, q3, q4, q5]) rfl ⟨rfl, HB3.out.grown HG.out HB3.out.size (fun j hj => by cases hj; rw [HPw.out]; exact Nat.le_refl _)⟩
  | some s =>
    rw [linV_of hz]
    rw [hz] at HLn
    unfold setV stgV at HLn
    simp only [] at HLn
    obtain ⟨hl1, hl2⟩ := It.lineOf_some hz
    obtain ⟨i1, i2, i3, i4, i5, _⟩ := It.isLine_lt hl1
    obtain ⟨g1, g2, g3⟩ := It.isLine_st hl1
    have HWd := Lib.hid (widths_of hz)
    have HLw := Lib.hid (lws_len hz)
    have hg2000 := (It.glMay_yes (It.setOf_some hl2).1).1
    obtain ⟨sa, hsa⟩ : ∃ k : Nat, a + 1 = (k : Int) := ⟨(a + 1).toNat, by omega⟩
    obtain ⟨k, hk⟩ : ∃ k : Nat, b = (k : Int) := ⟨b.toNat, by omega⟩
    subst hk
    have hta : (a + 1).toNat = sa := by omega
    have HEx : Hid (It.linS l a (k : Int) s = ⟨(It.st l sa : Nat), (k : Int), (It.lay (It.lws l a (k : Int) s) (It.lits l a (k : Int))).2.1, It.flagN l k, (It.lay (It.lws l a (k : Int) s) (It.lits l a (k : Int))).2.2, s.bad⟩) := Lib.hid (by unfold It.linS; rw [hta]; rfl)
    rw [hta] at HWd g1 g2 hg2000
    rw [Int.toNat_natCast] at HWd g2 hg2000
    have hkl : k < l.length := by omega
    obtain ⟨x, hx⟩ : ∃ x, l[k]? = some x := ⟨_, List.getElem?_eq_getElem hkl⟩
    have HFl : Hid (It.flagN l k = x.f) := Lib.hid (by unfold It.flagN; rw [hx])
    have hitd : It.lits l a (k : Int) = (l.take k).drop (It.st l sa) := by unfold It.lits; rw [hta, Int.toNat_natCast]
    have HSt := Lib.hid (fun w h => start_any (.slice p l.length cp) l a sa hsa (by omega) w h)
    have HGl := Lib.hid (fun w h => glues_any (.slice p l.length cp) l a (k : Int) sa k hsa rfl (by omega) hkl hlen w h)
    generalize It.st l sa = F at *
    have HMid0 := slc_mid rfl HA.out F k g2 (by omega)
    rw [← hitd] at HMid0
    have HMid := Lib.hid HMid0
    have HL2 : Hid ((It.lits l a (k : Int)).length ≤ 2000) := Lib.hid (by rw [hitd, List.length_drop, List.length_take]; omega)
    clear hitd HMid0
    generalize It.lits l a (k : Int) = its at *
    generalize It.lws l a (k : Int) s = ws at *
    generalize It.gluesN l sa k = G at *
    have HWt : Hid (∀ u w1, GlsAt w1 u G → Calls Try.prog 30 #[u, .int .i64 t] w1 fun e w' => ∃ b, w1.heap.size ≤ b ∧ e = .returned (.tuple #[.slice (some ⟨b, 0, none⟩) ws.length ws.length, .bool true]) ∧ LensAt w' (.slice (some ⟨b, 0, none⟩) ws.length ws.length) ws ∧ Below w1.heap.size w1 w') := Lib.hid (fun u w1 h => by
      refine (widths_any u G t w1 h hg2000).mono ?_
      rintro e w' ⟨u, rfl, h1, h2⟩
      rw [HWd.out] at h1
      obtain ⟨b, hb, rfl, hl⟩ := h1
      exact ⟨b, hb, rfl, hl, h2⟩)
    have hs3 := fun wx => run_mid10 p l.length F k cp g2 (by omega) wx
    have hs4 : ∀ wx, (Instr.sliceAt 22 (.slice p l.length cp) (some (.int .i64 (F : Int))) (some (.int .i64 (k : Int))) none).run Try.prog wx = .ok (.slice (tailA p F cp) (k - F) (cp - F)) wx := fun wx => by rw [run_sliceAt_slice (h := by rw [elemIt]; exact Try.underlying22)]; exact hs3 wx
    obtain ⟨q, hq⟩ : ∃ q, q = tailA p F cp := ⟨_, rfl⟩
    rw [← hq] at hs3 hs4 HMid
    obtain ⟨c2, hc2⟩ : ∃ c2, c2 = cp - F := ⟨_, rfl⟩
    rw [← hc2] at hs3 hs4 HMid
    obtain ⟨c, hc⟩ : ∃ c, c = k - F := ⟨_, rfl⟩
    rw [← hc] at hs3 hs4 HMid
    obtain ⟨b1, o1, d1, e1, r1⟩ := HA.out.2.2 (by omega)
    obtain ⟨rfl, rfl⟩ : p = some ⟨b1, o1, none⟩ ∧ cp = d1 := by injection e1 with a1 a2 a3; exact ⟨a1, a3⟩
    have HR := Lib.hid (r1 k x hx)
    obtain ⟨n, hn⟩ : ∃ n, n = l.length := ⟨_, rfl⟩
    have Hn := Lib.hid hn
    have k0 : (0 : Int) ≤ (k : Int) := by omega
    have kl : (k : Int) < (n : Int) := by omega
    rw [← hn] at HLn HA1 HA HSt HGl hs3 hs4 ⊢
    clear hz hcap hm hn e1 r1 hx hkl hl1 hl2 i1 i2 i3 i4 i5 g1 g2 g3 hg2000 hsa hta hq hc2 hc hlen
    rw [HEx.out]
    go_enter Try.func19, Try.ntmps19
    go_upto_region 1 with fail
    rw [← hW1, ← hP8]
    clear hW1 hP8
    go_wp2_with fail
    refine (HLn.out _ HA1.out).mono ?_
    rintro e w2 ⟨rfl, hb2⟩
    have HX2 := Lib.hid (obj_kept hb2 HX1.out)
    have HB2 := Lib.hid (below_step HB1.out hb2)
    clear hb2
    have HB3 := Lib.hid (below_step HB2.out (below_alloc w2 (.cells #[.int .i64 s.sg, .int .i64 s.o, .int .i64 s.e, .int .i64 s.bad] 56)))
    have HX3 := Lib.hid (obj_kept (below_alloc w2 (.cells #[.int .i64 s.sg, .int .i64 s.o, .int .i64 s.e, .int .i64 s.bad] 56)) HX2.out)
    have HS3 := Lib.hid (obj_new w2 _ rfl #[.int .i64 s.sg, .int .i64 s.o, .int .i64 s.e, .int .i64 s.bad] 56)
    obtain ⟨W3, hW3⟩ : ∃ W3, W3 = w2.alloc (.cells #[.int .i64 s.sg, .int .i64 s.o, .int .i64 s.e, .int .i64 s.bad] 56) := ⟨_, rfl⟩
    rw [← hW3] at HB3 HX3 HS3
    obtain ⟨Q, hQ⟩ : ∃ Q, Q = w2.heap.size := ⟨_, rfl⟩
    rw [← hQ] at HS3
    go_upto_region 4 with fail
    rw [← hW3, ← hQ]
    clear hW3 hQ
    have HBd := Lib.hid (below_step HB3.out (below_drew10w W3))
    have HStd := Lib.hid (HSt.out W3.drew (SlcAt.mono HA.out HBd.out))
    have c6 : W3.cell? ⟨b1, o1 + k * 9 + 6, none⟩ = some (.bool x.f) := (it_cells (HR.out.mono HB3.out)).2.2.2.2.2.2.1
    have c3 : W3.cell? ⟨Q, 3, none⟩ = some (.int .i64 s.bad) := Lib.cell_of_heap HS3.out 3
    have HBe := Lib.hid (below_step HB3.out (below_step (below_alloc W3 (.cells #[.int .i64 0, .int .i64 0, .slice none 0 0, .bool false, .int .i64 0, .int .i64 0] 44)) (below_drew10w _)))
    have HSte := Lib.hid (HSt.out ((W3.alloc (.cells #[.int .i64 0, .int .i64 0, .slice none 0 0, .bool false, .int .i64 0, .int .i64 0] 44)).drew) (SlcAt.mono HA.out HBe.out))
    have HXe := Lib.hid (obj_kept (below_drew10w _) (obj_kept (below_alloc W3 (.cells #[.int .i64 0, .int .i64 0, .slice none 0 0, .bool false, .int .i64 0, .int .i64 0] 44)) HX3.out))
    have HSe := Lib.hid (obj_kept (below_drew10w _) (obj_kept (below_alloc W3 (.cells #[.int .i64 0, .int .i64 0, .slice none 0 0, .bool false, .int .i64 0, .int .i64 0] 44)) HS3.out))
    have HPe := Lib.hid (obj_kept (below_drew10w _) (obj_new W3 _ rfl #[.int .i64 0, .int .i64 0, .slice none 0 0, .bool false, .int .i64 0, .int .i64 0] 44))
    have HPl2 : Hid (w.heap.size ≤ W3.heap.size) := Lib.hid HB3.out.size
    have HPn2 : Hid (P8 ≠ W3.heap.size) := Lib.hid (by have := lt_of_obj HX3.out; omega)
    have HPq2 : Hid (Q ≠ W3.heap.size) := Lib.hid (by have := lt_of_obj HS3.out; omega)
    have hSd : W3.drew.cell? ⟨b1, o1 + k * 9 + 6, none⟩ = some (.bool x.f) ∧ W3.drew.cell? ⟨Q, 3, none⟩ = some (.int .i64 s.bad) := ⟨c6, c3⟩
    have hSe : ((W3.alloc (.cells #[.int .i64 0, .int .i64 0, .slice none 0 0, .bool false, .int .i64 0, .int .i64 0] 44)).drew).cell? ⟨b1, o1 + k * 9 + 6, none⟩ = some (.bool x.f) ∧ ((W3.alloc (.cells #[.int .i64 0, .int .i64 0, .slice none 0 0, .bool false, .int .i64 0, .int .i64 0] 44)).drew).cell? ⟨Q, 3, none⟩ = some (.int .i64 s.bad) := ⟨(it_cells (HR.out.mono HBe.out)).2.2.2.2.2.2.1, Lib.cell_of_heap HSe.out 3⟩
    go_region_held3 (fun w' => w'.cell? ⟨b1, o1 + k * 9 + 6, none⟩ = some (.bool x.f) ∧ w'.cell? ⟨Q, 3, none⟩ = some (.int .i64 s.bad)) (first | (with_reducible exact hSd) | (with_reducible exact hSe) | (with_reducible exact hS4) | (with_reducible exact hS5) | go_keep) (first | ((with_reducible refine HStd.out.mono ?_); rintro e w4 ⟨rfl, hb4⟩; have HX4 := Lib.hid (obj_kept hb4 (obj_kept (below_drew10w W3) HX3.out)); have HS4 := Lib.hid (obj_kept hb4 (obj_kept (below_drew10w W3) HS3.out)); have HB4 := Lib.hid (below_step HBd.out hb4); have hS4 : w4.cell? ⟨b1, o1 + k * 9 + 6, none⟩ = some (.bool x.f) ∧ w4.cell? ⟨Q, 3, none⟩ = some (.int .i64 s.bad) := ⟨(it_cells (HR.out.mono HB4.out)).2.2.2.2.2.2.1, Lib.cell_of_heap HS4.out 3⟩; have hS5 : (w4.alloc (.cells #[.int .i64 (F : Int), .int .i64 (k : Int), .slice none 0 0, .bool x.f, .int .i64 0, .int .i64 s.bad] 44)).cell? ⟨b1, o1 + k * 9 + 6, none⟩ = some (.bool x.f) ∧ (w4.alloc (.cells #[.int .i64 (F : Int), .int .i64 (k : Int), .slice none 0 0, .bool x.f, .int .i64 0, .int .i64 s.bad] 44)).cell? ⟨Q, 3, none⟩ = some (.int .i64 s.bad) := ⟨(it_cells (HR.out.mono (below_step HB4.out (below_alloc _ _)))).2.2.2.2.2.2.1, Lib.cell_of_heap (obj_kept (below_alloc _ _) HS4.out) 3⟩; clear hb4) | ((with_reducible refine HSte.out.mono ?_); rintro e w4 ⟨rfl, hb4⟩; have HX4 := Lib.hid (obj_kept hb4 HXe.out); have HS4 := Lib.hid (obj_kept hb4 HSe.out); have HB4 := Lib.hid (below_step HBe.out hb4); have HP4 := Lib.hid (obj_kept hb4 HPe.out); have cz0 := Lib.cell_of_heap HP4.out 0; have cz1 := Lib.cell_of_heap HP4.out 1; have cz2 := Lib.cell_of_heap HP4.out 2; have cz3 := Lib.cell_of_heap HP4.out 3; have cz4 := Lib.cell_of_heap HP4.out 4; have cz5 := Lib.cell_of_heap HP4.out 5; have fz0 := Lib.frozen_of_heap HP4.out 0; have fz1 := Lib.frozen_of_heap HP4.out 1; have fz2 := Lib.frozen_of_heap HP4.out 2; have fz3 := Lib.frozen_of_heap HP4.out 3; have fz4 := Lib.frozen_of_heap HP4.out 4; have fz5 := Lib.frozen_of_heap HP4.out 5; have HP5z := Lib.hid (six_set12 HP4.out rfl ⟨(F : Int), (k : Int), none, 0, 0, x.f, 0, s.bad⟩); have HG5z := Lib.hid (putLn_grown w4 W3.heap.size ⟨(F : Int), (k : Int), none, 0, 0, x.f, 0, s.bad⟩); have HX5z := Lib.hid (obj_far HX4.out HG5z.out (fun e => HPn2.out (Option.some.inj e))); have HS5z := Lib.hid (obj_far HS4.out HG5z.out (fun e => HPq2.out (Option.some.inj e))); have HB5z := Lib.hid (HB4.out.grown HG5z.out HB4.out.size (fun j hj => by cases hj; exact HPl2.out)); have hS4 : w4.cell? ⟨b1, o1 + k * 9 + 6, none⟩ = some (.bool x.f) ∧ w4.cell? ⟨Q, 3, none⟩ = some (.int .i64 s.bad) := ⟨(it_cells (HR.out.mono HB4.out)).2.2.2.2.2.2.1, Lib.cell_of_heap HS4.out 3⟩; have hS5 : ((((((w4.setCell ⟨W3.heap.size, 0, none⟩ (.int .i64 (F : Int))).setCell ⟨W3.heap.size, 1, none⟩ (.int .i64 (k : Int))).setCell ⟨W3.heap.size, 2, none⟩ (.slice none 0 0)).setCell ⟨W3.heap.size, 3, none⟩ (.bool x.f)).setCell ⟨W3.heap.size, 4, none⟩ (.int .i64 0)).setCell ⟨W3.heap.size, 5, none⟩ (.int .i64 s.bad)).cell? ⟨b1, o1 + k * 9 + 6, none⟩ = some (.bool x.f) ∧ ((((((w4.setCell ⟨W3.heap.size, 0, none⟩ (.int .i64 (F : Int))).setCell ⟨W3.heap.size, 1, none⟩ (.int .i64 (k : Int))).setCell ⟨W3.heap.size, 2, none⟩ (.slice none 0 0)).setCell ⟨W3.heap.size, 3, none⟩ (.bool x.f)).setCell ⟨W3.heap.size, 4, none⟩ (.int .i64 0)).setCell ⟨W3.heap.size, 5, none⟩ (.int .i64 s.bad)).cell? ⟨Q, 3, none⟩ = some (.int .i64 s.bad) := ⟨(it_cells (HR.out.mono HB5z.out)).2.2.2.2.2.2.1, Lib.cell_of_heap HS5z.out 3⟩; clear hb4))
    · have HB5 := Lib.hid (below_step HB4.out (below_alloc w4 (.cells (lineC (F : Int) (k : Int) (.slice none 0 0) x.f 0 s.bad) 44)))
      have HX5 := Lib.hid (obj_kept (below_alloc w4 (.cells (lineC (F : Int) (k : Int) (.slice none 0 0) x.f 0 s.bad) 44)) HX4.out)
      have HP5 := Lib.hid (obj_new w4 _ rfl (lineC (F : Int) (k : Int) (.slice none 0 0) x.f 0 s.bad) 44)
      have HPl : Hid (w.heap.size ≤ w4.heap.size) := Lib.hid HB4.out.size
      have HPn : Hid (P8 ≠ w4.heap.size) := Lib.hid (by have := lt_of_obj HX4.out; omega)
      obtain ⟨W5, hW5⟩ : ∃ W5, W5 = w4.alloc (.cells (lineC (F : Int) (k : Int) (.slice none 0 0) x.f 0 s.bad) 44) := ⟨_, rfl⟩
      obtain ⟨P, hP⟩ : ∃ P, P = w4.heap.size := ⟨_, rfl⟩
      rw [← hW5] at HB5 HX5 HP5
      rw [← hP] at HP5 HPl HPn
      unfold lineC at hW5
      clear hS4 hS5
      go_wp2_with fail
      rw [← hW5, ← hP]
      clear hW5 hP
      refine (HGl.out _ (SlcAt.mono HA.out HB5.out)).mono ?_
      rintro e w6 ⟨u6, rfl, ho6, hb6⟩
      have HX6 := Lib.hid (obj_kept hb6 HX5.out)
      have HP6 := Lib.hid (obj_kept hb6 HP5.out)
      have HB6 := Lib.hid (below_step HB5.out hb6)
      have HG6 := Lib.hid (OwnR.at ho6 glC_len)
      clear hb6 ho6
      go_wp2_with fail
      refine (HWt.out _ _ HG6.out).mono ?_
      rintro e w7 ⟨bw, hbw, rfl, hl7, hb7⟩
      have HX7 := Lib.hid (obj_kept hb7 HX6.out)
      have HP7 := Lib.hid (obj_kept hb7 HP6.out)
      have HB7 := Lib.hid (below_step HB6.out hb7)
      have HL7 := Lib.hid hl7
      have hbP : bw ≠ P := by have := lt_of_obj HP6.out; omega
      clear hb7 hl7
      have p0 : w7.cell? ⟨P, 0, none⟩ = some (.int .i64 (F : Int)) := Lib.cell_of_heap HP7.out 0
      go_wp2_with fail
      refine (place_any P (F : Int) (k : Int) s.bad x.f (.slice q c c2) (.slice (some ⟨bw, 0, none⟩) ws.length ws.length) its ws w7 HP7.out (fun wx hg => SlcAt.mono HMid.out (HB7.out.grown hg HB7.out.size (fun j hj => by cases hj; exact HPl.out))) (fun wx hg => slc_off HL7.out hg hbP) HL2.out HLw.out).mono ?_
      rintro e w8 ⟨rfl, ⟨a8, n8, c8, hp8, ho8⟩, hg8⟩
      have HX8 := Lib.hid (obj_far HX7.out hg8 (fun e => HPn.out (Option.some.inj e)))
      have HP8 := Lib.hid hp8
      have HO8 := Lib.hid (own_low ho8 HB7.out.size)
      have HB8 := Lib.hid (HB7.out.grown hg8 HB7.out.size (fun j hj => by cases hj; exact HPl.out))
      clear hp8 ho8 hg8 p0
      have p0 := Lib.cell_of_heap HP8.out 0
      have p1 := Lib.cell_of_heap HP8.out 1
      have p2 := Lib.cell_of_heap HP8.out 2
      have p3 := Lib.cell_of_heap HP8.out 3
      have p4 := Lib.cell_of_heap HP8.out 4
      have p5 := Lib.cell_of_heap HP8.out 5
      unfold lineC at p0 p1 p2 p3 p4 p5
      have q0 := Lib.cell_of_heap HX8.out 0
      have q1 := Lib.cell_of_heap HX8.out 1
      have q2 := Lib.cell_of_heap HX8.out 2
      have q3 := Lib.cell_of_heap HX8.out 3
      have q4 := Lib.cell_of_heap HX8.out 4
      have q5 := Lib.cell_of_heap HX8.out 5
      have f0 := Lib.frozen_of_heap HX8.out 0
      have f1 := Lib.frozen_of_heap HX8.out 1
      have f2 := Lib.frozen_of_heap HX8.out 2
      have f3 := Lib.frozen_of_heap HX8.out 3
      have f4 := Lib.frozen_of_heap HX8.out 4
      have f5 := Lib.frozen_of_heap HX8.out 5
      have H6 := Lib.hid (six_set12 HX8.out rfl ⟨(F : Int), (k : Int), a8, n8, c8, x.f, (It.lay ws its).2.2, s.bad⟩)
      have HG := Lib.hid (putLn_grown w8 P8 ⟨(F : Int), (k : Int), a8, n8, c8, x.f, (It.lay ws its).2.2, s.bad⟩)
      have HY : Hid (LinOwn w.heap.size w8 ⟨(F : Int), (k : Int), a8, n8, c8, x.f, (It.lay ws its).2.2, s.bad⟩ ⟨(F : Int), (k : Int), (It.lay ws its).2.1, It.flagN l k, (It.lay ws its).2.2, s.bad⟩) := Lib.hid ⟨rfl, rfl, HO8.out, HFl.out.symm, rfl, rfl⟩
      have HZ := Lib.hid (HY.out.grown HG.out (.inr fun e => own_off9 HY.out.bs HX8.out (by decide) e.symm))
      have HBz := Lib.hid (HB8.out.grown HG.out HB8.out.size (fun j hj => by cases hj; rw [HPw.out]; exact Nat.le_refl _))
      clear HY HG
      unfold putLn at H6 HZ HBz
      simp only [] at H6 HZ HBz
      go_wp2
      obtain ⟨WX, hWX⟩ : ∃ WX, WX = (((((w8.setCell ⟨P8, 0, none⟩ (.int .i64 (F : Int))).setCell ⟨P8, 1, none⟩ (.int .i64 (k : Int))).setCell ⟨P8, 2, none⟩ (.slice a8 n8 c8)).setCell ⟨P8, 3, none⟩ (.bool x.f)).setCell ⟨P8, 4, none⟩ (.int .i64 (It.lay ws its).2.2)).setCell ⟨P8, 5, none⟩ (.int .i64 s.bad) := ⟨_, rfl⟩
      rw [← hWX] at H6 HZ HBz ⊢
      clear hWX q0 q1 q2 q3 q4 q5
      have q0 := Lib.cell_of_heap H6.out 0
      have q1 := Lib.cell_of_heap H6.out 1
      have q2 := Lib.cell_of_heap H6.out 2
      have q3 := Lib.cell_of_heap H6.out 3
      have q4 := Lib.cell_of_heap H6.out 4
      have q5 := Lib.cell_of_heap H6.out 5
      exact bodyPost_ret (v := .tuple #[.agg #[.int .i64 (F : Int), .int .i64 (k : Int), .slice a8 n8 c8, .bool x.f, .int .i64 (It.lay ws its).2.2, .int .i64 s.bad], .bool true]) (by simp [results, Try.results19, go_sem, q0, q1, q2, q3, q4, q5]) rfl ⟨_, rfl, HZ.out, HBz.out⟩
    · have HPl := HPl2
      have HPn := HPn2
      have HB5 := HB5z
      have HX5 := HX5z
      have HP5 : Hid ((putLn w4 W3.heap.size ⟨(F : Int), (k : Int), none, 0, 0, x.f, 0, s.bad⟩).heap[W3.heap.size]? = some (.cells (lineC (F : Int) (k : Int) (.slice none 0 0) x.f 0 s.bad) 44 (0, 0))) := HP5z
      obtain ⟨W5, hW5⟩ : ∃ W5, W5 = putLn w4 W3.heap.size ⟨(F : Int), (k : Int), none, 0, 0, x.f, 0, s.bad⟩ := ⟨_, rfl⟩
      rw [← hW5] at HB5 HX5 HP5
      unfold putLn at hW5
      simp only [] at hW5
      clear cz0 cz1 cz2 cz3 cz4 cz5 fz0 fz1 fz2 fz3 fz4 fz5
      clear hS4 hS5
      go_wp2_with fail
      rw [← hW5]
      clear hW5 HP4 HP5z HG5z HX5z HS5z HB5z HPq2 HPl2 HPn2
      obtain ⟨P, hP⟩ : ∃ P, P = W3.heap.size := ⟨_, rfl⟩
      rw [← hP] at HP5 HPl HPn ⊢
      clear hP
      refine (HGl.out _ (SlcAt.mono HA.out HB5.out)).mono ?_
      rintro e w6 ⟨u6, rfl, ho6, hb6⟩
      have HX6 := Lib.hid (obj_kept hb6 HX5.out)
      have HP6 := Lib.hid (obj_kept hb6 HP5.out)
      have HB6 := Lib.hid (below_step HB5.out hb6)
      have HG6 := Lib.hid (OwnR.at ho6 glC_len)
      clear hb6 ho6
      go_wp2_with fail
      refine (HWt.out _ _ HG6.out).mono ?_
      rintro e w7 ⟨bw, hbw, rfl, hl7, hb7⟩
      have HX7 := Lib.hid (obj_kept hb7 HX6.out)
      have HP7 := Lib.hid (obj_kept hb7 HP6.out)
      have HB7 := Lib.hid (below_step HB6.out hb7)
      have HL7 := Lib.hid hl7
      have hbP : bw ≠ P := by have := lt_of_obj HP6.out; omega
      clear hb7 hl7
      have p0 : w7.cell? ⟨P, 0, none⟩ = some (.int .i64 (F : Int)) := Lib.cell_of_heap HP7.out 0
      go_wp2_with fail
      refine (place_any P (F : Int) (k : Int) s.bad x.f (.slice q c c2) (.slice (some ⟨bw, 0, none⟩) ws.length ws.length) its ws w7 HP7.out (fun wx hg => SlcAt.mono HMid.out (HB7.out.grown hg HB7.out.size (fun j hj => by cases hj; exact HPl.out))) (fun wx hg => slc_off HL7.out hg hbP) HL2.out HLw.out).mono ?_
      rintro e w8 ⟨rfl, ⟨a8, n8, c8, hp8, ho8⟩, hg8⟩
      have HX8 := Lib.hid (obj_far HX7.out hg8 (fun e => HPn.out (Option.some.inj e)))
      have HP8 := Lib.hid hp8
      have HO8 := Lib.hid (own_low ho8 HB7.out.size)
      have HB8 := Lib.hid (HB7.out.grown hg8 HB7.out.size (fun j hj => by cases hj; exact HPl.out))
      clear hp8 ho8 hg8 p0
      have p0 := Lib.cell_of_heap HP8.out 0
      have p1 := Lib.cell_of_heap HP8.out 1
      have p2 := Lib.cell_of_heap HP8.out 2
      have p3 := Lib.cell_of_heap HP8.out 3
      have p4 := Lib.cell_of_heap HP8.out 4
      have p5 := Lib.cell_of_heap HP8.out 5
      unfold lineC at p0 p1 p2 p3 p4 p5
      have q0 := Lib.cell_of_heap HX8.out 0
      have q1 := Lib.cell_of_heap HX8.out 1
      have q2 := Lib.cell_of_heap HX8.out 2
      have q3 := Lib.cell_of_heap HX8.out 3
      have q4 := Lib.cell_of_heap HX8.out 4
      have q5 := Lib.cell_of_heap HX8.out 5
      have f0 := Lib.frozen_of_heap HX8.out 0
      have f1 := Lib.frozen_of_heap HX8.out 1
      have f2 := Lib.frozen_of_heap HX8.out 2
      have f3 := Lib.frozen_of_heap HX8.out 3
      have f4 := Lib.frozen_of_heap HX8.out 4
      have f5 := Lib.frozen_of_heap HX8.out 5
      have H6 := Lib.hid (six_set12 HX8.out rfl ⟨(F : Int), (k : Int), a8, n8, c8, x.f, (It.lay ws its).2.2, s.bad⟩)
      have HG := Lib.hid (putLn_grown w8 P8 ⟨(F : Int), (k : Int), a8, n8, c8, x.f, (It.lay ws its).2.2, s.bad⟩)
      have HY : Hid (LinOwn w.heap.size w8 ⟨(F : Int), (k : Int), a8, n8, c8, x.f, (It.lay ws its).2.2, s.bad⟩ ⟨(F : Int), (k : Int), (It.lay ws its).2.1, It.flagN l k, (It.lay ws its).2.2, s.bad⟩) := Lib.hid ⟨rfl, rfl, HO8.out, HFl.out.symm, rfl, rfl⟩
      have HZ := Lib.hid (HY.out.grown HG.out (.inr fun e => own_off9 HY.out.bs HX8.out (by decide) e.symm))
      have HBz := Lib.hid (HB8.out.grown HG.out HB8.out.size (fun j hj => by cases hj; rw [HPw.out]; exact Nat.le_refl _))
      clear HY HG
      unfold putLn at H6 HZ HBz
      simp only [] at H6 HZ HBz
      go_wp2
      obtain ⟨WX, hWX⟩ : ∃ WX, WX = (((((w8.setCell ⟨P8, 0, none⟩ (.int .i64 (F : Int))).setCell ⟨P8, 1, none⟩ (.int .i64 (k : Int))).setCell ⟨P8, 2, none⟩ (.slice a8 n8 c8)).setCell ⟨P8, 3, none⟩ (.bool x.f)).setCell ⟨P8, 4, none⟩ (.int .i64 (It.lay ws its).2.2)).setCell ⟨P8, 5, none⟩ (.int .i64 s.bad) := ⟨_, rfl⟩
      rw [← hWX] at H6 HZ HBz ⊢
      clear hWX q0 q1 q2 q3 q4 q5
      have q0 := Lib.cell_of_heap H6.out 0
      have q1 := Lib.cell_of_heap H6.out 1
      have q2 := Lib.cell_of_heap H6.out 2
      have q3 := Lib.cell_of_heap H6.out 3
      have q4 := Lib.cell_of_heap H6.out 4
      have q5 := Lib.cell_of_heap H6.out 5
      exact bodyPost_ret (v := .tuple #[.agg #[.int .i64 (F : Int), .int .i64 (k : Int), .slice a8 n8 c8, .bool x.f, .int .i64 (It.lay ws its).2.2, .int .i64 s.bad], .bool true]) (by simp [results, Try.results19, go_sem, q0, q1, q2, q3, q4, q5]) rfl ⟨_, rfl, HZ.out, HBz.out⟩
end Go.Proofs.Ythcilpijiindeaa
