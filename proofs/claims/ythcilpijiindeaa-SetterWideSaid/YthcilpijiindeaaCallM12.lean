/-
  The reference's Break (elder texts, merged).
-/
import Derived.Test.YthcilpijiindeaaWaysM12
import Derived.Test.YthcilpijiindeaaRefBest11
set_option linter.unusedVariables false
set_option linter.unusedSimpArgs false
namespace Go.Proofs.Ythcilpijiindeaa
open Go.RowKit

def doneV : Array Value := #[.int .i64 0, .int .i64 0, .int .i64 0, .bool true, .int .i64 0, .int .i64 0, .int .i64 0, .bool true, .int .i64 0, .int .i64 0, .int .i64 0, .bool true, .int .i64 0, .int .i64 0, .int .i64 0, .bool true]
/-- sixteen cells set anew -/
theorem sixteen_set {w0 : World} {p : Nat} {cs : Array Value} {T : TypeId} (h : w0.heap[p]? = some (.cells cs T (0, 0))) (hn : cs.size = 16) (a0 a1 a2 a3 a4 a5 a6 a7 a8 a9 a10 a11 a12 a13 a14 a15 : Value) :
    ((((((((((((((((w0.setCell ⟨p, 0, none⟩ a0).setCell ⟨p, 1, none⟩ a1).setCell ⟨p, 2, none⟩ a2).setCell ⟨p, 3, none⟩ a3).setCell ⟨p, 4, none⟩ a4).setCell ⟨p, 5, none⟩ a5).setCell ⟨p, 6, none⟩ a6).setCell ⟨p, 7, none⟩ a7).setCell ⟨p, 8, none⟩ a8).setCell ⟨p, 9, none⟩ a9).setCell ⟨p, 10, none⟩ a10).setCell ⟨p, 11, none⟩ a11).setCell ⟨p, 12, none⟩ a12).setCell ⟨p, 13, none⟩ a13).setCell ⟨p, 14, none⟩ a14).setCell ⟨p, 15, none⟩ a15).heap[p]? = some (.cells #[a0, a1, a2, a3, a4, a5, a6, a7, a8, a9, a10, a11, a12, a13, a14, a15] T (0, 0)) := by
  have h5 := (heap_setCell_same _ p 15 _ T a15 (heap_setCell_same _ p 14 _ T a14 (heap_setCell_same _ p 13 _ T a13 (heap_setCell_same _ p 12 _ T a12 (heap_setCell_same _ p 11 _ T a11 (heap_setCell_same _ p 10 _ T a10 (heap_setCell_same _ p 9 _ T a9 (heap_setCell_same _ p 8 _ T a8 (heap_setCell_same _ p 7 _ T a7 (heap_setCell_same _ p 6 _ T a6 (heap_setCell_same _ p 5 _ T a5 (heap_setCell_same _ p 4 _ T a4 (heap_setCell_same _ p 3 _ T a3 (heap_setCell_same _ p 2 _ T a2 (heap_setCell_same _ p 1 _ T a1 (heap_setCell_same _ p 0 _ T a0 h))))))))))))))))
  rw [h5]
  obtain ⟨l⟩ := cs
  have hl : l.length = 16 := hn
  clear hn h h5
  match l, hl with
  | [x0, x1, x2, x3, x4, x5, x6, x7, x8, x9, x10, x11, x12, x13, x14, x15], _ => simp only [List.setIfInBounds_toArray, List.set_cons_zero, List.set_cons_succ]
theorem below_sixteen {w0 w1 : World} {p B : Nat} (h : Below B w0 w1) (hp : B ≤ p) (a0 a1 a2 a3 a4 a5 a6 a7 a8 a9 a10 a11 a12 a13 a14 a15 : Value) :
    Below B w0 ((((((((((((((((w1.setCell ⟨p, 0, none⟩ a0).setCell ⟨p, 1, none⟩ a1).setCell ⟨p, 2, none⟩ a2).setCell ⟨p, 3, none⟩ a3).setCell ⟨p, 4, none⟩ a4).setCell ⟨p, 5, none⟩ a5).setCell ⟨p, 6, none⟩ a6).setCell ⟨p, 7, none⟩ a7).setCell ⟨p, 8, none⟩ a8).setCell ⟨p, 9, none⟩ a9).setCell ⟨p, 10, none⟩ a10).setCell ⟨p, 11, none⟩ a11).setCell ⟨p, 12, none⟩ a12).setCell ⟨p, 13, none⟩ a13).setCell ⟨p, 14, none⟩ a14).setCell ⟨p, 15, none⟩ a15) := ((((((((((((((((h.setCell (p := ⟨p, 0, none⟩) hp _).setCell (p := ⟨p, 1, none⟩) hp _).setCell (p := ⟨p, 2, none⟩) hp _).setCell (p := ⟨p, 3, none⟩) hp _).setCell (p := ⟨p, 4, none⟩) hp _).setCell (p := ⟨p, 5, none⟩) hp _).setCell (p := ⟨p, 6, none⟩) hp _).setCell (p := ⟨p, 7, none⟩) hp _).setCell (p := ⟨p, 8, none⟩) hp _).setCell (p := ⟨p, 9, none⟩) hp _).setCell (p := ⟨p, 10, none⟩) hp _).setCell (p := ⟨p, 11, none⟩) hp _).setCell (p := ⟨p, 12, none⟩) hp _).setCell (p := ⟨p, 13, none⟩) hp _).setCell (p := ⟨p, 14, none⟩) hp _).setCell (p := ⟨p, 15, none⟩) hp _)

end Go.Proofs.Ythcilpijiindeaa
namespace Go.Proofs.Ythcilpijiindeaa
open Go.RowKit

end Go.Proofs.Ythcilpijiindeaa
namespace Go.Proofs.Ythcilpijiindeaa
open Go.RowKit

def zeroPl : Array Value := #[.int .i64 0, .int .i64 0, .int .i64 0, .bool false, .int .i64 0, .int .i64 0, .int .i64 0, .bool false, .int .i64 0, .int .i64 0, .int .i64 0, .bool false, .int .i64 0, .int .i64 0, .int .i64 0, .bool false]
/-- rows from m on are done -/
def tabM (l : List It.Itm) (t tol : Int) (m : Nat) : Nat → Nat → It.Pln := fun k q => if m ≤ k then It.plOf (It.way l t tol k q) else ⟨0, 0, 0, false⟩
theorem tabM_row (l : List It.Itm) (t tol : Int) (m : Nat) : tabM l t tol (m + 1) = tabR l t tol m (fun _ => none) := by
  funext k q
  unfold tabM tabR
  by_cases h : m + 1 ≤ k
  · rw [if_pos h, if_pos (by omega)]
  · rw [if_neg h, if_neg (by omega)]
    split <;> rfl
theorem tabM_done (l : List It.Itm) (t tol : Int) (m : Nat) : tabR l t tol m (fun q : Nat => It.way l t tol m q) = tabM l t tol m := by
  funext k q
  unfold tabM tabR
  by_cases h : m < k
  · rw [if_pos h, if_pos (by omega)]
  · rw [if_neg h]
    by_cases h2 : k = m
    · rw [if_pos h2, if_pos (by omega), h2]
    · rw [if_neg h2, if_neg (by omega)]
theorem tabM_skip {l : List It.Itm} {t tol : Int} {m : Nat} (hm : m < l.length) (h : It.legal l ((m : Int) - 1) = false) (h0 : (m : Int) - 1 ≠ -1) : tabM l t tol (m + 1) = tabM l t tol m := by
  rw [tabM_row, ← tabM_done]
  congr 1
  funext q
  rw [It.way_eq l t tol q (by omega)]
  exact (It.accW_none fun i hi => cand_none (It.cost_illegalA h h0 _ t tol)).symm
theorem tabM_start (l : List It.Itm) (t tol : Int) : ∀ k q, k ≤ l.length → q < 4 → updF (updF (updF (updF (fun _ _ => ⟨0, 0, 0, false⟩) l.length 0 ⟨0, 0, 0, true⟩) l.length 1 ⟨0, 0, 0, true⟩) l.length 2 ⟨0, 0, 0, true⟩) l.length 3 ⟨0, 0, 0, true⟩ k q = tabM l t tol l.length k q := by
  intro k q hk hq
  unfold updF tabM
  by_cases h : k = l.length
  · subst h
    rw [if_pos (Nat.le_refl _), It.way_end]
    obtain rfl | rfl | rfl | rfl : q = 0 ∨ q = 1 ∨ q = 2 ∨ q = 3 := by omega
    all_goals simp [It.plOf]
  · rw [if_neg (fun e => h e.1), if_neg (fun e => h e.1), if_neg (fun e => h e.1), if_neg (fun e => h e.1), if_neg (by omega)]
theorem best_no {l : List It.Itm} {t tol : Int} (h : It.may l = false ∨ l.length = 0) : bestW l t tol = none := by
  unfold bestW
  rw [if_neg]
  intro e
  rcases h with h | h
  · rw [h] at e; cases e.1
  · omega
theorem best_yes {l : List It.Itm} {t tol : Int} (h : It.may l = true) (h0 : 0 < l.length) : bestW l t tol = It.way l t tol 0 2 := by
  unfold bestW
  rw [if_pos ⟨h, h0⟩]

end Go.Proofs.Ythcilpijiindeaa
namespace Go.Proofs.Ythcilpijiindeaa
open Go.RowKit

theorem num_cell {w : World} {v : Value} {l : List Int} (h : NumsAt w v l) : ∃ a cap, v = .slice a l.length cap ∧ l.length ≤ maxLen ∧ (0 < l.length → ∃ b o, a = some ⟨b, o, none⟩ ∧ ∀ i x, l[i]? = some x → w.cell? ⟨b, o + i, none⟩ = some (.int .i64 x)) := by
  obtain ⟨⟨a, cap, rfl, hc⟩, hm, hk⟩ := nums_ints h
  refine ⟨a, cap, rfl, hm, fun hp => ?_⟩
  obtain ⟨b, o, c, e, hx⟩ := hk hp
  injection e with e1
  exact ⟨b, o, e1, hx⟩

/-! ### three words -/
def bx10 : It.Itm := ⟨0, ⟨10, 0, 0, 0⟩, 0, false, 0, 0⟩
def sp2 : It.Itm := ⟨1, ⟨2, 0, 0, 0⟩, 0, false, 0, 0⟩
def five : List It.Itm := [bx10, sp2, bx10, sp2, bx10]
def threeL : List It.Itm := five ++ It.endI
theorem fx11a : (bestW threeL 22 200).isSome = true ∧ bl (bestW threeL 22 200) = [3, 7] := by decide +kernel
theorem fx11b : bestW threeL 9 200 = none ∧ bestW threeL 9 10000 = none := by decide +kernel
theorem fx11c : It.may threeL = true := by decide +kernel

/-! ### Break -/
def brkR (l : List It.Itm) (t : Int) : It.Way × Bool × Int :=
  if It.may l = false then (none, false, 90) else match bestW l t 200 with
    | some x => (some x, false, 0)
    | none => match bestW l t 10000 with
      | some x => (some x, true, 0)
      | none => (none, false, 110)
def BreakPost (r : It.Way × Bool × Int) (w : World) (e : Ending) (w' : World) : Prop := ∃ u, e = .returned (.tuple #[u, .bool r.2.1, .agg #[.int .i64 r.2.2, .int .i64 0]]) ∧ NumsAt w' u (bl r.1) ∧ Below w.heap.size w w'
theorem two_set {w0 : World} {p : Nat} {cs : Array Value} {T : TypeId} (h : w0.heap[p]? = some (.cells cs T (0, 0))) (hn : cs.size = 2) (a b : Value) : ((w0.setCell ⟨p, 0, none⟩ a).setCell ⟨p, 1, none⟩ b).heap[p]? = some (.cells #[a, b] T (0, 0)) := by
  have h5 := heap_setCell_same _ p 1 _ T b (heap_setCell_same w0 p 0 _ T a h)
  rw [h5]
  obtain ⟨l⟩ := cs
  have hl : l.length = 2 := hn
  clear hn h h5
  match l, hl with
  | [x0, x1], _ => simp only [List.setIfInBounds_toArray, List.set_cons_zero, List.set_cons_succ]
theorem own_form9 {B : Nat} {v : Value} {l : List Int} {w : World} (h : OwnN B v l w) : ∃ a n c, v = .slice a n c := by
  rcases h.2 with ⟨rfl, _⟩ | ⟨g, cp, cu, rfl, _⟩
  · exact ⟨_, _, _, rfl⟩
  · exact ⟨_, _, _, rfl⟩
theorem own_far11 {w w' : World} {B : Nat} {v : Value} {l : List Int} {P : Nat} {cs : Array Value} {fr : Nat × Nat} (h : OwnN B v l w) (hg : w.grownBy w' (some P)) (hP : w.heap[P]? = some (.cells cs 28 fr)) : NumsAt w' v l :=
  OwnR.at (World.ownsRow.kept h hg (.inr fun e => own_off9 h hP (by decide) e.symm)) inC_len
end Go.Proofs.Ythcilpijiindeaa
namespace Go.Proofs.Ythcilpijiindeaa
open Go.RowKit

set_option maxHeartbeats 8000000 in
set_option maxRecDepth 100000 in
theorem refBreak_any (v : Value) (l : List It.Itm) (t : Int) (w : World) (hI : ItsAt w v l) : Calls Try.prog 16 #[v, .int .i64 t] w (BreakPost (brkR l t) w) := by
  have HM := Lib.hid (fun w h => refItMay_any v l w h)
  have HBt := Lib.hid (fun tol w h => refBest_any v l t tol w h)
  have HA := Lib.hid hI
  obtain ⟨⟨p, cp, rfl, hcap⟩, hm, _⟩ := hI
  obtain ⟨P, hP⟩ : ∃ P, P = w.heap.size := ⟨_, rfl⟩
  obtain ⟨W1, hW1⟩ : ∃ W1, W1 = w.alloc (.cells #[.int .i64 0, .int .i64 0] 28) := ⟨_, rfl⟩
  have hb1 := below_alloc w (.cells #[.int .i64 0, .int .i64 0] 28)
  have HX1 := Lib.hid (obj_new w _ rfl #[.int .i64 0, .int .i64 0] 28)
  rw [← hW1] at hb1 HX1
  rw [← hP] at HX1
  have HB1 := Lib.hid hb1
  have HA1 := Lib.hid (SlcAt.mono HA.out hb1)
  obtain ⟨n, hn⟩ : ∃ n, n = l.length := ⟨_, rfl⟩
  rw [← hn] at HM HBt HA1 ⊢
  clear hb1 hcap hm hn
  have HPn := Lib.hid hP
  cases hmay : It.may l with
  | false =>
    have HE : Hid (brkR l t = (none, false, 90)) := Lib.hid (by unfold brkR; rw [if_pos hmay])
    rw [hmay] at HM
    clear hmay
    go_enter Try.func16, Try.ntmps16
    go_upto_region 1 with fail
    rw [← hW1, ← hP]
    clear hW1 hP
    go_wp2_with fail
    refine (HM.out _ HA1.out).mono ?_
    rintro e w2 ⟨rfl, hb2⟩
    have HX2 := Lib.hid (obj_kept hb2 HX1.out)
    have HA2 := Lib.hid (SlcAt.mono HA1.out hb2)
    have HB2 := Lib.hid (below_step HB1.out hb2)
    clear hb2
    have q0 : w2.cell? ⟨P, 0, none⟩ = some (.int .i64 0) := Lib.cell_of_heap HX2.out 0
    have q1 : w2.cell? ⟨P, 1, none⟩ = some (.int .i64 0) := Lib.cell_of_heap HX2.out 1
    have f0 := Lib.frozen_of_heap HX2.out 0
    have f1 := Lib.frozen_of_heap HX2.out 1
    have H2 := Lib.hid (two_set HX2.out rfl (.int .i64 90) (.int .i64 0))
    have HG : Hid (w2.grownBy ((w2.setCell ⟨P, 0, none⟩ (.int .i64 90)).setCell ⟨P, 1, none⟩ (.int .i64 0)) (some P)) := Lib.hid (grown_set (grown_set (World.grownBy.refl _ _) _) _)
    go_wp2
    obtain ⟨WX, hWX⟩ : ∃ WX, WX = (w2.setCell ⟨P, 0, none⟩ (.int .i64 90)).setCell ⟨P, 1, none⟩ (.int .i64 0) := ⟨_, rfl⟩
    rw [← hWX] at H2 HG ⊢
    clear hWX q0 q1
    have q0 := Lib.cell_of_heap H2.out 0
    have q1 := Lib.cell_of_heap H2.out 1
    rw [HE.out]
    exact bodyPost_ret (v := .tuple #[.slice none 0 0, .bool false, .agg #[.int .i64 90, .int .i64 0]]) (by simp [results, Try.results16, go_sem, q0, q1]) rfl ⟨_, rfl, slc_none _ _ _, HB2.out.grown HG.out HB2.out.size (fun j hj => by cases hj; rw [HPn.out]; exact Nat.le_refl _)⟩
  | true =>
    rw [hmay] at HM
    cases h2 : bestW l t 200 with
    | some x =>
      have HE : Hid (brkR l t = (some x, false, 0)) := Lib.hid (by unfold brkR; rw [if_neg (by rw [hmay]; decide), h2])
      have HB200 := Lib.hid (HBt.out 200)
      rw [h2] at HB200
      unfold BestPost bz bl at HB200
      clear hmay h2
      go_enter Try.func16, Try.ntmps16
      go_upto_region 1 with fail
      rw [← hW1, ← hP]
      clear hW1 hP
      go_wp2_with fail
      refine (HM.out _ HA1.out).mono ?_
      rintro e w2 ⟨rfl, hb2⟩
      have HX2 := Lib.hid (obj_kept hb2 HX1.out)
      have HA2 := Lib.hid (SlcAt.mono HA1.out hb2)
      have HB2 := Lib.hid (below_step HB1.out hb2)
      clear hb2
      go_wp2_with fail
      refine (HB200.out _ HA2.out).mono ?_
      rintro e w3 ⟨u3, rfl, h3, b3⟩
      have HX3 := Lib.hid (obj_kept b3 HX2.out)
      have HA3 := Lib.hid (SlcAt.mono HA2.out b3)
      have HB3 := Lib.hid (below_step HB2.out b3)
      have HN3 := Lib.hid h3
      clear b3 h3
      obtain ⟨a3, m3, k3, e3⟩ := own_form9 HN3.out
      subst e3
      have q0 : w3.cell? ⟨P, 0, none⟩ = some (.int .i64 0) := Lib.cell_of_heap HX3.out 0
      have q1 : w3.cell? ⟨P, 1, none⟩ = some (.int .i64 0) := Lib.cell_of_heap HX3.out 1
      have f0 := Lib.frozen_of_heap HX3.out 0
      have f1 := Lib.frozen_of_heap HX3.out 1
      have H2 := Lib.hid (two_set HX3.out rfl (.int .i64 0) (.int .i64 0))
      have HG : Hid (w3.grownBy ((w3.setCell ⟨P, 0, none⟩ (.int .i64 0)).setCell ⟨P, 1, none⟩ (.int .i64 0)) (some P)) := Lib.hid (grown_set (grown_set (World.grownBy.refl _ _) _) _)
      go_wp2
      obtain ⟨WX, hWX⟩ : ∃ WX, WX = (w3.setCell ⟨P, 0, none⟩ (.int .i64 0)).setCell ⟨P, 1, none⟩ (.int .i64 0) := ⟨_, rfl⟩
      rw [← hWX] at H2 HG ⊢
      clear hWX q0 q1
      have q0 := Lib.cell_of_heap H2.out 0
      have q1 := Lib.cell_of_heap H2.out 1
      rw [HE.out]
      exact bodyPost_ret (v := .tuple #[.slice a3 m3 k3, .bool false, .agg #[.int .i64 0, .int .i64 0]]) (by simp [results, Try.results16, go_sem, q0, q1]) rfl ⟨_, rfl, own_far11 HN3.out HG.out HX3.out, HB3.out.grown HG.out HB3.out.size (fun j hj => by cases hj; rw [HPn.out]; exact Nat.le_refl _)⟩
    | none =>
      have HB200 := Lib.hid (HBt.out 200)
      rw [h2] at HB200
      unfold BestPost bz bl at HB200
      cases h3 : bestW l t 10000 with
      | some x =>
        have HE : Hid (brkR l t = (some x, true, 0)) := Lib.hid (by unfold brkR; rw [if_neg (by rw [hmay]; decide), h2]; simp only []; rw [h3])
        have HBI := Lib.hid (HBt.out 10000)
        rw [h3] at HBI
        unfold BestPost bz bl at HBI
        clear hmay h2 h3
        go_enter Try.func16, Try.ntmps16
        go_upto_region 1 with fail
        rw [← hW1, ← hP]
        clear hW1 hP
        go_wp2_with fail
        refine (HM.out _ HA1.out).mono ?_
        rintro e w2 ⟨rfl, hb2⟩
        have HX2 := Lib.hid (obj_kept hb2 HX1.out)
        have HA2 := Lib.hid (SlcAt.mono HA1.out hb2)
        have HB2 := Lib.hid (below_step HB1.out hb2)
        clear hb2
        go_wp2_with fail
        refine (HB200.out _ HA2.out).mono ?_
        rintro e w3 ⟨u3, rfl, h3, b3⟩
        have HX3 := Lib.hid (obj_kept b3 HX2.out)
        have HA3 := Lib.hid (SlcAt.mono HA2.out b3)
        have HB3 := Lib.hid (below_step HB2.out b3)
        have HN3 := Lib.hid h3
        clear b3 h3
        go_wp2_with fail
        refine (HBI.out _ HA3.out).mono ?_
        rintro e w4 ⟨u4, rfl, h4, b4⟩
        have HX4 := Lib.hid (obj_kept b4 HX3.out)
        have HA4 := Lib.hid (SlcAt.mono HA3.out b4)
        have HB4 := Lib.hid (below_step HB3.out b4)
        have HN4 := Lib.hid h4
        clear b4 h4
        obtain ⟨a3, m3, k3, e3⟩ := own_form9 HN4.out
        subst e3
        have q0 : w4.cell? ⟨P, 0, none⟩ = some (.int .i64 0) := Lib.cell_of_heap HX4.out 0
        have q1 : w4.cell? ⟨P, 1, none⟩ = some (.int .i64 0) := Lib.cell_of_heap HX4.out 1
        have f0 := Lib.frozen_of_heap HX4.out 0
        have f1 := Lib.frozen_of_heap HX4.out 1
        have H2 := Lib.hid (two_set HX4.out rfl (.int .i64 0) (.int .i64 0))
        have HG : Hid (w4.grownBy ((w4.setCell ⟨P, 0, none⟩ (.int .i64 0)).setCell ⟨P, 1, none⟩ (.int .i64 0)) (some P)) := Lib.hid (grown_set (grown_set (World.grownBy.refl _ _) _) _)
        go_wp2
        obtain ⟨WX, hWX⟩ : ∃ WX, WX = (w4.setCell ⟨P, 0, none⟩ (.int .i64 0)).setCell ⟨P, 1, none⟩ (.int .i64 0) := ⟨_, rfl⟩
        rw [← hWX] at H2 HG ⊢
        clear hWX q0 q1
        have q0 := Lib.cell_of_heap H2.out 0
        have q1 := Lib.cell_of_heap H2.out 1
        rw [HE.out]
        exact bodyPost_ret (v := .tuple #[.slice a3 m3 k3, .bool true, .agg #[.int .i64 0, .int .i64 0]]) (by simp [results, Try.results16, go_sem, q0, q1]) rfl ⟨_, rfl, own_far11 HN4.out HG.out HX4.out, HB4.out.grown HG.out HB4.out.size (fun j hj => by cases hj; rw [HPn.out]; exact Nat.le_refl _)⟩
      | none =>
        have HE : Hid (brkR l t = (none, false, 110)) := Lib.hid (by unfold brkR; rw [if_neg (by rw [hmay]; decide), h2]; simp only []; rw [h3])
        have HBI := Lib.hid (HBt.out 10000)
        rw [h3] at HBI
        unfold BestPost bz bl at HBI
        clear hmay h2 h3
        go_enter Try.func16, Try.ntmps16
        go_upto_region 1 with fail
        rw [← hW1, ← hP]
        clear hW1 hP
        go_wp2_with fail
        refine (HM.out _ HA1.out).mono ?_
        rintro e w2 ⟨rfl, hb2⟩
        have HX2 := Lib.hid (obj_kept hb2 HX1.out)
        have HA2 := Lib.hid (SlcAt.mono HA1.out hb2)
        have HB2 := Lib.hid (below_step HB1.out hb2)
        clear hb2
        go_wp2_with fail
        refine (HB200.out _ HA2.out).mono ?_
        rintro e w3 ⟨u3, rfl, h3, b3⟩
        have HX3 := Lib.hid (obj_kept b3 HX2.out)
        have HA3 := Lib.hid (SlcAt.mono HA2.out b3)
        have HB3 := Lib.hid (below_step HB2.out b3)
        have HN3 := Lib.hid h3
        clear b3 h3
        go_wp2_with fail
        refine (HBI.out _ HA3.out).mono ?_
        rintro e w4 ⟨u4, rfl, h4, b4⟩
        have HX4 := Lib.hid (obj_kept b4 HX3.out)
        have HA4 := Lib.hid (SlcAt.mono HA3.out b4)
        have HB4 := Lib.hid (below_step HB3.out b4)
        have HN4 := Lib.hid h4
        clear b4 h4
        have q0 : w4.cell? ⟨P, 0, none⟩ = some (.int .i64 0) := Lib.cell_of_heap HX4.out 0
        have q1 : w4.cell? ⟨P, 1, none⟩ = some (.int .i64 0) := Lib.cell_of_heap HX4.out 1
        have f0 := Lib.frozen_of_heap HX4.out 0
        have f1 := Lib.frozen_of_heap HX4.out 1
        have H2 := Lib.hid (two_set HX4.out rfl (.int .i64 110) (.int .i64 0))
        have HG : Hid (w4.grownBy ((w4.setCell ⟨P, 0, none⟩ (.int .i64 110)).setCell ⟨P, 1, none⟩ (.int .i64 0)) (some P)) := Lib.hid (grown_set (grown_set (World.grownBy.refl _ _) _) _)
        go_wp2
        obtain ⟨WX, hWX⟩ : ∃ WX, WX = (w4.setCell ⟨P, 0, none⟩ (.int .i64 110)).setCell ⟨P, 1, none⟩ (.int .i64 0) := ⟨_, rfl⟩
        rw [← hWX] at H2 HG ⊢
        clear hWX q0 q1
        have q0 := Lib.cell_of_heap H2.out 0
        have q1 := Lib.cell_of_heap H2.out 1
        rw [HE.out]
        exact bodyPost_ret (v := .tuple #[.slice none 0 0, .bool false, .agg #[.int .i64 110, .int .i64 0]]) (by simp [results, Try.results16, go_sem, q0, q1]) rfl ⟨_, rfl, slc_none _ _ _, HB4.out.grown HG.out HB4.out.size (fun j hj => by cases hj; rw [HPn.out]; exact Nat.le_refl _)⟩
end Go.Proofs.Ythcilpijiindeaa
