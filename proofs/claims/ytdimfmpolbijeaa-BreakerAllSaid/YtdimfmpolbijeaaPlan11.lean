/-
  The landed breaker's plans: where they lie, which are better, what unlike lines cost.
-/
import Derived.Test.YtdimfmpolbijeaaCosts11
import Derived.Test.YtdimfmpolbijeaaMays9
import Derived.Test.YtdimfmpolbijeaaCost10
set_option linter.unusedVariables false
set_option linter.unusedSimpArgs false
namespace Go.Proofs.Ytdimfmpolbijeaa
open Go.RowKit

namespace It
structure Pln where
  d : Int
  n : Int
  c : Int
  ok : Bool
def plOf : Way → Pln
  | none => ⟨0, 0, 0, false⟩
  | some x => ⟨x.1, x.2.2.headD 0, x.2.1, true⟩
def better (old x : Pln) : Bool := !old.ok || decide (x.d < old.d)
theorem plOf_pick (old : Way) (y : Int × Int × List Int) : plOf (pick old (some y)) = if better (plOf old) (plOf (some y)) then plOf (some y) else plOf old := by
  cases old with
  | none => rfl
  | some o =>
    simp only [pick, better, plOf]
    by_cases h : y.1 < o.1
    · simp [h]
    · simp [h]
end It

theorem behind_any (ip bp N k : Nat) (a : Int) (ha : a + 1 = (k : Int)) (hk : k < N) (hN : N ≤ 2001) (w : World) (hc : w.cell? ⟨ip, 3, none⟩ = some (.slice (some ⟨bp, 0, none⟩) N N)) :
    Calls Try.prog 25 #[.pointer (some ⟨ip, 0, none⟩), .int .i64 a] w (Is (.pointer (some ⟨bp, k * 16, none⟩)) w) := by
  have h1 : IntKind.i64.wrap (a + 1) = (k : Int) := by rw [ha]; exact It.wr_in (by omega) (by omega)
  have h2 : wrap64 (a + 1) = (k : Int) := (It.wr_is _).symm.trans h1
  have k0 : (0 : Int) ≤ (k : Int) := by omega
  have kl : (k : Int) < (N : Int) := by omega
  go_enter Try.func25, Try.ntmps25
  go_wp2
  go_ret
  exact ⟨rfl, rfl⟩

theorem clash_any (p c : Int) (hp : 0 ≤ p ∧ p ≤ 3) (hc : 0 ≤ c ∧ c ≤ 3) (w : World) :
    Calls Try.prog 54 #[.int .i64 p, .int .i64 c] w (Is (.int .i64 (It.apartZ c p)) w) := by
  have h1 : wrap64 (max p c - min p c) = max p c - min p c := w64 (by omega) (by omega)
  by_cases h : 1 < max p c - min p c
  · have he : It.apartZ c p = 10000 := by
      unfold It.apartZ It.unlike
      rw [if_pos (by simp; omega)]
    rw [he]
    go_enter Try.func54, Try.ntmps54
    go_wp2
    go_ret
    exact ⟨rfl, rfl⟩
  · have he : It.apartZ c p = 0 := by
      unfold It.apartZ It.unlike
      rw [if_neg (by simp; omega)]
    rw [he]
    go_enter Try.func54, Try.ntmps54
    go_wp2
    go_ret
    exact ⟨rfl, rfl⟩

def plC (p : It.Pln) : List Value := [.int .i64 p.d, .int .i64 p.n, .int .i64 p.c, .bool p.ok]
def plV (p : It.Pln) : Value := .agg #[.int .i64 p.d, .int .i64 p.n, .int .i64 p.c, .bool p.ok]
def putPl (w : World) (b o : Nat) (p : It.Pln) : World := (((w.setCell ⟨b, o, none⟩ (.int .i64 p.d)).setCell ⟨b, o + 1, none⟩ (.int .i64 p.n)).setCell ⟨b, o + 2, none⟩ (.int .i64 p.c)).setCell ⟨b, o + 3, none⟩ (.bool p.ok)
def boxPl (w : World) (p : It.Pln) : World := w.alloc (.cells #[.int .i64 p.d, .int .i64 p.n, .int .i64 p.c, .bool p.ok] 57)

set_option maxHeartbeats 4000000 in
set_option maxRecDepth 100000 in
theorem improve_any (b o : Nat) (p x : It.Pln) (w : World) (h : RecAt w b o (plC p)) (hf : ∀ j, w.frozen? ⟨b, o + j, none⟩ = false) :
    Calls Try.prog 53 #[.pointer (some ⟨b, o, none⟩), plV x] w fun e w' => e = .returned (.tuple #[]) ∧ ∃ m : Nat, w' = if It.better p x then putPl ((boxPl w x).drewN m) b o x else (boxPl w x).drewN m := by
  have hB := below_alloc w (.cells #[.int .i64 x.d, .int .i64 x.n, .int .i64 x.c, .bool x.ok] 57)
  have hb : b < w.heap.size := by
    have := h 0 _ rfl
    rcases Nat.lt_or_ge b w.heap.size with h' | h'
    · exact h'
    · simp [World.cell?, Array.getElem?_eq_none h'] at this
  have c0 := cell_below hB (h 0 _ rfl)
  have c1 := cell_below hB (h 1 _ rfl)
  have c2 := cell_below hB (h 2 _ rfl)
  have c3 := cell_below hB (h 3 _ rfl)
  have hfz : ∀ j, (w.alloc (.cells #[.int .i64 x.d, .int .i64 x.n, .int .i64 x.c, .bool x.ok] 57)).frozen? ⟨b, o + j, none⟩ = false := fun j => by
    rw [(bcell hB).2 b (o + j) hb]; exact hf j
  have f0 := hfz 0
  have f1 := hfz 1
  have f2 := hfz 2
  have f3 := hfz 3
  have q0 := cell_lay w #[.int .i64 x.d, .int .i64 x.n, .int .i64 x.c, .bool x.ok] 57 0 (.int .i64 x.d) rfl
  have q1 := cell_lay w #[.int .i64 x.d, .int .i64 x.n, .int .i64 x.c, .bool x.ok] 57 1 (.int .i64 x.n) rfl
  have q2 := cell_lay w #[.int .i64 x.d, .int .i64 x.n, .int .i64 x.c, .bool x.ok] 57 2 (.int .i64 x.c) rfl
  have q3 := cell_lay w #[.int .i64 x.d, .int .i64 x.n, .int .i64 x.c, .bool x.ok] 57 3 (.bool x.ok) rfl
  simp only [Nat.add_zero] at c0 f0
  unfold boxPl plV
  obtain ⟨W1, hW1⟩ : ∃ W1, W1 = w.alloc (.cells #[.int .i64 x.d, .int .i64 x.n, .int .i64 x.c, .bool x.ok] 57) := ⟨_, rfl⟩
  rw [← hW1] at c0 c1 c2 c3 f0 f1 f2 f3 q0 q1 q2 q3 ⊢
  have HW := Lib.hid hW1
  clear hB hb hfz h hf
  cases hok : p.ok with
  | false =>
    have HE : Hid (It.better p x = true) := Lib.hid (by unfold It.better; rw [hok]; rfl)
    rw [hok] at c3
    simp only [HE.out, if_true]
    go_enter Try.func53, Try.ntmps53
    go_wp2_with fail
    rw [← hW1]
    clear hW1
    go_quiet (fail)
    go_wp2
    go_end0
    refine ⟨rfl, nq, ?_⟩
    rfl
  | true =>
    rw [hok] at c3
    by_cases hlt : x.d < p.d
    · have HE : Hid (It.better p x = true) := Lib.hid (by unfold It.better; rw [hok, decide_eq_true hlt]; rfl)
      simp only [HE.out, if_true]
      go_enter Try.func53, Try.ntmps53
      go_wp2_with fail
      rw [← hW1]
      clear hW1
      go_quiet (fail)
      go_wp2
      go_end0
      refine ⟨rfl, nq, ?_⟩
      rfl
    · have HE : Hid (It.better p x = false) := Lib.hid (by unfold It.better; rw [hok, decide_eq_false hlt]; rfl)
      simp only [HE.out, Bool.false_eq_true, if_false]
      go_enter Try.func53, Try.ntmps53
      go_wp2_with fail
      rw [← hW1]
      clear hW1
      go_quiet (fail)
      go_wp2
      go_end0
      refine ⟨rfl, nq, ?_⟩
      rfl

/-! ### sums of a line's items -/
def smC (s : It.Sm) : Array Value := #[.int .i64 s.w, .int .i64 s.k, .int .i64 s.o0, .int .i64 s.o1, .int .i64 s.o2, .int .i64 s.o3]
namespace It
/-- one item more: penalties are wide at a line's end alone -/
def addS (s : Sm) (x : Itm) : Sm := if x.k = 2 then s else
  ⟨s.w + x.g.w, s.k + x.g.sk, if x.g.o = 0 then s.o0 + x.g.st else s.o0, if x.g.o = 1 then s.o1 + x.g.st else s.o1, if x.g.o = 2 then s.o2 + x.g.st else s.o2, if x.g.o = 3 then s.o3 + x.g.st else s.o3⟩
def smallS (s : Sm) : Prop := (-2000000000000 ≤ s.w ∧ s.w ≤ 2000000000000) ∧ (-2000000000000 ≤ s.k ∧ s.k ≤ 2000000000000) ∧ (-2000000000000 ≤ s.o0 ∧ s.o0 ≤ 2000000000000) ∧ (-2000000000000 ≤ s.o1 ∧ s.o1 ≤ 2000000000000) ∧ (-2000000000000 ≤ s.o2 ∧ s.o2 ≤ 2000000000000) ∧ (-2000000000000 ≤ s.o3 ∧ s.o3 ≤ 2000000000000)
end It
def SumPost (b : Nat) (s : It.Sm) (w : World) (e : Ending) (w' : World) : Prop := e = .returned (.tuple #[]) ∧ w'.heap[b]? = some (.cells (smC s) 80 (0, 0)) ∧ w.grownBy w' (some b)
theorem grown_alloc {w w' : World} {r : Option Nat} (h : w.grownBy w' r) (o : Obj) : w.grownBy (w'.alloc o) r := by
  have hb := below_alloc w' o
  exact ⟨hb.os.trans h.os, hb.tape.trans h.tape, hb.output.trans h.output, Nat.le_trans h.size hb.size, fun j hj hne => (hb.block j (Nat.lt_of_lt_of_le hj h.size)).trans (h.block j hj hne)⟩
theorem grown_set {w w' : World} {b i : Nat} (h : w.grownBy w' (some b)) (y : Value) : w.grownBy (w'.setCell ⟨b, i, none⟩ y) (some b) := by
  have hb : Below 0 w' (w'.setCell ⟨b, i, none⟩ y) := (Below.refl 0 w').setCell (p := ⟨b, i, none⟩) (Nat.zero_le _) y
  exact ⟨hb.os.trans h.os, hb.tape.trans h.tape, hb.output.trans h.output, Nat.le_trans h.size hb.size, fun j hj hne => (Below.heap_setCell w' ⟨b, i, none⟩ y j (fun e => hne (by rw [e]))).trans (h.block j hj hne)⟩
theorem grown_below {w w' : World} (h : Below w.heap.size w w') (r : Option Nat) : w.grownBy w' r := ⟨h.os, h.tape, h.output, h.size, fun j hj _ => h.block j hj⟩
theorem grown_drew {w w' : World} {r : Option Nat} (h : w.grownBy w' r) : w.grownBy w'.drew r := ⟨h.os, h.tape, h.output, h.size, h.block⟩

set_option maxHeartbeats 8000000 in
set_option maxRecDepth 100000 in
theorem add_any11 (b : Nat) (s : It.Sm) (x : It.Itm) (hs : It.smallS s) (hg : x.k = 2 ∨ It.glOk x.g = true) (w : World) (h : w.heap[b]? = some (.cells (smC s) 80 (0, 0))) :
    Calls Try.prog 41 #[.pointer (some ⟨b, 0, none⟩), itV x] w (SumPost b (It.addS s x) w) := by
  have hb := lt_of_obj h
  have HB := below_alloc w (.cells #[.int .i64 x.k, .int .i64 x.g.w, .int .i64 x.g.st, .int .i64 x.g.sk, .int .i64 x.g.o, .int .i64 x.p, .bool x.f, .int .i64 x.n, .int .i64 x.q] 47)
  have HO := Lib.hid (obj_kept HB h)
  have HX := Lib.hid (obj_new w _ rfl #[.int .i64 x.k, .int .i64 x.g.w, .int .i64 x.g.st, .int .i64 x.g.sk, .int .i64 x.g.o, .int .i64 x.p, .bool x.f, .int .i64 x.n, .int .i64 x.q] 47)
  have HG := Lib.hid (grown_below HB (some b))
  have hne : w.heap.size ≠ b := by omega
  obtain ⟨W1, hW1⟩ : ∃ W1, W1 = w.alloc (.cells #[.int .i64 x.k, .int .i64 x.g.w, .int .i64 x.g.st, .int .i64 x.g.sk, .int .i64 x.g.o, .int .i64 x.p, .bool x.f, .int .i64 x.n, .int .i64 x.q] 47) := ⟨_, rfl⟩
  unfold itV
  rw [← hW1] at HO HX HG
  clear HB h hb
  obtain ⟨P, hP⟩ : ∃ P, P = w.heap.size := ⟨_, rfl⟩
  rw [← hP] at HX hne
  have x0 := Lib.cell_of_heap HX.out 0
  have x1 := Lib.cell_of_heap HX.out 1
  have x2 := Lib.cell_of_heap HX.out 2
  have x3 := Lib.cell_of_heap HX.out 3
  have x4 := Lib.cell_of_heap HX.out 4
  by_cases h2 : x.k = 2
  · have HE : Hid (It.addS s x = s) := Lib.hid (if_pos h2)
    rw [HE.out]
    rw [h2] at x0 hW1 ⊢
    go_enter Try.func41, Try.ntmps41
    go_wp2_with fail
    rw [← hW1]
    go_wp2
    go_end0
    exact ⟨rfl, HO.out, HG.out⟩
  · have hgo := hg.resolve_left h2
    obtain ⟨go, gw, gt, gk⟩ := It.glOk_yes hgo
    obtain ⟨s0, s1, s2, s3, s4, s5⟩ := hs
    have HE : Hid (It.addS s x = ⟨s.w + x.g.w, s.k + x.g.sk, if x.g.o = 0 then s.o0 + x.g.st else s.o0, if x.g.o = 1 then s.o1 + x.g.st else s.o1, if x.g.o = 2 then s.o2 + x.g.st else s.o2, if x.g.o = 3 then s.o3 + x.g.st else s.o3⟩) := Lib.hid (if_neg h2)
    have w0 : IntKind.i64.wrap (s.w + x.g.w) = s.w + x.g.w := It.wr_in (by omega) (by omega)
    have w1 : IntKind.i64.wrap (s.k + x.g.sk) = s.k + x.g.sk := It.wr_in (by omega) (by omega)
    have w2 : IntKind.i64.wrap (s.o0 + x.g.st) = s.o0 + x.g.st := It.wr_in (by omega) (by omega)
    have w3 : IntKind.i64.wrap (s.o1 + x.g.st) = s.o1 + x.g.st := It.wr_in (by omega) (by omega)
    have w4 : IntKind.i64.wrap (s.o2 + x.g.st) = s.o2 + x.g.st := It.wr_in (by omega) (by omega)
    have w5 : IntKind.i64.wrap (s.o3 + x.g.st) = s.o3 + x.g.st := It.wr_in (by omega) (by omega)
    clear hgo gw gt gk s0 s1 s2 s3 s4 s5 hg
    clear x0 x1 x2 x3 x4
    have c0 : W1.cell? ⟨b, 0, none⟩ = some (.int .i64 (s.w)) := Lib.cell_of_heap HO.out 0
    have c1 : W1.cell? ⟨b, 1, none⟩ = some (.int .i64 (s.k)) := Lib.cell_of_heap HO.out 1
    have c2 : W1.cell? ⟨b, 2, none⟩ = some (.int .i64 (s.o0)) := Lib.cell_of_heap HO.out 2
    have c3 : W1.cell? ⟨b, 3, none⟩ = some (.int .i64 (s.o1)) := Lib.cell_of_heap HO.out 3
    have c4 : W1.cell? ⟨b, 4, none⟩ = some (.int .i64 (s.o2)) := Lib.cell_of_heap HO.out 4
    have c5 : W1.cell? ⟨b, 5, none⟩ = some (.int .i64 (s.o3)) := Lib.cell_of_heap HO.out 5
    have f0 := Lib.frozen_of_heap HO.out 0
    have f1 := Lib.frozen_of_heap HO.out 1
    have f2 := Lib.frozen_of_heap HO.out 2
    have f3 := Lib.frozen_of_heap HO.out 3
    have f4 := Lib.frozen_of_heap HO.out 4
    have f5 := Lib.frozen_of_heap HO.out 5
    have x0 : W1.cell? ⟨P, 0, none⟩ = some (.int .i64 x.k) := Lib.cell_of_heap HX.out 0
    have x1 : W1.cell? ⟨P, 1, none⟩ = some (.int .i64 x.g.w) := Lib.cell_of_heap HX.out 1
    have x2 : W1.cell? ⟨P, 2, none⟩ = some (.int .i64 x.g.st) := Lib.cell_of_heap HX.out 2
    have x3 : W1.cell? ⟨P, 3, none⟩ = some (.int .i64 x.g.sk) := Lib.cell_of_heap HX.out 3
    have x4 : W1.cell? ⟨P, 4, none⟩ = some (.int .i64 x.g.o) := Lib.cell_of_heap HX.out 4
    obtain ⟨W2, hW2⟩ : ∃ W2, W2 = (W1.setCell ⟨b, 0, none⟩ (.int .i64 (s.w + x.g.w))).drew := ⟨_, rfl⟩
    have HO2 : Hid (W2.heap[b]? = some (.cells #[.int .i64 (s.w + x.g.w), .int .i64 (s.k), .int .i64 (s.o0), .int .i64 (s.o1), .int .i64 (s.o2), .int .i64 (s.o3)] 80 (0, 0))) := Lib.hid (by rw [hW2]; exact heap_setCell_same W1 b 0 _ _ _ HO.out)
    have HX2 : Hid (W2.heap[P]? = some (.cells #[.int .i64 x.k, .int .i64 x.g.w, .int .i64 x.g.st, .int .i64 x.g.sk, .int .i64 x.g.o, .int .i64 x.p, .bool x.f, .int .i64 x.n, .int .i64 x.q] 47 (0, 0))) := Lib.hid (by rw [hW2]; exact obj_set (w := W1) HX.out hne)
    have HG2 : Hid (w.grownBy W2 (some b)) := Lib.hid (by rw [hW2]; exact grown_drew (grown_set HG.out _))
    obtain ⟨W3, hW3⟩ : ∃ W3, W3 = (W2.setCell ⟨b, 1, none⟩ (.int .i64 (s.k + x.g.sk))).drew := ⟨_, rfl⟩
    have HO3 : Hid (W3.heap[b]? = some (.cells #[.int .i64 (s.w + x.g.w), .int .i64 (s.k + x.g.sk), .int .i64 (s.o0), .int .i64 (s.o1), .int .i64 (s.o2), .int .i64 (s.o3)] 80 (0, 0))) := Lib.hid (by rw [hW3]; exact heap_setCell_same W2 b 1 _ _ _ HO2.out)
    have HX3 : Hid (W3.heap[P]? = some (.cells #[.int .i64 x.k, .int .i64 x.g.w, .int .i64 x.g.st, .int .i64 x.g.sk, .int .i64 x.g.o, .int .i64 x.p, .bool x.f, .int .i64 x.n, .int .i64 x.q] 47 (0, 0))) := Lib.hid (by rw [hW3]; exact obj_set (w := W2) HX2.out hne)
    have HG3 : Hid (w.grownBy W3 (some b)) := Lib.hid (by rw [hW3]; exact grown_drew (grown_set HG2.out _))
    go_enter Try.func41, Try.ntmps41
    go_wp2_with fail
    rw [← hW1, ← hP]
    clear hW1 hP
    go_wp2_with fail
    go_region
    go_wp2_with fail
    rw [← hW2]
    clear hW2 c0 c1 c2 c3 c4 c5 f0 f1 f2 f3 f4 f5 x0 x1 x2 x3 x4
    have c0 : W2.cell? ⟨b, 0, none⟩ = some (.int .i64 (s.w + x.g.w)) := Lib.cell_of_heap HO2.out 0
    have c1 : W2.cell? ⟨b, 1, none⟩ = some (.int .i64 (s.k)) := Lib.cell_of_heap HO2.out 1
    have c2 : W2.cell? ⟨b, 2, none⟩ = some (.int .i64 (s.o0)) := Lib.cell_of_heap HO2.out 2
    have c3 : W2.cell? ⟨b, 3, none⟩ = some (.int .i64 (s.o1)) := Lib.cell_of_heap HO2.out 3
    have c4 : W2.cell? ⟨b, 4, none⟩ = some (.int .i64 (s.o2)) := Lib.cell_of_heap HO2.out 4
    have c5 : W2.cell? ⟨b, 5, none⟩ = some (.int .i64 (s.o3)) := Lib.cell_of_heap HO2.out 5
    have f0 := Lib.frozen_of_heap HO2.out 0
    have f1 := Lib.frozen_of_heap HO2.out 1
    have f2 := Lib.frozen_of_heap HO2.out 2
    have f3 := Lib.frozen_of_heap HO2.out 3
    have f4 := Lib.frozen_of_heap HO2.out 4
    have f5 := Lib.frozen_of_heap HO2.out 5
    have x0 : W2.cell? ⟨P, 0, none⟩ = some (.int .i64 x.k) := Lib.cell_of_heap HX2.out 0
    have x1 : W2.cell? ⟨P, 1, none⟩ = some (.int .i64 x.g.w) := Lib.cell_of_heap HX2.out 1
    have x2 : W2.cell? ⟨P, 2, none⟩ = some (.int .i64 x.g.st) := Lib.cell_of_heap HX2.out 2
    have x3 : W2.cell? ⟨P, 3, none⟩ = some (.int .i64 x.g.sk) := Lib.cell_of_heap HX2.out 3
    have x4 : W2.cell? ⟨P, 4, none⟩ = some (.int .i64 x.g.o) := Lib.cell_of_heap HX2.out 4
    go_region
    go_wp2_with fail
    rw [← hW3]
    clear hW3 c0 c1 c2 c3 c4 c5 f0 f1 f2 f3 f4 f5 x0 x1 x2 x3 x4
    have c0 : W3.cell? ⟨b, 0, none⟩ = some (.int .i64 (s.w + x.g.w)) := Lib.cell_of_heap HO3.out 0
    have c1 : W3.cell? ⟨b, 1, none⟩ = some (.int .i64 (s.k + x.g.sk)) := Lib.cell_of_heap HO3.out 1
    have c2 : W3.cell? ⟨b, 2, none⟩ = some (.int .i64 (s.o0)) := Lib.cell_of_heap HO3.out 2
    have c3 : W3.cell? ⟨b, 3, none⟩ = some (.int .i64 (s.o1)) := Lib.cell_of_heap HO3.out 3
    have c4 : W3.cell? ⟨b, 4, none⟩ = some (.int .i64 (s.o2)) := Lib.cell_of_heap HO3.out 4
    have c5 : W3.cell? ⟨b, 5, none⟩ = some (.int .i64 (s.o3)) := Lib.cell_of_heap HO3.out 5
    have f0 := Lib.frozen_of_heap HO3.out 0
    have f1 := Lib.frozen_of_heap HO3.out 1
    have f2 := Lib.frozen_of_heap HO3.out 2
    have f3 := Lib.frozen_of_heap HO3.out 3
    have f4 := Lib.frozen_of_heap HO3.out 4
    have f5 := Lib.frozen_of_heap HO3.out 5
    have x0 : W3.cell? ⟨P, 0, none⟩ = some (.int .i64 x.k) := Lib.cell_of_heap HX3.out 0
    have x1 : W3.cell? ⟨P, 1, none⟩ = some (.int .i64 x.g.w) := Lib.cell_of_heap HX3.out 1
    have x2 : W3.cell? ⟨P, 2, none⟩ = some (.int .i64 x.g.st) := Lib.cell_of_heap HX3.out 2
    have x3 : W3.cell? ⟨P, 3, none⟩ = some (.int .i64 x.g.sk) := Lib.cell_of_heap HX3.out 3
    have x4 : W3.cell? ⟨P, 4, none⟩ = some (.int .i64 x.g.o) := Lib.cell_of_heap HX3.out 4
    clear c0 c1 f0 f1 x0 x1 x3
    obtain ho | ho | ho | ho : x.g.o = 0 ∨ x.g.o = 1 ∨ x.g.o = 2 ∨ x.g.o = 3 := by omega
    · rw [ho] at x4
      have HE4 : Hid (smC (It.addS s x) = #[.int .i64 (s.w + x.g.w), .int .i64 (s.k + x.g.sk), .int .i64 (s.o0 + x.g.st), .int .i64 (s.o1), .int .i64 (s.o2), .int .i64 (s.o3)]) := Lib.hid (by rw [HE.out, ho]; rfl)
      have HO4 : Hid ((W3.setCell ⟨b, 2, none⟩ (.int .i64 (s.o0 + x.g.st))).heap[b]? = some (.cells #[.int .i64 (s.w + x.g.w), .int .i64 (s.k + x.g.sk), .int .i64 (s.o0 + x.g.st), .int .i64 (s.o1), .int .i64 (s.o2), .int .i64 (s.o3)] 80 (0, 0))) := Lib.hid (heap_setCell_same W3 b 2 _ _ _ HO3.out)
      have HG4 := Lib.hid (grown_drew (grown_set (i := 2) HG3.out (.int .i64 (s.o0 + x.g.st))))
      go_region
      go_wp2
      go_end0
      exact ⟨rfl, by rw [HE4.out]; exact HO4.out, HG4.out⟩
    · rw [ho] at x4
      have HE4 : Hid (smC (It.addS s x) = #[.int .i64 (s.w + x.g.w), .int .i64 (s.k + x.g.sk), .int .i64 (s.o0), .int .i64 (s.o1 + x.g.st), .int .i64 (s.o2), .int .i64 (s.o3)]) := Lib.hid (by rw [HE.out, ho]; rfl)
      have HO4 : Hid ((W3.setCell ⟨b, 3, none⟩ (.int .i64 (s.o1 + x.g.st))).heap[b]? = some (.cells #[.int .i64 (s.w + x.g.w), .int .i64 (s.k + x.g.sk), .int .i64 (s.o0), .int .i64 (s.o1 + x.g.st), .int .i64 (s.o2), .int .i64 (s.o3)] 80 (0, 0))) := Lib.hid (heap_setCell_same W3 b 3 _ _ _ HO3.out)
      have HG4 := Lib.hid (grown_drew (grown_set (i := 3) HG3.out (.int .i64 (s.o1 + x.g.st))))
      go_region
      go_wp2
      go_end0
      exact ⟨rfl, by rw [HE4.out]; exact HO4.out, HG4.out⟩
    · rw [ho] at x4
      have HE4 : Hid (smC (It.addS s x) = #[.int .i64 (s.w + x.g.w), .int .i64 (s.k + x.g.sk), .int .i64 (s.o0), .int .i64 (s.o1), .int .i64 (s.o2 + x.g.st), .int .i64 (s.o3)]) := Lib.hid (by rw [HE.out, ho]; rfl)
      have HO4 : Hid ((W3.setCell ⟨b, 4, none⟩ (.int .i64 (s.o2 + x.g.st))).heap[b]? = some (.cells #[.int .i64 (s.w + x.g.w), .int .i64 (s.k + x.g.sk), .int .i64 (s.o0), .int .i64 (s.o1), .int .i64 (s.o2 + x.g.st), .int .i64 (s.o3)] 80 (0, 0))) := Lib.hid (heap_setCell_same W3 b 4 _ _ _ HO3.out)
      have HG4 := Lib.hid (grown_drew (grown_set (i := 4) HG3.out (.int .i64 (s.o2 + x.g.st))))
      go_region
      go_wp2
      go_end0
      exact ⟨rfl, by rw [HE4.out]; exact HO4.out, HG4.out⟩
    · rw [ho] at x4
      have HE4 : Hid (smC (It.addS s x) = #[.int .i64 (s.w + x.g.w), .int .i64 (s.k + x.g.sk), .int .i64 (s.o0), .int .i64 (s.o1), .int .i64 (s.o2), .int .i64 (s.o3 + x.g.st)]) := Lib.hid (by rw [HE.out, ho]; rfl)
      have HO4 : Hid ((W3.setCell ⟨b, 5, none⟩ (.int .i64 (s.o3 + x.g.st))).heap[b]? = some (.cells #[.int .i64 (s.w + x.g.w), .int .i64 (s.k + x.g.sk), .int .i64 (s.o0), .int .i64 (s.o1), .int .i64 (s.o2), .int .i64 (s.o3 + x.g.st)] 80 (0, 0))) := Lib.hid (heap_setCell_same W3 b 5 _ _ _ HO3.out)
      have HG4 := Lib.hid (grown_drew (grown_set (i := 5) HG3.out (.int .i64 (s.o3 + x.g.st))))
      go_region
      go_wp2
      go_end0
      exact ⟨rfl, by rw [HE4.out]; exact HO4.out, HG4.out⟩
end Go.Proofs.Ytdimfmpolbijeaa
