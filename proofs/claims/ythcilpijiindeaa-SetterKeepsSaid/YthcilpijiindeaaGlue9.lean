/-
  The landed package glue: is it glue, does a list's sum fit, and what it is.
-/
import Derived.Test.YthcilpijiindeaaObj9
import Derived.Test.YthcilpijiindeaaEqs9
import Derived.BigRegion
set_option linter.unusedVariables false
set_option linter.unusedSimpArgs false
namespace Go.Proofs.Ythcilpijiindeaa
open Go.RowKit

set_option maxHeartbeats 2000000 in
set_option maxRecDepth 100000 in
theorem isGlue_any (g : It.Gl) (w : World) : Calls Try.prog 60 #[glV g] w (Ret (.bool (It.glOk g)) w) := by
  obtain ⟨a, b, c, o⟩ := g
  have HB := Lib.hid (below_alloc w (.cells #[.int .i64 a, .int .i64 b, .int .i64 c, .int .i64 o] 38))
  have HR : Hid (It.glOk ⟨a, b, c, o⟩ = (decide (0 ≤ o ∧ o ≤ 3) && Sc.fits a && It.amt b && It.amt c)) := Lib.hid rfl
  have H1 := Lib.hid (fun w => fits_any a _ rfl w)
  have H2 := Lib.hid (fun w => isLength_any b _ rfl w)
  have H3 := Lib.hid (fun w => isLength_any c _ rfl w)
  generalize It.glOk ⟨a, b, c, o⟩ = r at HR ⊢
  generalize Sc.fits a = r1 at HR H1
  generalize It.amt b = r2 at HR H2
  generalize It.amt c = r3 at HR H3
  unfold glV
  by_cases h0 : o < 0
  · have HE : Hid (r = false) := Lib.hid (by rw [HR.out, decide_eq_false (by omega)]; rfl)
    go_enter Try.func60, Try.ntmps60
    go_wp2
    go_ret
    rw [HE.out]
    exact ⟨rfl, HB.out⟩
  · by_cases h3 : 3 < o
    · have HE : Hid (r = false) := Lib.hid (by rw [HR.out, decide_eq_false (by omega)]; rfl)
      have h0' : 0 ≤ o := by omega
      have h4 : ¬ o < 4 := by omega
      go_enter Try.func60, Try.ntmps60
      go_wp2
      go_ret
      rw [HE.out]
      exact ⟨rfl, HB.out⟩
    · have HE : Hid (r = (r1 && r2 && r3)) := Lib.hid (by rw [HR.out, decide_eq_true (by omega), Bool.true_and])
      have h0' : 0 ≤ o := by omega
      have h4 : o < 4 := by omega
      clear HR h0 h3
      cases r1 with
      | false =>
        go_enter Try.func60, Try.ntmps60
        go_wp2_with fail
        refine (H1.out _).mono ?_
        rintro e w1 ⟨rfl, rfl⟩
        go_wp2
        go_ret
        rw [HE.out]
        exact ⟨rfl, HB.out⟩
      | true =>
        cases r2 with
        | false =>
          go_enter Try.func60, Try.ntmps60
          go_wp2_with fail
          refine (H1.out _).mono ?_
          rintro e w1 ⟨rfl, rfl⟩
          go_wp2_with fail
          refine (H2.out _).mono ?_
          rintro e w1 ⟨rfl, rfl⟩
          go_wp2
          go_ret
          rw [HE.out]
          exact ⟨rfl, HB.out⟩
        | true =>
          go_enter Try.func60, Try.ntmps60
          go_wp2_with fail
          refine (H1.out _).mono ?_
          rintro e w1 ⟨rfl, rfl⟩
          go_wp2_with fail
          refine (H2.out _).mono ?_
          rintro e w1 ⟨rfl, rfl⟩
          go_wp2_with fail
          refine (H3.out _).mono ?_
          rintro e w1 ⟨rfl, rfl⟩
          go_wp2
          go_ret
          rw [HE.out]
          exact ⟨rfl, HB.out⟩

set_option maxHeartbeats 2000000 in
set_option maxRecDepth 100000 in
theorem grow_any (p i : Nat) (x y : Int) (w : World) (hc : w.cell? ⟨p, i, none⟩ = some (.int .i64 x)) (hf : w.frozen? ⟨p, i, none⟩ = false) :
    Calls Try.prog 61 #[.pointer (some ⟨p, i, none⟩), .int .i64 y] w fun e w' => e = .returned (.bool (Sc.addB x y)) ∧ w' = w.setCell ⟨p, i, none⟩ (.int .i64 (Sc.addV x y)) := by
  have HA := Lib.hid (fun w => add_any x y w)
  generalize Sc.addB x y = q at HA ⊢
  generalize Sc.addV x y = z at HA ⊢
  go_enter Try.func61, Try.ntmps61
  go_wp2_with fail
  refine (HA.out _).mono ?_
  rintro e w1 ⟨rfl, rfl⟩
  go_wp2
  go_ret
  exact ⟨rfl, rfl⟩

/-! ### a list's sum -/
def sumC (l : List It.Gl) : Array Value := #[.int .i64 (It.sumW l), .int .i64 (It.sumK l), .int .i64 (It.sumO 0 l), .int .i64 (It.sumO 1 l), .int .i64 (It.sumO 2 l), .int .i64 (It.sumO 3 l)]
def zeroS : Array Value := #[.int .i64 0, .int .i64 0, .int .i64 0, .int .i64 0, .int .i64 0, .int .i64 0]
/-- what Total answers -/
def totV (l : List It.Gl) : Value := .tuple #[.agg (if It.glMay l then sumC l else zeroS), .bool (It.glMay l)]
structure TotAt (w0 : World) (wr : World) (a k o0 o1 o2 o3 z t : Int) : Prop where
  h0 : wr.heap[w0.heap.size]? = some (.cells #[.int .i64 0, .int .i64 0, .int .i64 0, .int .i64 0, .int .i64 0, .int .i64 0] 87 (0, 0))
  h1 : wr.heap[w0.heap.size + 1]? = some (.cells #[.int .i64 a, .int .i64 k, .int .i64 o0, .int .i64 o1, .int .i64 o2, .int .i64 o3] 87 (0, 0))
  h2 : wr.heap[w0.heap.size + 1 + 1]? = some (.cells #[.int .i64 z] 2 (0, 0))
  h3 : wr.heap[w0.heap.size + 1 + 1 + 1]? = some (.cells #[.int .i64 t] 2 (0, 0))
  hb : Below w0.heap.size w0 wr
theorem TotAt.mono {w0 wr w' : World} {a k o0 o1 o2 o3 z t : Int} (h : TotAt w0 wr a k o0 o1 o2 o3 z t) (hb : Below wr.heap.size wr w') : TotAt w0 w' a k o0 o1 o2 o3 z t :=
  ⟨obj_kept hb h.h0, obj_kept hb h.h1, obj_kept hb h.h2, obj_kept hb h.h3, below_step h.hb hb⟩
theorem TotAt.setZ {w0 wr : World} {a k o0 o1 o2 o3 z t : Int} (h : TotAt w0 wr a k o0 o1 o2 o3 z t) (y : Int) : TotAt w0 (wr.setCell ⟨w0.heap.size + 1 + 1, 0, none⟩ (.int .i64 y)) a k o0 o1 o2 o3 y t :=
  ⟨obj_set h.h0 (by omega), obj_set h.h1 (by omega), heap_setCell_same _ _ _ _ _ _ h.h2, obj_set h.h3 (by omega), h.hb.setCell (p := ⟨w0.heap.size + 1 + 1, 0, none⟩) (by simp only []; omega) _⟩
theorem TotAt.setT {w0 wr : World} {a k o0 o1 o2 o3 z t : Int} (h : TotAt w0 wr a k o0 o1 o2 o3 z t) (y : Int) : TotAt w0 (wr.setCell ⟨w0.heap.size + 1 + 1 + 1, 0, none⟩ (.int .i64 y)) a k o0 o1 o2 o3 z y :=
  ⟨obj_set h.h0 (by omega), obj_set h.h1 (by omega), obj_set h.h2 (by omega), heap_setCell_same _ _ _ _ _ _ h.h3, h.hb.setCell (p := ⟨w0.heap.size + 1 + 1 + 1, 0, none⟩) (by simp only []; omega) _⟩
theorem TotAt.setK {w0 wr : World} {a k o0 o1 o2 o3 z t : Int} (h : TotAt w0 wr a k o0 o1 o2 o3 z t) (y : Int) : TotAt w0 (wr.setCell ⟨w0.heap.size + 1, 1, none⟩ (.int .i64 y)) a y o0 o1 o2 o3 z t :=
  ⟨obj_set h.h0 (by omega), heap_setCell_same _ _ _ _ _ _ h.h1, obj_set h.h2 (by omega), obj_set h.h3 (by omega), h.hb.setCell (p := ⟨w0.heap.size + 1, 1, none⟩) (Nat.le_add_right _ _) _⟩
theorem TotAt.setW {w0 wr : World} {a k o0 o1 o2 o3 z t : Int} (h : TotAt w0 wr a k o0 o1 o2 o3 z t) (y : Int) : TotAt w0 (wr.setCell ⟨w0.heap.size + 1, 0, none⟩ (.int .i64 y)) y k o0 o1 o2 o3 z t :=
  ⟨obj_set h.h0 (by omega), heap_setCell_same _ _ _ _ _ _ h.h1, obj_set h.h2 (by omega), obj_set h.h3 (by omega), h.hb.setCell (p := ⟨w0.heap.size + 1, 0, none⟩) (Nat.le_add_right _ _) _⟩
theorem TotAt.set0 {w0 wr : World} {a k o0 o1 o2 o3 z t : Int} (h : TotAt w0 wr a k o0 o1 o2 o3 z t) (y : Int) : TotAt w0 (wr.setCell ⟨w0.heap.size + 1, 2, none⟩ (.int .i64 y)) a k y o1 o2 o3 z t :=
  ⟨obj_set h.h0 (by omega), heap_setCell_same _ _ _ _ _ _ h.h1, obj_set h.h2 (by omega), obj_set h.h3 (by omega), h.hb.setCell (p := ⟨w0.heap.size + 1, 2, none⟩) (Nat.le_add_right _ _) _⟩
theorem TotAt.set1 {w0 wr : World} {a k o0 o1 o2 o3 z t : Int} (h : TotAt w0 wr a k o0 o1 o2 o3 z t) (y : Int) : TotAt w0 (wr.setCell ⟨w0.heap.size + 1, 3, none⟩ (.int .i64 y)) a k o0 y o2 o3 z t :=
  ⟨obj_set h.h0 (by omega), heap_setCell_same _ _ _ _ _ _ h.h1, obj_set h.h2 (by omega), obj_set h.h3 (by omega), h.hb.setCell (p := ⟨w0.heap.size + 1, 3, none⟩) (Nat.le_add_right _ _) _⟩
theorem TotAt.set2 {w0 wr : World} {a k o0 o1 o2 o3 z t : Int} (h : TotAt w0 wr a k o0 o1 o2 o3 z t) (y : Int) : TotAt w0 (wr.setCell ⟨w0.heap.size + 1, 4, none⟩ (.int .i64 y)) a k o0 o1 y o3 z t :=
  ⟨obj_set h.h0 (by omega), heap_setCell_same _ _ _ _ _ _ h.h1, obj_set h.h2 (by omega), obj_set h.h3 (by omega), h.hb.setCell (p := ⟨w0.heap.size + 1, 4, none⟩) (Nat.le_add_right _ _) _⟩
theorem TotAt.set3 {w0 wr : World} {a k o0 o1 o2 o3 z t : Int} (h : TotAt w0 wr a k o0 o1 o2 o3 z t) (y : Int) : TotAt w0 (wr.setCell ⟨w0.heap.size + 1, 5, none⟩ (.int .i64 y)) a k o0 o1 o2 y z t :=
  ⟨obj_set h.h0 (by omega), heap_setCell_same _ _ _ _ _ _ h.h1, obj_set h.h2 (by omega), obj_set h.h3 (by omega), h.hb.setCell (p := ⟨w0.heap.size + 1, 5, none⟩) (Nat.le_add_right _ _) _⟩
/-- six cells set anew -/
theorem six_set {w0 : World} {p : Nat} {cs : Array Value} {T : TypeId} (h : w0.heap[p]? = some (.cells cs T (0, 0))) (hn : cs.size = 6) (a b c d e f : Value) :
    ((((((w0.setCell ⟨p, 0, none⟩ a).setCell ⟨p, 1, none⟩ b).setCell ⟨p, 2, none⟩ c).setCell ⟨p, 3, none⟩ d).setCell ⟨p, 4, none⟩ e).setCell ⟨p, 5, none⟩ f).heap[p]? = some (.cells #[a, b, c, d, e, f] T (0, 0)) := by
  have h5 := heap_setCell_same _ p 5 _ T f (heap_setCell_same _ p 4 _ T e (heap_setCell_same _ p 3 _ T d (heap_setCell_same _ p 2 _ T c (heap_setCell_same _ p 1 _ T b (heap_setCell_same w0 p 0 _ T a h)))))
  rw [h5]
  obtain ⟨l⟩ := cs
  have hl : l.length = 6 := hn
  clear hn h h5
  match l, hl with
  | [x0, x1, x2, x3, x4, x5], _ => simp only [List.setIfInBounds_toArray, List.set_cons_zero, List.set_cons_succ]
theorem below_six {w0 w1 : World} {p B : Nat} (h : Below B w0 w1) (hp : B ≤ p) (a b c d e f : Value) :
    Below B w0 ((((((w1.setCell ⟨p, 0, none⟩ a).setCell ⟨p, 1, none⟩ b).setCell ⟨p, 2, none⟩ c).setCell ⟨p, 3, none⟩ d).setCell ⟨p, 4, none⟩ e).setCell ⟨p, 5, none⟩ f) :=
  ((((((h.setCell (p := ⟨p, 0, none⟩) hp _).setCell (p := ⟨p, 1, none⟩) hp _).setCell (p := ⟨p, 2, none⟩) hp _).setCell (p := ⟨p, 3, none⟩) hp _).setCell (p := ⟨p, 4, none⟩) hp _).setCell (p := ⟨p, 5, none⟩) hp _)
end Go.Proofs.Ythcilpijiindeaa
