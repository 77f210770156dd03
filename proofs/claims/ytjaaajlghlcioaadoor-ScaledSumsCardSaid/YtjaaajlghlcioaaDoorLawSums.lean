/-
  The walk of the law ScaledSums: it returns true.
-/
import Derived.Test.YtjaaajlghlcioaaDoorFixed2
import Derived.Lib.QuietBelow
set_option linter.unusedVariables false
set_option linter.unusedSimpArgs false
namespace Go.Proofs.YtjaaajlghlcioaaDoor
open Go.RowKit Go.Sort

theorem cell_below {w w' : World} (hb : Below w.heap.size w w') {p : Addr} {v : Value} (h : w.cell? p = some v) : w'.cell? p = some v := by
  rw [hb.cell (block_lt_of_cell h)]; exact h
theorem below_alloc (w : World) (o : Obj) : Below w.heap.size w (w.alloc o) := (Below.refl _ _).alloc (Nat.le_refl _) o
/-- three numbers at p -/
structure ThreeAt (w : World) (p : Nat) (a b c : Int) : Prop where
  c0 : w.cell? ⟨p, 0, none⟩ = some (.int .i64 a)
  c1 : w.cell? ⟨p, 1, none⟩ = some (.int .i64 b)
  c2 : w.cell? ⟨p, 2, none⟩ = some (.int .i64 c)
theorem ThreeAt.mono {w w' : World} {p : Nat} {a b c : Int} (h : ThreeAt w p a b c) (hb : Below w.heap.size w w') : ThreeAt w' p a b c :=
  ⟨cell_below hb h.c0, cell_below hb h.c1, cell_below hb h.c2⟩
theorem threeAt_new (w : World) (a b c : Int) : ThreeAt (w.alloc (.cells #[.int .i64 a, .int .i64 b, .int .i64 c] 23)) w.heap.size a b c := ⟨by simp, by simp, by simp⟩

set_option maxHeartbeats 2000000 in
set_option maxRecDepth 100000 in
theorem lawSums_any (a b c : Int) (w : World) (hE : Env w) : Calls Tryd.prog 3 #[.agg #[.int .i64 a, .int .i64 b, .int .i64 c]] w (Ret (.bool true) w) := by
  have HE := Lib.hid hE
  have HB0 := Lib.hid (below_alloc w (.cells #[.int .i64 a, .int .i64 b, .int .i64 c] 23))
  have HC0 := Lib.hid (threeAt_new w a b c)
  clear hE
  go_enter Tryd.func3, Tryd.ntmps3
  go_wp2_with fail
  refine (add_any _ _ _).mono ?_
  rintro e w' ⟨rfl, rfl⟩
  go_wp2_with fail
  refine (refAdd_any _ _ _).mono ?_
  rintro e w' ⟨rfl, rfl⟩
  go_wp2_with fail
  refine (sub_any _ _ _).mono ?_
  rintro e w' ⟨rfl, rfl⟩
  go_wp2_with fail
  refine (refSub_any _ _ _).mono ?_
  rintro e w' ⟨rfl, rfl⟩
  go_wp2_with fail
  refine (mul_any _ _ _).mono ?_
  rintro e w' ⟨rfl, rfl⟩
  go_wp2_with fail
  refine (refTimes_any _ _ _).mono ?_
  rintro e w' ⟨rfl, rfl⟩
  go_wp2_with fail
  refine (over_any _ _ _).mono ?_
  rintro e w1 ⟨rfl, hb1⟩
  have HC1 := Lib.hid (HC0.out.mono hb1)
  have HB1 := Lib.hid (below_step HB0.out hb1)
  clear hb1
  have x0 := HC1.out.c0
  have x1 := HC1.out.c1
  have x2 := HC1.out.c2
  go_wp2_with fail
  refine (refOver_any _ _ _).mono ?_
  rintro e w2 ⟨rfl, hb2⟩
  have HC2 := Lib.hid (HC1.out.mono hb2)
  have HB2 := Lib.hid (below_step HB1.out hb2)
  clear hb2 x0 x1 x2
  have x0 := HC2.out.c0
  have x1 := HC2.out.c1
  have x2 := HC2.out.c2
  go_wp2_with fail
  refine (part_any _ _ _ _).mono ?_
  rintro e w3 ⟨rfl, hb3⟩
  have HC3 := Lib.hid (HC2.out.mono hb3)
  have HB3 := Lib.hid (below_step HB2.out hb3)
  clear hb3 x0 x1 x2
  have x0 := HC3.out.c0
  have x1 := HC3.out.c1
  have x2 := HC3.out.c2
  go_wp2_with fail
  refine (refPart_any _ _ _ _).mono ?_
  rintro e w4 ⟨rfl, hb4⟩
  have HC4 := Lib.hid (HC3.out.mono hb4)
  have HB4 := Lib.hid (below_step HB3.out hb4)
  clear hb4 x0 x1 x2
  go_wp2_with fail
  simp only [List.append_eq, List.cons_append, List.nil_append]
  have cF : ∀ d os, Calls Tryd.prog 18 #[] (grow (redrawn w4 d) os) fun e w'' => e = .returned (.bool true) ∧ ∃ p : Regrown, w'' = grow (redrawn w4 p.d) p.os :=
    fun d os => Calls.regrown_of ((fixed_any _ (HE.out.mono (below_step HB4.out (below_regrown w4 d os)))).mono fun _ _ h => h)
  have cA : ∀ d os, Calls Tryd.prog 19 #[.int .i64 a] (grow (redrawn w4 d) os) fun e w'' => e = .returned (.bool (Sc.fits a)) ∧ ∃ p : Regrown, w'' = grow (redrawn w4 p.d) p.os :=
    fun d os => Calls.regrown_of ((fits_any a _ rfl _).mono fun _ _ h => h.ret)
  have cB : ∀ d os, Calls Tryd.prog 20 #[.int .i64 a] (grow (redrawn w4 d) os) fun e w'' => e = .returned (.bool (Sc.fits a)) ∧ ∃ p : Regrown, w'' = grow (redrawn w4 p.d) p.os :=
    fun d os => Calls.regrown_of ((refFits_any a _ rfl _).mono fun _ _ h => h.ret)
  have x0 : ∀ d os, (grow (redrawn w4 d) os).cell? ⟨w.heap.size, 0, none⟩ = some (.int .i64 a) := cell_regrown HC4.out.c0
  have mixed : Tryd.prog.follows .mixedOrders = true := by kernel_rfl
  refine wp_region_quiet_below (by assumption) (by kernel_rfl) ?_
  repeat (quiet_step (first | with_reducible exact cF _ _ | with_reducible exact cA _ _ | with_reducible exact cB _ _))
  refine wpQuiet_nil ?_
  intro _ hw'
  obtain ⟨⟨dq, osq⟩, hw''⟩ := hw'
  subst hw''
  go_wp2_with fail
  go_ret
  exact ⟨rfl, below_step HB4.out (below_regrown w4 dq osq)⟩
end Go.Proofs.YtjaaajlghlcioaaDoor
