/-
  The walk of the law ScaledLaws: it returns true.
-/
import Derived.Test.YtjaaajlghlcioaaDoorFixed2
set_option linter.unusedVariables false
set_option linter.unusedSimpArgs false
namespace Go.Proofs.YtjaaajlghlcioaaDoor
open Go.RowKit

theorem cell_below {w w' : World} (hb : Below w.heap.size w w') {p : Addr} {v : Value} (h : w.cell? p = some v) : w'.cell? p = some v := by
  rw [hb.cell (block_lt_of_cell h)]; exact h
theorem below_alloc (w : World) (o : Obj) : Below w.heap.size w (w.alloc o) := (Below.refl _ _).alloc (Nat.le_refl _) o
/-- three numbers at p -/
structure ThreeAt (w : World) (p : Nat) (a b c : Int) : Prop where
  c0 : w.cell? ⟨p, 0, none⟩ = some (.int .i64 a)
  c1 : w.cell? ⟨p, 1, none⟩ = some (.int .i64 b)
  c2 : w.cell? ⟨p, 2, none⟩ = some (.int .i64 c)
theorem ThreeAt.mono {w w' : World} {p : Nat} {a b c : Int} (h : ThreeAt w p a b c) (hb : Below w.heap.size w w') : ThreeAt w' p a b c :=
  ⟨cell_below hb h.c0, cell_below hb h.c1, cell_below hb h.c2⟩
theorem threeAt_new (w : World) (a b c : Int) : ThreeAt (w.alloc (.cells #[.int .i64 a, .int .i64 b, .int .i64 c] 23)) w.heap.size a b c := ⟨by simp, by simp, by simp⟩

set_option maxHeartbeats 4000000 in
set_option maxRecDepth 100000 in
theorem lawLaws_any (a b c : Int) (w : World) (hE : Env w) : Calls Tryd.prog 6 #[.agg #[.int .i64 a, .int .i64 b, .int .i64 c]] w (Ret (.bool true) w) := by
  have HE := Lib.hid hE
  have HB0 := Lib.hid (below_alloc w (.cells #[.int .i64 a, .int .i64 b, .int .i64 c] 23))
  have HC0 := Lib.hid (threeAt_new w a b c)
  have hc : Calls Tryd.prog 8 #[.int .i64 b, .int .i64 a] = Calls Tryd.prog 8 #[.int .i64 b, .int .i64 a] := rfl
  have HAdd2 : Hid (∀ w, Calls Tryd.prog 8 #[.int .i64 b, .int .i64 a] w (Is (Two (Sc.addV a b) (Sc.addB a b)) w)) := Lib.hid (fun w => by rw [Sc.addV_comm a b, Sc.addB_comm a b]; exact add_any b a w)
  clear hE hc
  -- the difference and its second part
  obtain ⟨sv, hsv⟩ : ∃ sv, sv = Sc.subV a b := ⟨_, rfl⟩
  obtain ⟨sb, hsb⟩ : ∃ sb, sb = Sc.subB a b := ⟨_, rfl⟩
  have HSub : Hid (∀ w, Calls Tryd.prog 10 #[.int .i64 a, .int .i64 b] w (Is (Two sv sb) w)) := Lib.hid (fun w => by rw [hsv, hsb]; exact sub_any a b w)
  obtain ⟨dv, hdv⟩ : ∃ dv, dv = Sc.addV sv b := ⟨_, rfl⟩
  obtain ⟨db, hdb⟩ : ∃ db, db = Sc.addB sv b := ⟨_, rfl⟩
  have HBack : Hid (∀ w, Calls Tryd.prog 8 #[.int .i64 sv, .int .i64 b] w (Is (Two dv db) w)) := Lib.hid (fun w => by rw [hdv, hdb]; exact add_any sv b w)
  have hsub : sb = true → db = true ∧ dv = a := fun h => by rw [hdb, hdv, hsv]; exact Sc.sub_add (by rw [← hsb]; exact h)
  -- the quotient
  obtain ⟨q, hq⟩ : ∃ q, q = Sc.overQ a b := ⟨_, rfl⟩
  obtain ⟨r, hr⟩ : ∃ r, r = Sc.overR a b := ⟨_, rfl⟩
  obtain ⟨ob, hob⟩ : ∃ ob, ob = Sc.overB a b := ⟨_, rfl⟩
  have HOver : Hid (∀ w, Calls Tryd.prog 14 #[.int .i64 a, .int .i64 b] w (Ret (Three q r ob) w)) := Lib.hid (fun w => by rw [hq, hr, hob]; exact over_any a b w)
  have hover : ob = true → (-1073741823 ≤ a ∧ a ≤ 1073741823) ∧ q * b + r = a ∧ (-1073741823 ≤ r ∧ r ≤ 1073741823) ∧ (r = 0 ∨ decide (r < 0) = decide (a < 0)) := fun h => by
    have h1 : Sc.overB a b = true := by rw [← hob]; exact h
    have h2 := Sc.over_back h1
    rw [← hq, ← hr] at h2
    have h3 : Sc.fits a = true := by
      unfold Sc.overB at h1
      simp only [Bool.and_eq_true] at h1
      exact h1.1
    have hf := Sc.fits_yes h3
    have h4 : r = a.tmod b := by rw [hr]; unfold Sc.overR; rw [if_pos h1]
    have h5 := tmod_range b hf.1 hf.2
    exact ⟨hf, h2.1, by rw [h4]; exact h5, h2.2⟩
  -- a part of all
  have hall := Sc.part_all a
  obtain ⟨fa, hfa⟩ : ∃ fa, fa = Sc.fits a := ⟨_, rfl⟩
  obtain ⟨al, hal⟩ : ∃ al, al = Sc.partV a 65536 65536 := ⟨_, rfl⟩
  have HPart0 : Hid (∀ w, Calls Tryd.prog 16 #[.int .i64 a, .int .i64 65536, .int .i64 65536] w (Ret (Two al fa) w)) := Lib.hid (fun w => by rw [hal, hfa, ← hall.1]; exact part_any a 65536 65536 w)
  have HFits : Hid (∀ w, Calls Tryd.prog 19 #[.int .i64 a] w (Is (.bool fa) w)) := Lib.hid (fun w => fits_any a fa hfa.symm w)
  have hall2 : fa = true → al = a := fun h => by rw [hal]; exact hall.2 (by rw [← hfa]; exact h)
  -- parts in their order
  obtain ⟨x, hx⟩ : ∃ x, x = wrap64 (a - 1) := ⟨_, rfl⟩
  obtain ⟨ev, hev⟩ : ∃ ev, ev = Sc.partV a b c := ⟨_, rfl⟩
  obtain ⟨eb, heb⟩ : ∃ eb, eb = Sc.partB a b c := ⟨_, rfl⟩
  obtain ⟨gv, hgv⟩ : ∃ gv, gv = Sc.partV x b c := ⟨_, rfl⟩
  obtain ⟨gb, hgb⟩ : ∃ gb, gb = Sc.partB x b c := ⟨_, rfl⟩
  have HPart1 : Hid (∀ w, Calls Tryd.prog 16 #[.int .i64 a, .int .i64 b, .int .i64 c] w (Ret (Two ev eb) w)) := Lib.hid (fun w => by rw [hev, heb]; exact part_any a b c w)
  have HPart2 : Hid (∀ w, Calls Tryd.prog 16 #[.int .i64 (wrap64 (a - 1)), .int .i64 b, .int .i64 c] w (Ret (Two gv gb) w)) := Lib.hid (fun w => by rw [hgv, hgb, ← hx]; exact part_any x b c w)
  have hpart : eb = true → gb = true → gv ≤ ev := fun h1 h2 => by
    have h3 : Sc.partB a b c = true := by rw [← heb]; exact h1
    have h4 : Sc.fits a = true := by
      unfold Sc.partB Sc.partA at h3
      simp only [Bool.and_eq_true] at h3
      exact h3.1.1.1.1.1
    have hf := Sc.fits_yes h4
    have e : x = a - 1 := by rw [hx]; exact w64 (by omega) (by omega)
    rw [hgv, hev, e]
    exact Sc.part_mono h3 (by rw [← e, ← hgb]; exact h2)
  clear hsv hsb hdv hdb hq hr hob hall hfa hal hev heb hgv hgb
  have HX := Lib.hid hx
  have HPr := Lib.hid hpart
  have HAl := Lib.hid hall2
  have HOv := Lib.hid hover
  have HSb := Lib.hid hsub
  clear hx hpart hall2 hover hsub
  go_enter Tryd.func6, Tryd.ntmps6
  go_wp2_with fail
  refine (add_any _ _ _).mono ?_
  rintro e w' ⟨rfl, rfl⟩
  go_wp2_with fail
  refine (HAdd2.out _).mono ?_
  rintro e w' ⟨rfl, rfl⟩
  go_wp2_with fail
  refine (fixed_any _ (HE.out.mono HB0.out)).mono ?_
  rintro e w1 ⟨rfl, hb1⟩
  have HC1 := Lib.hid (HC0.out.mono hb1)
  have HB1 := Lib.hid (below_step HB0.out hb1)
  clear hb1
  have x0 := HC1.out.c0
  have x1 := HC1.out.c1
  have x2 := HC1.out.c2
  have n1 : (Sc.addV a b != Sc.addV a b) = false := by simp
  have n2 : (Sc.addB a b != Sc.addB a b) = false := by simp
  go_wp2_with fail
  refine (HSub.out _).mono ?_
  rintro e w' ⟨rfl, rfl⟩
  go_wp2_with fail
  refine (HBack.out _).mono ?_
  rintro e w' ⟨rfl, rfl⟩
  have n3 : (a != a) = false := by simp
  have n4 : (fa != fa) = false := by simp
  cases sb
  case' true =>
    obtain ⟨h1, h2⟩ := HSb.out rfl
    have h3 := h2.symm
    subst h1
    subst h3
    clear h2
  all_goals
    clear HSb
    go_wp2_with fail
    refine (HOver.out _).mono ?_
    rintro e w2 ⟨rfl, hb2⟩
    have HC2 := Lib.hid (HC1.out.mono hb2)
    have HB2 := Lib.hid (below_step HB1.out hb2)
    clear hb2 x0 x1 x2
    have x0 := HC2.out.c0
    have x1 := HC2.out.c1
    have x2 := HC2.out.c2
    cases ob
    case' true =>
      obtain ⟨hf, hqr, hr, h0⟩ := HOv.out rfl
      have m0 : -3000000000 ≤ q * b := by omega
      have m1 : q * b ≤ 3000000000 := by omega
      obtain ⟨r0, r1⟩ := hr
      have n5 : (q * b + r != a) = false := by rw [hqr]; simp
      by_cases hz : r = 0
      case' pos =>
        subst hz
        have n6 : (q * b != a) = false := by rw [Int.add_zero] at hqr; rw [hqr]; simp
        clear h0 hf hqr
      case' neg =>
        have n6 : (r != 0) = true := bne_iff_ne.2 hz
        have h7 := h0.resolve_left hz
        have n7 : (!(decide (r < 0) == decide (a < 0))) = false := by rw [h7]; simp
        have n8 : (decide (r < 0) == decide (a < 0)) = true := by rw [h7]; simp
        clear hz h0 hf hqr h7
    all_goals
      clear HOv
      go_wp2_with fail
      try clear s1 s2
      refine (HPart0.out _).mono ?_
      rintro e w3 ⟨rfl, hb3⟩
      have HC3 := Lib.hid (HC2.out.mono hb3)
      have HB3 := Lib.hid (below_step HB2.out hb3)
      clear hb3 x0 x1 x2
      have x0 := HC3.out.c0
      have x1 := HC3.out.c1
      have x2 := HC3.out.c2
      go_wp2_with fail
      refine (HFits.out _).mono ?_
      rintro e w' ⟨rfl, rfl⟩
      cases fa
      case' true =>
        have h1 := (HAl.out rfl).symm
        subst h1
      all_goals
        clear HAl
        go_wp2_with fail
        refine (HPart1.out _).mono ?_
        rintro e w4 ⟨rfl, hb4⟩
        have HC4 := Lib.hid (HC3.out.mono hb4)
        have HB4 := Lib.hid (below_step HB3.out hb4)
        clear hb4 x0 x1 x2
        have x0 := HC4.out.c0
        have x1 := HC4.out.c1
        have x2 := HC4.out.c2
        go_wp2_with fail
        refine (HPart2.out _).mono ?_
        rintro e w5 ⟨rfl, hb5⟩
        have HB5 := Lib.hid (below_step HB4.out hb5)
        clear hb5 x0 x1 x2
        cases eb
        case' true =>
          cases gb
          case' true => have h1 := HPr.out rfl rfl
        all_goals
          go_wp2_with fail
          go_ret
          exact ⟨by simp, HB5.out⟩
end Go.Proofs.YtjaaajlghlcioaaDoor
