/-
  The landed Make: what nodes say, in memory, or what is wrong with them first.
-/
import Derived.Test.YtfjplhgajoehfaaGreatDoorQAsC14
import Derived.Test.YtfjplhgajoehfaaGreatDoorQNewm14
set_option linter.unusedVariables false
set_option linter.unusedSimpArgs false
namespace Go.Proofs.YtfjplhgajoehfaaGreatDoor
open Go.RowKit

/-- what Make leaves -/
def MakePost (keys : List (List UInt8)) (l : List El.Nd) (w : World) (e : Ending) (w' : World) : Prop := Below w.heap.size w w' ∧ match El.made keys El.deepest l with
  | .ok s => ∃ vs vl K, e = .returned (.tuple #[.agg #[vs, vl], .agg #[.int .i64 0, .int .i64 0]]) ∧ SidesK K w' vs s.sides ∧ SlcK laC 3 K w' vl s.labels ∧ ∀ b, K b → b < w'.heap.size
  | .bad c a => e = .returned (.tuple #[.agg #[.slice none 0 0, .slice none 0 0], .agg #[.int .i64 c, .int .i64 a]])
/-- the two results are written -/
def fin14 (w : World) (H : Nat) (a b c d : Value) : World := (((w.setCell ⟨H, 0, none⟩ a).setCell ⟨H, 1, none⟩ b).setCell ⟨H + 1, 0, none⟩ c).setCell ⟨H + 1, 1, none⟩ d
theorem fin14_block (w : World) (H : Nat) (a b c d : Value) (j : Nat) (h0 : j ≠ H) (h1 : j ≠ H + 1) : (fin14 w H a b c d).heap[j]? = w.heap[j]? := by
  unfold fin14
  rw [Below.heap_setCell _ ⟨H + 1, 1, none⟩ _ _ h1, Below.heap_setCell _ ⟨H + 1, 0, none⟩ _ _ h1, Below.heap_setCell _ ⟨H, 1, none⟩ _ _ h0, Below.heap_setCell _ ⟨H, 0, none⟩ _ _ h0]
theorem fin14_below {w0 w : World} {n : Nat} (h : Below n w0 w) (H : Nat) (hH : n ≤ H) (a b c d : Value) : Below n w0 (fin14 w H a b c d) := by
  unfold fin14
  exact (((h.setCell (p := ⟨H, 0, none⟩) hH a).setCell (p := ⟨H, 1, none⟩) hH b).setCell (p := ⟨H + 1, 0, none⟩) (by show n ≤ H + 1; omega) c).setCell (p := ⟨H + 1, 1, none⟩) (by show n ≤ H + 1; omega) d
theorem fin14_size (w : World) (H : Nat) (a b c d : Value) : w.heap.size ≤ (fin14 w H a b c d).heap.size := (fin14_below (Below.refl 0 w) H (Nat.zero_le _) a b c d).size
theorem fin14_lo {w : World} {H : Nat} {T : TypeId} {x y : Value} (a b c d : Value) (h : w.heap[H]? = some (.cells #[x, y] T (0, 0))) : (fin14 w H a b c d).heap[H]? = some (.cells #[a, b] T (0, 0)) := by
  unfold fin14
  rw [Below.heap_setCell _ ⟨H + 1, 1, none⟩ _ _ (by show H ≠ H + 1; omega), Below.heap_setCell _ ⟨H + 1, 0, none⟩ _ _ (by show H ≠ H + 1; omega)]
  exact heap_setCell_same _ H 1 _ _ b (heap_setCell_same w H 0 _ _ a h)
theorem fin14_hi {w : World} {H : Nat} {T : TypeId} {x y : Value} (a b c d : Value) (h : w.heap[H + 1]? = some (.cells #[x, y] T (0, 0))) : (fin14 w H a b c d).heap[H + 1]? = some (.cells #[c, d] T (0, 0)) := by
  unfold fin14
  have h2 : ((w.setCell ⟨H, 0, none⟩ a).setCell ⟨H, 1, none⟩ b).heap[H + 1]? = some (.cells #[x, y] T (0, 0)) := by
    rw [Below.heap_setCell _ ⟨H, 1, none⟩ _ _ (by show H + 1 ≠ H; omega), Below.heap_setCell _ ⟨H, 0, none⟩ _ _ (by show H + 1 ≠ H; omega)]
    exact h
  exact heap_setCell_same _ (H + 1) 1 _ _ d (heap_setCell_same _ (H + 1) 0 _ _ c h2)
theorem make_ok {E : Env14} {S : Nat → Prop} {w1 w : World} {s : El.St} {K : Nat → Prop} {y : Dyn} (h : MkP E S w1 0 0 s K y w) (H : Nat) (h0 : S H) (h1 : S (H + 1)) (a b c d : Value) :
    SidesK (fun j => K j ∨ y.vs.ownBlock = some j ∨ y.vl.ownBlock = some j) (fin14 w H a b c d) y.vs s.sides ∧ SlcK laC 3 (fun j => K j ∨ y.vs.ownBlock = some j ∨ y.vl.ownBlock = some j) (fin14 w H a b c d) y.vl s.labels ∧
      ∀ j, (K j ∨ y.vs.ownBlock = some j ∨ y.vl.ownBlock = some j) → j < (fin14 w H a b c d).heap.size := by
  have hs := h.rows.sides
  have hl := h.rows.labels
  have far : ∀ j, (K j ∨ y.vs.ownBlock = some j ∨ y.vl.ownBlock = some j) → ∀ g, S g → j ≠ g := fun j hj g hg e => by
    subst e
    rcases hj with hj | hj | hj
    · exact h.KS _ hg hj
    · exact hs.ne _ (.inr hg) hj
    · exact hl.ne _ (.inr hg) hj
  have st : ∀ j, (K j ∨ y.vs.ownBlock = some j ∨ y.vl.ownBlock = some j) → Stays w (fin14 w H a b c d) j := fun j hj => stays_block (fin14_block w H a b c d j (far j hj _ h0) (far j hj _ h1))
  obtain ⟨rs, r1, r2⟩ := hs.row
  obtain ⟨ls, l1, l2⟩ := hl.row
  have le := Each.eq l2
  subst le
  refine ⟨⟨rs, (OwnR.slcK r1 (K := fun j => K j ∨ y.vs.ownBlock = some j ∨ y.vl.ownBlock = some j) (fun _ => rfl) (fun j hj => .inr (.inl hj))).move st (fun _ h => h), r2.imp fun x z hx => SideK.move (fun j hj => st j (.inl hj)) (fun j hj => .inl hj) hx⟩,
    (OwnR.slcK l1 (K := fun j => K j ∨ y.vs.ownBlock = some j ∨ y.vl.ownBlock = some j) (fun _ => rfl) (fun j hj => .inr (.inr hj))).move st (fun _ h => h), fun j hj => Nat.lt_of_lt_of_le ?_ (fin14_size w H a b c d)⟩
  rcases hj with hj | hj | hj
  · exact h.Klt hj
  · exact (hs.lt hj).2
  · exact (hl.lt hj).2
/-- a maker's world, with the two results and the failure's cell kept -/
structure Mid14 (E : Env14) (S : Nat → Prop) (w w2 : World) (H X : Nat) : Prop where
  st : Stat14 E S w2
  mkr : MK E S w2 0 0 El.St.none w2
  h0 : S H ∧ w2.heap[H]? = some (.cells #[.slice none 0 0, .slice none 0 0] 29 (0, 0))
  h1 : S (H + 1) ∧ w2.heap[H + 1]? = some (.cells #[.int .i64 0, .int .i64 0] 32 (0, 0))
  hx : S X ∧ w2.heap[X]? = some (.cells #[.int .i64 0, .int .i64 0] 69 (0, 0))
  lo : w.heap.size ≤ H
  lx : H + 1 < X
  ew : E.w0 = w
theorem mid_of {w w1 : World} {E : Env14} {S : Nat → Prop} (ew : E.w0 = w) (hX : ∀ b, (b = w.heap.size ∨ b = w.heap.size + 1) → S b) (hst : Stat14 E S w1) (hmk : MK E S w1 0 0 El.St.none w1)
    (hb : Below ((w.alloc (.cells #[.slice none 0 0, .slice none 0 0] 29)).alloc (.cells #[.int .i64 0, .int .i64 0] 32)).heap.size ((w.alloc (.cells #[.slice none 0 0, .slice none 0 0] 29)).alloc (.cells #[.int .i64 0, .int .i64 0] 32)) w1) :
    Mid14 E (Plus S w1 (w1.alloc (.cells #[.int .i64 0, .int .i64 0] 69))) w (w1.alloc (.cells #[.int .i64 0, .int .i64 0] 69)) w.heap.size w1.heap.size := by
  have hbx := below_alloc w1 (.cells #[.int .i64 0, .int .i64 0] 69)
  have hs := hb.size
  simp only [World.size_alloc] at hs
  exact {
    st := hst.enter hmk hbx
    mkr := hmk.enter hbx
    h0 := ⟨.inl (hX _ (.inl rfl)), obj_kept hbx (obj_kept hb (obj_kept (below_alloc _ _) (obj_new _ _ rfl _ _)))⟩
    h1 := ⟨.inl (hX _ (.inr rfl)), obj_kept hbx (obj_kept hb (obj_new _ _ (by simp only [World.size_alloc]) _ _))⟩
    hx := ⟨.inr ⟨Nat.le_refl _, by simp only [World.size_alloc]; omega⟩, obj_new _ _ rfl _ _⟩
    lo := Nat.le_refl _
    lx := by omega
    ew := ew }

set_option maxHeartbeats 4000000 in
set_option maxRecDepth 100000 in
theorem landedMake_any (l : List El.Nd) (v tv : Value) (t : List Sg.Sig) (w : World) (hl : NodesAt w (fun _ => True) v l) (hsz : El.sizeL l ≤ lim14) (ht : SgsAt w tv t) (hL : LibEnv w) (hS : SerAt w) (hE : ErrTy w) :
    Calls Tryz.prog 11 #[v, tv] w (MakePost (Sg.keys t) l w) := by
  have hb1 := below_alloc w (.cells #[.slice none 0 0, .slice none 0 0] 29)
  have hb2 := below_alloc (w.alloc (.cells #[.slice none 0 0, .slice none 0 0] 29)) (.cells #[.int .i64 0, .int .i64 0] 32)
  have HN := Lib.hid (newMaker_any tv t w ((w.alloc (.cells #[.slice none 0 0, .slice none 0 0] 29)).alloc (.cells #[.int .i64 0, .int .i64 0] 32)) (fun b => b = w.heap.size ∨ b = w.heap.size + 1) (below_step hb1 hb2)
    (fun b hb => by simp only [World.size_alloc]; omega) (fun k hk => cell_below (below_step hb1 hb2) (hS k hk)) ht)
  obtain ⟨⟨pl, cl, rfl, _⟩, _, _⟩ : (∃ pl cl, v = .slice pl l.length cl ∧ l.length ≤ cl) ∧ True ∧ True := by
    obtain ⟨⟨pl, cl, h, h2⟩, _, _⟩ := hl
    exact ⟨⟨pl, cl, h, h2⟩, trivial, trivial⟩
  obtain ⟨pt, ct, nt, rfl⟩ : ∃ pl cl ln, tv = .slice pl ln cl := by
    obtain ⟨⟨pl, cl, h, _⟩, _⟩ := ht
    exact ⟨pl, cl, _, h⟩
  have HNL := Lib.hid hl
  have HLE := Lib.hid hL
  have HET := Lib.hid hE
  have HSZ := Lib.hid hsz
  clear hb1 hb2 hl hL hE hS ht hsz
  generalize hln : l.length = ln at *
  have HLN := Lib.hid hln
  clear hln
  go_enter Tryz.func11, Tryz.ntmps11
  go_wp2_with fail
  refine HN.out.mono ?_
  rintro e w1 ⟨E, S, rfl, h0, h1, h2, hX, hst, hmk, hb⟩
  have HM := Lib.hid (mid_of h0 hX hst hmk hb)
  have HMK := Lib.hid (make_any E (h0 ▸ HLE.out) _ _ HM.out.st l (.slice pl ln cl) _ (h0 ▸ HNL.out) HSZ.out HM.out.mkr)
  rw [h2] at HMK
  clear h0 h1 h2 hX hst hmk hb HN
  unfold Env14.m at *
  go_wp2_with fail
  refine HMK.out.mono ?_
  intro e w3 ho
  clear HMK
  have hET : ∀ {w9 : World}, Below E.w0.heap.size E.w0 w9 → ErrTy w9 := fun hb => cell_below hb (by rw [HM.out.ew]; exact HET.out)
  have hWB : ∀ {w9 : World}, Below E.w0.heap.size E.w0 w9 → Below w.heap.size w w9 := fun hb => by rw [HM.out.ew] at hb; exact hb
  generalize hX : w1.heap.size = X at *
  generalize hH : w.heap.size = H at *
  cases hr : El.made (Sg.keys t) El.deepest l with
  | bad c a =>
    rw [hr] at ho
    obtain ⟨ns, ev, s2, rfl, he, hm2⟩ := ho
    obtain ⟨T, x, rfl⟩ := he.iface
    have o0 := hm2.kept HM.out.h0.1 HM.out.h0.2
    have o1 := hm2.kept HM.out.h1.1 HM.out.h1.2
    have ox := hm2.kept HM.out.hx.1 HM.out.hx.2
    have HB3 := Lib.hid (hWB hm2.below)
    have HC := Lib.hid (asCallF c a ns (.iface T x) X (.int .i64 0) (.int .i64 0) w3 (hET hm2.below) he (mcell ox 0 rfl) (mcell ox 1 rfl) (Lib.frozen_of_heap ox 0) (Lib.frozen_of_heap ox 1))
    have HO0 := Lib.hid o0
    have HO1 := Lib.hid o1
    have HR := Lib.hid hr
    clear he hm2 o0 o1 ox hr
    go_wp2_with fail
    refine HC.out.mono ?_
    rintro e w4 ⟨rfl, hg, hx0, hx1⟩
    have hne : X ≠ H ∧ X ≠ H + 1 := by have := HM.out.lx; omega
    have p0 := obj_far HO0.out hg (fun e => hne.1 (Option.some.inj e).symm)
    have p1 := obj_far HO1.out hg (fun e => hne.2 (Option.some.inj e).symm)
    have c0 := mcell p0 0 rfl
    have c1 := mcell p0 1 rfl
    have c2 := mcell p1 0 rfl
    have c3 := mcell p1 1 rfl
    have f0 := Lib.frozen_of_heap p0 0
    have f1 := Lib.frozen_of_heap p0 1
    have f2 := Lib.frozen_of_heap p1 0
    have f3 := Lib.frozen_of_heap p1 1
    have HB4 := Lib.hid (HB3.out.grown hg (by have := HB3.out.size; omega) (fun j hj => by cases hj; have := HM.out.lo; have := HM.out.lx; omega))
    have HP0 := Lib.hid p0
    have HP1 := Lib.hid p1
    obtain ⟨hn0, hn1⟩ := hne
    clear hg p0 p1 HC HB3 HO0 HO1
    go_wp2_with fail
    go_region_law (fail)
    all_goals (
      obtain ⟨WF, hWF⟩ : ∃ WF, WF = (fin14 w4 H (.slice none 0 0) (.slice none 0 0) (.int .i64 c) (.int .i64 a)).drew := ⟨_, rfl⟩
      have HBF : Hid (Below H w WF) := by rw [hWF]; exact (fin14_below HB4.out H (Nat.le_refl _) _ _ _ _).drew
      have q0 : WF.cell? ⟨H, 0, none⟩ = some (.slice none 0 0) := by rw [hWF]; exact mcell (fin14_lo _ _ _ _ HP0.out) 0 rfl
      have q1 : WF.cell? ⟨H, 1, none⟩ = some (.slice none 0 0) := by rw [hWF]; exact mcell (fin14_lo _ _ _ _ HP0.out) 1 rfl
      have q2 : WF.cell? ⟨H + 1, 0, none⟩ = some (.int .i64 c) := by rw [hWF]; exact mcell (fin14_hi _ _ _ _ HP1.out) 0 rfl
      have q3 : WF.cell? ⟨H + 1, 1, none⟩ = some (.int .i64 a) := by rw [hWF]; exact mcell (fin14_hi _ _ _ _ HP1.out) 1 rfl
      unfold fin14 at hWF
      rw [← hWF]
      clear hWF c0 c1 c2 c3 f0 f1 f2 f3
      go_wp2_with fail
      refine bodyPost_ret (v := .tuple #[.agg #[.slice none 0 0, .slice none 0 0], .agg #[.int .i64 c, .int .i64 a]]) (by simp [results, Tryz.results11, go_sem, q0, q1, q2, q3]) rfl ⟨by rw [hH]; exact HBF.out, ?_⟩
      rw [HR.out])
  | ok s =>
    rw [hr] at ho
    obtain ⟨rfl, hm2⟩ := ho
    have HM2 := Lib.hid hm2
    have HC := Lib.hid (asCallNil (.iface 74 (.pointer (some ⟨X, 0, none⟩))) w3 ⟨_, rfl⟩)
    have HR := Lib.hid hr
    clear hm2 hr
    go_wp2_with fail
    refine HC.out.mono ?_
    rintro e w4 ⟨rfl, hb4⟩
    have hm4 := HM2.out.mono hb4
    have o0 := hm4.kept HM.out.h0.1 HM.out.h0.2
    have o1 := hm4.kept HM.out.h1.1 HM.out.h1.2
    have HB4 := Lib.hid (hWB hm4.below)
    obtain ⟨K, y, h⟩ := hm4
    have c28 := h.c28
    have c29 := h.c29
    have c0 := mcell o0 0 rfl
    have c1 := mcell o0 1 rfl
    have c2 := mcell o1 0 rfl
    have c3 := mcell o1 1 rfl
    have f0 := Lib.frozen_of_heap o0 0
    have f1 := Lib.frozen_of_heap o0 1
    have f2 := Lib.frozen_of_heap o1 0
    have f3 := Lib.frozen_of_heap o1 1
    have HP0 := Lib.hid o0
    have HP1 := Lib.hid o1
    have HP := Lib.hid h
    obtain ⟨va, vc, hvs, _⟩ := h.rows.sides.len
    obtain ⟨la, lc, hvl, _⟩ := h.rows.labels.len
    have HVS := Lib.hid hvs
    have HVL := Lib.hid hvl
    rw [hvs] at c28
    rw [hvl] at c29
    generalize s.sides.length = ns at *
    generalize s.labels.length = nl at *
    have hn0 : E.p ≠ H := fun e => h.Sp (e ▸ HM.out.h0.1)
    have hn1 : E.p ≠ H + 1 := fun e => h.Sp (e ▸ HM.out.h1.1)
    clear hb4 h o0 o1 HC HM2 hvs hvl
    go_wp2_with fail
    have hMO := Lib.hid (make_ok HP.out H HM.out.h0.1 HM.out.h1.1 (.slice va ns vc) (.slice la nl lc) (.int .i64 0) (.int .i64 0))
    obtain ⟨WF, hWF⟩ : ∃ WF, WF = fin14 w4 H (.slice va ns vc) (.slice la nl lc) (.int .i64 0) (.int .i64 0) := ⟨_, rfl⟩
    rw [← hWF] at hMO
    have HBF : Hid (Below H w WF) := by rw [hWF]; exact fin14_below HB4.out H (Nat.le_refl _) _ _ _ _
    have q0 : WF.cell? ⟨H, 0, none⟩ = some (.slice va ns vc) := by rw [hWF]; exact mcell (fin14_lo _ _ _ _ HP0.out) 0 rfl
    have q1 : WF.cell? ⟨H, 1, none⟩ = some (.slice la nl lc) := by rw [hWF]; exact mcell (fin14_lo _ _ _ _ HP0.out) 1 rfl
    have q2 : WF.cell? ⟨H + 1, 0, none⟩ = some (.int .i64 0) := by rw [hWF]; exact mcell (fin14_hi _ _ _ _ HP1.out) 0 rfl
    have q3 : WF.cell? ⟨H + 1, 1, none⟩ = some (.int .i64 0) := by rw [hWF]; exact mcell (fin14_hi _ _ _ _ HP1.out) 1 rfl
    unfold fin14 at hWF
    rw [← hWF]
    clear hWF c0 c1 c2 c3 f0 f1 f2 f3 c28 c29
    refine bodyPost_ret (v := .tuple #[.agg #[.slice va ns vc, .slice la nl lc], .agg #[.int .i64 0, .int .i64 0]]) (by simp [results, Tryz.results11, go_sem, q0, q1, q2, q3]) rfl ⟨by rw [hH]; exact HBF.out, ?_⟩
    rw [HR.out]
    obtain ⟨m1, m2, m3⟩ := hMO.out
    rw [HVS.out, HVL.out] at m1 m2 m3
    exact ⟨_, _, _, rfl, m1, m2, m3⟩
end Go.Proofs.YtfjplhgajoehfaaGreatDoor
