/-
  What the program's Decode answers: it hands the walk a closure that appends to a variable of its own.
-/
import Derived.Test.YtjlnffdklhmonaaDoorWalk4
set_option linter.unusedVariables false
set_option linter.unusedSimpArgs false
namespace Go.Proofs.YtjlnffdklhmonaaDoor
open Go.RowKit

/-- the captured variable at p holds a row of the call's own -/
def Cap (k : IntKind) (E S : TypeId) (p : Nat) (xs : List Int) (w : World) : Prop :=
  ∃ v, w.heap[p]? = some (.cells #[v] S (0, 0)) ∧ OwnI k E (p + 1) v xs w
theorem Cap.mono {k : IntKind} {E S : TypeId} {p : Nat} {xs : List Int} {w w' : World} (h : Cap k E S p xs w) (hb : Below w.heap.size w w') : Cap k E S p xs w' := by
  obtain ⟨v, h1, h2⟩ := h
  exact ⟨v, by rw [hb.block p (lt_of_block h1)]; exact h1, h2.mono hb⟩

set_option maxHeartbeats 2000000 in
set_option maxRecDepth 100000 in
theorem decClo (p : Nat) (a c : Int) (xs : List Int) (w : World) (h : Cap .i32 21 42 p xs w) (hl : (xs.length + 1) * 8 ≤ 140737488355328) :
    Calls Tryd.prog 42 #[.int .i64 a, .int .i32 c, .pointer (some ⟨p, 0, none⟩)] w (fun e w' => e = .returned (.tuple #[]) ∧ Cap .i32 21 42 p (xs ++ [c]) w' ∧ Below p w w') := by
  obtain ⟨i0, hi, hz0, hz1, hz2⟩ := info_parts info32
  obtain ⟨v, hblk, hv⟩ := h
  have c0 := cell_of_one hblk
  have hlt := lt_of_block hblk
  have hown := World.ownsRow.alloc hv (.cells #[.int .i32 c] 21)
  have HBlk := Lib.hid hblk
  have HV := Lib.hid hv
  clear hblk hv
  go_enter Tryd.func42, Tryd.ntmps42
  go_wp2_with (at_builtin; refine wpList_append_own _ rfl _ _ 42 rfl (p + 1) 21 i0 (.int .i32 0) 1 4 Tryd.underlying42 hi hz0 hz1 hz2 rfl (by decide) _ _ _ rfl hown ⟨w.heap.size, 0, none⟩ 1 1 [.int .i32 c] rfl rfl (cell_one_new _ _ _) (fun z hz => by simp at hz; subst hz; rfl) (by unfold maxLen; omega) (by omega) (by simp; omega) ?_; intro v' w3 hown' hgrow3 hnil3; have HB3 := Lib.hid (((Below.refl p w).alloc (Nat.le_of_lt hlt) (.cells #[.int .i32 c] 21)).grown hgrow3 (by simp; omega) (fun q hq => by have := (World.ownsRow.lt hown q hq).1; omega)); have HL3 := ownI_snoc hown'; have hblk3 : w3.heap[p]? = some (.cells #[v] 42 (0, 0)) := (by rw [hgrow3.block p (by simp; omega) (own_ne hown (Nat.lt_succ_self p)), Lib.alloc_old w _ p hlt]; exact HBlk.out); have d0 := cell_of_one hblk3; have f0 := free_of_one hblk3; have HBlk3 := Lib.hid hblk3; obtain ⟨pa, pc, e0, _⟩ := HL3.out.at.1; rw [List.length_append, List.length_singleton] at e0; subst e0; clear hown hown' hgrow3 hnil3 hblk3)
  go_end0
  exact ⟨rfl, ⟨_, one_setCell HBlk3.out, HL3.out.set (Nat.lt_succ_self p)⟩, HB3.out.setCell (p := ⟨p, 0, none⟩) (Nat.le_refl p) _⟩

theorem eg_dec : ∀ args w, (callFunc 42 args).run Tryd.prog w = .ok (.enter 42 args) w := enters_of Tryd.func42 (by kernel_rfl) rfl
theorem asInts_append (l m : List Nat) : asInts (l ++ m) = asInts l ++ asInts m := by simp [asInts]
theorem cap_new (k : IntKind) (E S : TypeId) (w : World) : Cap k E S w.heap.size [] (w.alloc (.cells #[.slice none 0 0] S)) := ⟨_, by show (w.heap.push _)[w.heap.size]? = _; simp, ownI_nil _ _ _ _⟩
theorem below_at {p : Nat} {w w' : World} (hb : Below p w w') {b i : Nat} (h : b < p) : w'.cell? ⟨b, i, none⟩ = w.cell? ⟨b, i, none⟩ ∧ w'.frozen? ⟨b, i, none⟩ = w.frozen? ⟨b, i, none⟩ := ⟨hb.cell (p := ⟨b, i, none⟩) h, hb.frozen (p := ⟨b, i, none⟩) h⟩
theorem FltAt.below {p b : Nat} {w w' : World} {c a : Int} (h : FltAt w b c a) (hb : Below p w w') (hl : b < p) : FltAt w' b c a :=
  ⟨by rw [(below_at hb hl).1]; exact h.c0, by rw [(below_at hb hl).1]; exact h.c1, by rw [(below_at hb hl).2]; exact h.f0, by rw [(below_at hb hl).2]; exact h.f1⟩

set_option maxHeartbeats 2000000 in
set_option maxRecDepth 100000 in
/-- The program's Decode, at every text of at most 2^44 bytes. -/
theorem decode_any (s : ByteArray) (hs : s.size * 8 ≤ 140737488355328) (w : World) (hT : Tabs w) : Calls Tryd.prog 23 #[.string s] w (DecPost s.data.toList w) := by
  have hmf : ∀ (fn : Fn) (first cap : Array Value) (w : World), (Instr.makeFunc fn first cap).run Tryd.prog w = .ok (.func fn first cap) w := fun _ _ _ _ => rfl
  have HB0 : Hid (Below w.heap.size w ((w.alloc (.cells #[.int .i64 0, .int .i64 0] 25)).alloc (.cells #[.slice none 0 0] 42))) := Lib.hid ((below_alloc w _).alloc (by simp) _)
  have HF0 : Hid (FltAt ((w.alloc (.cells #[.int .i64 0, .int .i64 0] 25)).alloc (.cells #[.slice none 0 0] 42)) w.heap.size 0 0) := Lib.hid ((flt_new w 0 0).mono (below_alloc _ _))
  have HK0 : Hid (Cap .i32 21 42 (w.heap.size + 1) [] ((w.alloc (.cells #[.int .i64 0, .int .i64 0] 25)).alloc (.cells #[.slice none 0 0] 42))) := Lib.hid (by
    have h := cap_new .i32 21 42 (w.alloc (.cells #[.int .i64 0, .int .i64 0] 25))
    simp only [World.size_alloc] at h
    exact h)
  have HW : Hid (Calls Tryd.prog 41 #[.string s, .func (.func 42) #[] #[.pointer (some ⟨w.heap.size + 1, 0, none⟩)]] ((w.alloc (.cells #[.int .i64 0, .int .i64 0] 25)).alloc (.cells #[.slice none 0 0] 42)) (WalkedPost (w.heap.size + 1) (fun l => Cap .i32 21 42 (w.heap.size + 1) (asInts l)) s.data.toList ((w.alloc (.cells #[.int .i64 0, .int .i64 0] 25)).alloc (.cells #[.slice none 0 0] 42)))) := Lib.hid (walk_any _ eg_dec (w.heap.size + 1) s hs w _ hT HB0.out (Nat.le_succ _) (by simp) _ HK0.out (fun l w1 w2 h hb => h.mono hb) (fun l a c w1 h hl ha hlt => by
    refine (decClo (w.heap.size + 1) a c (asInts l) w1 h (by rw [asInts_len]; omega)).mono fun e w2 hq => ⟨hq.1, ?_, hq.2.2⟩
    show Cap _ _ _ _ (asInts (l ++ [c])) w2
    rw [asInts_snoc]
    exact hq.2.1))
  cases hc : Ut.clean s.data.toList with
  | true =>
    have HS : Hid (Ut.stop s.data.toList = s.size) := Lib.hid (by rw [Ut.stop_clean hc, ← Lib.size_eq])
    have HX := Lib.hid (dec_yes hc)
    clear hc hT
    go_enter Tryd.func23, Tryd.ntmps23
    go_wp2_with fail
    refine HW.out.mono ?_
    rintro e w1 ⟨rfl, ⟨v, hblk, hv⟩, hb1⟩
    rw [HS.out]
    have c0 := cell_of_one hblk
    have HF1 := Lib.hid (HF0.out.below hb1 (Nat.lt_succ_self _))
    have HB1 := Lib.hid (HB0.out.trans (hb1.mono (Nat.le_succ _)))
    have HV := Lib.hid hv
    clear hblk hv hb1
    have x0 := HF1.out.c0
    have x1 := HF1.out.c1
    have y0 := HF1.out.f0
    have y1 := HF1.out.f1
    go_wp2_with fail
    exact bodyPost_ret (v := .tuple #[v, .agg #[.int .i64 0, .int .i64 0]]) (by simp [results, Tryd.results23, go_sem, x0, x1]) rfl ⟨v, ret_dec HX.out.2.1.symm HX.out.2.2.1.symm, by rw [HX.out.1]; exact ((HV.out.base (Nat.le_succ _)) |> own_two), (HB1.out.setCell (Nat.le_refl _) _).setCell (Nat.le_refl _) _⟩
  | false =>
    have hlt := Ut.stop_lt hc
    rw [← Lib.size_eq] at hlt
    have HX := Lib.hid (dec_no hc)
    obtain ⟨st, hst⟩ : ∃ st : Nat, st = Ut.stop s.data.toList := ⟨_, rfl⟩
    rw [← hst] at HX hlt
    have HSt := Lib.hid hst
    clear hc hT hst
    go_enter Tryd.func23, Tryd.ntmps23
    go_wp2_with fail
    refine HW.out.mono ?_
    rintro e w1 ⟨rfl, ⟨v, hblk, hv⟩, hb1⟩
    rw [← HSt.out]
    have HF1 := Lib.hid (HF0.out.below hb1 (Nat.lt_succ_self _))
    have HB1 := Lib.hid (HB0.out.trans (hb1.mono (Nat.le_succ _)))
    clear hblk hv hb1
    have x0 := HF1.out.c0
    have x1 := HF1.out.c1
    have y0 := HF1.out.f0
    have y1 := HF1.out.f1
    go_wp2_with fail
    exact bodyPost_ret (v := .tuple #[.slice none 0 0, .agg #[.int .i64 40, .int .i64 (st : Int)]]) (by simp [results, Tryd.results23, go_sem, x0, x1]) rfl ⟨_, ret_dec HX.out.2.1.symm HX.out.2.2.1.symm, by rw [HX.out.1]; exact ownI_nil _ _ _ _, (HB1.out.setCell (Nat.le_refl _) _).setCell (Nat.le_refl _) _⟩
end Go.Proofs.YtjlnffdklhmonaaDoor
