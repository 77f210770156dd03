/-
  The maker's cells, one by one.
  The landed single: the one word that a command's argument must be; what takes it.
  The landed takeRef, takeKeys; a note's text visited.
-/
import Derived.Test.YtfjplhgajoehfaaGreatDoorQSay214
set_option linter.unusedVariables false
set_option linter.unusedSimpArgs false
namespace Go.Proofs.YtfjplhgajoehfaaGreatDoor
open Go.RowKit
section
variable {E : Env14} {S : Nat → Prop} {w1 : World} {lev d : Nat} {s : El.St} {K : Nat → Prop} {y : Dyn} {w : World}
theorem MkP.c0 (h : MkP E S w1 lev d s K y w) : w.cell? ⟨E.p, 0, none⟩ = some (.string (str nmSource)) := mcell h.obj 0 rfl
theorem MkP.c1 (h : MkP E S w1 lev d s K y w) : w.cell? ⟨E.p, 1, none⟩ = some (.nilFunc) := mcell h.obj 1 rfl
theorem MkP.c2 (h : MkP E S w1 lev d s K y w) : w.cell? ⟨E.p, 2, none⟩ = some (.map (some E.bs)) := mcell h.obj 2 rfl
theorem MkP.c3 (h : MkP E S w1 lev d s K y w) : w.cell? ⟨E.p, 3, none⟩ = some (.string (str nmSide)) := mcell h.obj 3 rfl
theorem MkP.c4 (h : MkP E S w1 lev d s K y w) : w.cell? ⟨E.p, 4, none⟩ = some (.nilFunc) := mcell h.obj 4 rfl
theorem MkP.c5 (h : MkP E S w1 lev d s K y w) : w.cell? ⟨E.p, 5, none⟩ = some (.map (some E.bd)) := mcell h.obj 5 rfl
theorem MkP.c6 (h : MkP E S w1 lev d s K y w) : w.cell? ⟨E.p, 6, none⟩ = some (.string (str El.tChunk)) := mcell h.obj 6 rfl
theorem MkP.c7 (h : MkP E S w1 lev d s K y w) : w.cell? ⟨E.p, 7, none⟩ = some (.nilFunc) := mcell h.obj 7 rfl
theorem MkP.c8 (h : MkP E S w1 lev d s K y w) : w.cell? ⟨E.p, 8, none⟩ = some (.map (some E.bc)) := mcell h.obj 8 rfl
theorem MkP.c9 (h : MkP E S w1 lev d s K y w) : w.cell? ⟨E.p, 9, none⟩ = some (.string (str nmStanza)) := mcell h.obj 9 rfl
theorem MkP.c10 (h : MkP E S w1 lev d s K y w) : w.cell? ⟨E.p, 10, none⟩ = some (.nilFunc) := mcell h.obj 10 rfl
theorem MkP.c11 (h : MkP E S w1 lev d s K y w) : w.cell? ⟨E.p, 11, none⟩ = some (.map (some E.bt)) := mcell h.obj 11 rfl
theorem MkP.c12 (h : MkP E S w1 lev d s K y w) : w.cell? ⟨E.p, 12, none⟩ = some (.string (str El.tText)) := mcell h.obj 12 rfl
theorem MkP.c13 (h : MkP E S w1 lev d s K y w) : w.cell? ⟨E.p, 13, none⟩ = some (E.mf 59) := mcell h.obj 13 rfl
theorem MkP.c14 (h : MkP E S w1 lev d s K y w) : w.cell? ⟨E.p, 14, none⟩ = some (.map (some E.bx)) := mcell h.obj 14 rfl
theorem MkP.c15 (h : MkP E S w1 lev d s K y w) : w.cell? ⟨E.p, 15, none⟩ = some (.string (str nmNotes)) := mcell h.obj 15 rfl
theorem MkP.c16 (h : MkP E S w1 lev d s K y w) : w.cell? ⟨E.p, 16, none⟩ = some (.nilFunc) := mcell h.obj 16 rfl
theorem MkP.c17 (h : MkP E S w1 lev d s K y w) : w.cell? ⟨E.p, 17, none⟩ = some (.map (some E.bn)) := mcell h.obj 17 rfl
theorem MkP.c18 (h : MkP E S w1 lev d s K y w) : w.cell? ⟨E.p, 18, none⟩ = some (.string (str nmNote)) := mcell h.obj 18 rfl
theorem MkP.c19 (h : MkP E S w1 lev d s K y w) : w.cell? ⟨E.p, 19, none⟩ = some (E.mf 62) := mcell h.obj 19 rfl
theorem MkP.c20 (h : MkP E S w1 lev d s K y w) : w.cell? ⟨E.p, 20, none⟩ = some (.map (some E.bo)) := mcell h.obj 20 rfl
theorem MkP.c21 (h : MkP E S w1 lev d s K y w) : w.cell? ⟨E.p, 21, none⟩ = some (.string (str nmKeys)) := mcell h.obj 21 rfl
theorem MkP.c22 (h : MkP E S w1 lev d s K y w) : w.cell? ⟨E.p, 22, none⟩ = some (E.mf 65) := mcell h.obj 22 rfl
theorem MkP.c23 (h : MkP E S w1 lev d s K y w) : w.cell? ⟨E.p, 23, none⟩ = some (.map none) := mcell h.obj 23 rfl
theorem MkP.c24 (h : MkP E S w1 lev d s K y w) : w.cell? ⟨E.p, 24, none⟩ = some (.string (str nmName)) := mcell h.obj 24 rfl
theorem MkP.c25 (h : MkP E S w1 lev d s K y w) : w.cell? ⟨E.p, 25, none⟩ = some (.func (.func 66) #[] #[]) := mcell h.obj 25 rfl
theorem MkP.c26 (h : MkP E S w1 lev d s K y w) : w.cell? ⟨E.p, 26, none⟩ = some (.map none) := mcell h.obj 26 rfl
theorem MkP.c27 (h : MkP E S w1 lev d s K y w) : w.cell? ⟨E.p, 27, none⟩ = some (E.tv) := mcell h.obj 27 rfl
theorem MkP.c28 (h : MkP E S w1 lev d s K y w) : w.cell? ⟨E.p, 28, none⟩ = some (y.vs) := mcell h.obj 28 rfl
theorem MkP.c29 (h : MkP E S w1 lev d s K y w) : w.cell? ⟨E.p, 29, none⟩ = some (y.vl) := mcell h.obj 29 rfl
theorem MkP.c30 (h : MkP E S w1 lev d s K y w) : w.cell? ⟨E.p, 30, none⟩ = some (.map (some E.bl)) := mcell h.obj 30 rfl
theorem MkP.c31 (h : MkP E S w1 lev d s K y w) : w.cell? ⟨E.p, 31, none⟩ = some (y.vc) := mcell h.obj 31 rfl
theorem MkP.c32 (h : MkP E S w1 lev d s K y w) : w.cell? ⟨E.p, 32, none⟩ = some (y.vw) := mcell h.obj 32 rfl
theorem MkP.c33 (h : MkP E S w1 lev d s K y w) : w.cell? ⟨E.p, 33, none⟩ = some (y.vn) := mcell h.obj 33 rfl
theorem MkP.c34 (h : MkP E S w1 lev d s K y w) : w.cell? ⟨E.p, 34, none⟩ = some (y.vp) := mcell h.obj 34 rfl
theorem MkP.c35 (h : MkP E S w1 lev d s K y w) : w.cell? ⟨E.p, 35, none⟩ = some (y.ve) := mcell h.obj 35 rfl
theorem MkP.c36 (h : MkP E S w1 lev d s K y w) : w.cell? ⟨E.p, 36, none⟩ = some (.int .i64 s.num) := mcell h.obj 36 rfl
theorem MkP.c37 (h : MkP E S w1 lev d s K y w) : w.cell? ⟨E.p, 37, none⟩ = some (.int .i64 lev) := mcell h.obj 37 rfl
theorem MkP.c38 (h : MkP E S w1 lev d s K y w) : w.cell? ⟨E.p, 38, none⟩ = some (.int .i64 0) := mcell h.obj 38 rfl
theorem MkP.c39 (h : MkP E S w1 lev d s K y w) : w.cell? ⟨E.p, 39, none⟩ = some (.int .i64 s.fr) := mcell h.obj 39 rfl
theorem MkP.c40 (h : MkP E S w1 lev d s K y w) : w.cell? ⟨E.p, 40, none⟩ = some (.int .i64 s.til) := mcell h.obj 40 rfl
theorem MkP.c41 (h : MkP E S w1 lev d s K y w) : w.cell? ⟨E.p, 41, none⟩ = some (.slice none 0 0) := mcell h.obj 41 rfl
theorem MkP.c42 (h : MkP E S w1 lev d s K y w) : w.cell? ⟨E.p, 42, none⟩ = some (.int .i64 0) := mcell h.obj 42 rfl
theorem MkP.c43 (h : MkP E S w1 lev d s K y w) : w.cell? ⟨E.p, 43, none⟩ = some (y.vt) := mcell h.obj 43 rfl
theorem MkP.fr (h : MkP E S w1 lev d s K y w) (i : Nat) : w.frozen? ⟨E.p, i, none⟩ = false := Lib.frozen_of_heap h.obj i
end
end Go.Proofs.YtfjplhgajoehfaaGreatDoor

set_option linter.unusedVariables false
set_option linter.unusedSimpArgs false
namespace Go.Proofs.YtfjplhgajoehfaaGreatDoor
open Go.RowKit

theorem args_get {w : World} {K : Nat → Prop} {va : Value} {args : List (List El.Nd)} (h : ArgsAt w K va args) {i : Nat} (hi : i < args.length) : ∃ b o cap vg, va = .slice (some ⟨b, o, none⟩) args.length cap ∧ w.cell? ⟨b, o + i, none⟩ = some vg ∧ NodesAt w K vg (args.getD i []) := by
  obtain ⟨_, _, h3⟩ := h
  obtain ⟨b, o, cap, e, _, hr⟩ := h3 (by omega)
  obtain ⟨vg, h1, h2⟩ := hr.at (i := i) (g := args[i]) (List.getElem?_eq_getElem hi)
  exact ⟨b, o, cap, vg, e, h1, by rw [List.getD_eq_getElem?_getD, List.getElem?_eq_getElem hi]; exact h2⟩
theorem args_size {args : List (List El.Nd)} {i : Nat} (hi : i < args.length) : El.sizeL (args.getD i []) ≤ El.sizeA args := by
  induction args generalizing i with
  | nil => simp at hi
  | cons g gs ih =>
    cases i with
    | zero => simp only [List.getD_cons_zero, El.sizeA]; omega
    | succ k =>
      have := ih (i := k) (by simpa using hi)
      simp only [List.getD_cons_succ, El.sizeA]
      omega
theorem node_size (n : El.Nd) {i : Nat} (hi : i < (El.args n).length) : El.sizeL (El.argN n i) + 1 ≤ El.sizeN n := by
  obtain ⟨c, x, args, a⟩ := n
  have h := args_size (args := args) (i := i) hi
  show El.sizeL (args.getD i []) + 1 ≤ El.sizeN (.mk c x args a)
  unfold El.sizeN
  omega
def El.oneOf (a : Int) (l : List El.Nd) : El.One := match El.firstCmd l with
  | some m => .bad 142 (El.loc m)
  | none => match l with
    | [x] => .word x
    | _ => .bad 143 a
theorem El.oneOf_cmd {a : Int} {l : List El.Nd} {m : El.Nd} (h : El.firstCmd l = some m) : El.oneOf a l = .bad 142 (El.loc m) := by unfold El.oneOf; rw [h]
theorem El.oneOf_one {a : Int} {x : El.Nd} (h : El.firstCmd [x] = none) : El.oneOf a [x] = .word x := by unfold El.oneOf; rw [h]
theorem El.oneOf_not {a : Int} {l : List El.Nd} (h : El.firstCmd l = none) (hl : ¬ l.length = 1) : El.oneOf a l = .bad 143 a := by
  unfold El.oneOf
  rw [h]
  match l, hl with
  | [], _ => rfl
  | [x], hl => exact absurd rfl hl
  | _ :: _ :: _, _ => rfl
def El.singleTake : El.Op := El.take (some fun s _ => .ok s) (fun _ => none)
theorem El.single_visit (s : El.St) : ∀ l : List El.Nd, El.visit El.singleTake s l = match El.firstCmd l with
    | some m => .bad 142 (El.loc m)
    | none => .ok s
  | [] => rfl
  | n :: r => by
    obtain ⟨c, x, args, a⟩ := n
    cases c with
    | true => rfl
    | false => exact El.single_visit s r
theorem single_grows : Grows El.singleTake := by
  intro s n s' h
  obtain ⟨c, x, args, a⟩ := n
  cases c with
  | true => cases h
  | false => cases h; omega
set_option maxHeartbeats 1000000 in
set_option maxRecDepth 100000 in
theorem nameF_any (E : Env14) (lev d : Nat) : OpA E lev d 66 (fun v => #[v]) (fun _ => True) (fun s _ => .ok s) := by
  intro S w1 hst n va s w hva har hsz hmk
  obtain ⟨c, x, args, a⟩ := n
  have HM := Lib.hid (hmk.mono (below_alloc w (.cells #[.bool c, .string (str x), va, .int .i64 a] 89)))
  show Calls _ _ #[.agg #[.bool c, .string (str x), va, .int .i64 a]] _ _
  clear hmk hst hsz hva
  go_enter Tryz.func66, Tryz.ntmps66
  go_wp2
  go_ret
  exact ⟨rfl, HM.out⟩
theorem enters_nameF : Enters 66 := enters_of Tryz.func66 (by kernel_rfl) rfl
def nameV : Value := .agg #[.string (str nmName), .func (.func 66) #[] #[], .map none]
theorem nameV_visit (E : Env14) (lev d : Nat) : VisitC E lev d nameV El.singleTake := by
  refine visit_any E lev d nmName _ _ _ single_grows ?_
  exact takeC_gen E lev d nmName _ _ 0 [] _ _ (.inl ⟨rfl, rfl⟩) (.inr (.inl ⟨_, rfl, enters_nameF, nameF_any E lev d⟩)) (fun x => rfl)
def zeroNd : Value := .agg #[.bool false, .string ByteArray.empty, .slice none 0 0, .int .i64 0]
/-- what single tells -/
def One14 (E : Env14) (S : Nat → Prop) (w1 : World) (lev d : Nat) (s : El.St) (r : El.One) (e : Ending) (w' : World) : Prop := match r with
  | .word n => MK E S w1 lev d s w' ∧ ∃ a k c, e = .returned (.tuple #[ndV n (.slice a k c), .nilIface]) ∧ (El.text n).length ≤ lim14
  | .bad c a => ∃ ns T x s', e = .returned (.tuple #[.agg #[.bool false, .string ⟨#[]⟩, .slice none 0 0, .int .i64 0], .iface T x]) ∧ ErrAt ns c a (.iface T x) ∧ MK E S w1 lev 0 s' w'
theorem ErrAt.iface {ns : List (List UInt8)} {c a : Int} {v : Value} (he : ErrAt ns c a v) : ∃ T x, v = .iface T x := by
  cases ns with
  | nil => exact ⟨_, _, he⟩
  | cons _ _ => obtain ⟨u, h, _⟩ := he; exact ⟨_, _, h⟩
theorem four_grown (w : World) (b : Nat) (v0 v1 v2 v3 : Value) : w.grownBy ((((w.setCell ⟨b, 0, none⟩ v0).setCell ⟨b, 1, none⟩ v1).setCell ⟨b, 2, none⟩ v2).setCell ⟨b, 3, none⟩ v3) (some b) :=
  World.grownBy.trans (World.grownBy.trans (World.grownBy.trans (grown_set _ _ _ _) (grown_set _ _ _ _)) (grown_set _ _ _ _)) (grown_set _ _ _ _)
theorem four_heap {w : World} {b : Nat} {u0 u1 u2 u3 : Value} {T : TypeId} (h : w.heap[b]? = some (.cells #[u0, u1, u2, u3] T (0, 0))) (v0 v1 v2 v3 : Value) : ((((w.setCell ⟨b, 0, none⟩ v0).setCell ⟨b, 1, none⟩ v1).setCell ⟨b, 2, none⟩ v2).setCell ⟨b, 3, none⟩ v3).heap[b]? = some (.cells #[v0, v1, v2, v3] T (0, 0)) := by
  have h1 := heap_setCell_same w b 0 _ _ v0 h
  have h2 := heap_setCell_same _ b 1 _ _ v1 h1
  have h3 := heap_setCell_same _ b 2 _ _ v2 h2
  exact heap_setCell_same _ b 3 _ _ v3 h3
theorem firstCmd_none : ∀ {l : List El.Nd}, El.firstCmd l = none → ∀ n ∈ l, El.isCmd n = false
  | [], _, n, hn => by cases hn
  | m :: r, h, n, hn => by
    unfold El.firstCmd at h
    cases hm : El.isCmd m with
    | true => rw [hm] at h; cases h
    | false =>
      rw [hm] at h
      rcases List.mem_cons.1 hn with rfl | hn
      · exact hm
      · exact firstCmd_none h n hn
theorem sizeL_mem {l : List El.Nd} {n : El.Nd} (h : n ∈ l) : El.sizeN n ≤ El.sizeL l := by
  induction l with
  | nil => cases h
  | cons m r ih =>
    simp only [El.sizeL]
    rcases List.mem_cons.1 h with rfl | h
    · omega
    · have := ih h; omega
set_option maxHeartbeats 4000000 in
set_option maxRecDepth 100000 in
theorem single_any (E : Env14) (S : Nat → Prop) (w1 : World) (lev d : Nat) (hst : Stat14 E S w1) (n : El.Nd) (va : Value) (s : El.St) (w : World) (hva : ArgsAt E.w0 (fun _ => True) va (El.args n)) (har : (El.args n).length = 1) (hsz : El.sz s + El.sizeN n ≤ lim14) (hmk : MK E S w1 lev d s w) :
    Calls Tryz.prog 83 #[E.m, ndV n va] w (One14 E S w1 lev d s (El.single n)) := by
  obtain ⟨b0, o0, cp0, vg, rfl, hc0, hn0⟩ := args_get hva (i := 0) (by omega)
  have hls := node_size n (i := 0) (by omega)
  obtain ⟨l, hl⟩ : ∃ l, l = El.argN n 0 := ⟨_, rfl⟩
  have hn0' : NodesAt E.w0 (fun _ => True) vg l := by rw [hl]; exact hn0
  rw [← hl] at hls
  have hone : El.single n = El.oneOf (El.loc n) l := by rw [hl]; rfl
  rw [hone]
  obtain ⟨wb, hwb⟩ : ∃ wb, wb = (w.alloc (.cells #[.bool (El.isCmd n), .string (str (El.text n)), .slice (some ⟨b0, o0, none⟩) (El.args n).length cp0, .int .i64 (El.loc n)] 89)).alloc (.cells #[.bool false, .string ⟨#[]⟩, .slice none 0 0, .int .i64 0] 89) := ⟨_, rfl⟩
  have hb : Below w.heap.size w wb := by rw [hwb]; exact below_step (below_alloc _ _) (below_alloc _ _)
  have hbx1 : wb.heap[w.heap.size]? = some (.cells #[.bool (El.isCmd n), .string (str (El.text n)), .slice (some ⟨b0, o0, none⟩) (El.args n).length cp0, .int .i64 (El.loc n)] 89 (0, 0)) := by rw [hwb]; exact obj_kept (below_alloc _ _) (obj_new _ _ rfl _ _)
  have hbx2 : wb.heap[w.heap.size + 1]? = some (.cells #[.bool false, .string ⟨#[]⟩, .slice none 0 0, .int .i64 0] 89 (0, 0)) := by rw [hwb]; exact obj_new _ _ (by rw [World.size_alloc]) _ _
  have hnd : NodesAt E.w0 (fun _ => True) vg l := hn0'
  obtain ⟨⟨pl, cl, rfl, _⟩, hml, hq⟩ := hn0'
  have hml2 : l.length ≤ 9223372036854775807 := by unfold maxLen at hml; omega
  have hme := hmk.enter hb
  have hse := hst.enter hmk hb
  have HV := Lib.hid (nameV_visit E lev d _ _ hse l _ s wb hnd (by omega) hme)
  have HSZ := Lib.hid hsz
  have HLS := Lib.hid hls
  rw [El.single_visit] at HV
  have HBK := Lib.hid (fun s' w2 (h : MK E (Plus S w wb) wb lev d s' w2) => hmk.back hb h)
  have HBW := Lib.hid (fun lev' d' s' w2 w3 (h : MK E (Plus S w wb) wb lev' d' s' w2) (hg : w2.grownBy w3 (some (w.heap.size + 1))) => hmk.backW hb h hg (by omega) (by rw [hwb]; simp only [World.size_alloc]; omega))
  have HB1 := Lib.hid (fun lev' d' s' w2 (h : MK E (Plus S w wb) wb lev' d' s' w2) => (And.intro (h.kept (.inr ⟨Nat.le_refl _, by rw [hwb]; simp only [World.size_alloc]; omega⟩) hbx1) (h.kept (.inr ⟨by omega, by rw [hwb]; simp only [World.size_alloc]; omega⟩) hbx2)))
  obtain ⟨K, y, hP⟩ := hme
  have c24 := hP.c24
  have c25 := hP.c25
  have c26 := hP.c26
  have z0 := cell_below hP.below hc0
  have b2 := mcell hbx1 2 rfl
  have har3 : 0 < (El.args n).length := by omega
  have har2 : (0 : Int) < ((El.args n).length : Int) := by omega
  have q1 := err_nil
  have q2 := err_some
  have hk00 : (0 : Int) ≤ 0 := by omega
  rw [Nat.add_zero] at z0
  generalize hla : (El.args n).length = la at *
  clear har hla
  clear hP hse hmk hst hbx1 hbx2 hn0 hc0 hnd hva hml hsz hls hone hb hl
  unfold nameV at HV
  unfold Env14.m ndV
  cases hf : El.firstCmd l with
  | some m =>
    rw [hf] at HV
    simp only [] at HV
    rw [El.oneOf_cmd hf]
    clear hf
    go_enter Tryz.func83, Tryz.ntmps83
    go_upto_region 1 with fail
    rw [← hwb]
    clear hwb
    go_wp2_with fail
    refine HV.out.mono ?_
    rintro e w2 ⟨ns, v, s2, rfl, he, hm2⟩
    obtain ⟨T, x, rfl⟩ := he.iface
    have HE := Lib.hid he
    have HM := Lib.hid hm2
    obtain ⟨hy1, hy2⟩ := HB1.out _ _ _ _ hm2
    have e0 := mcell hy2 0 rfl
    have e1 := mcell hy2 1 rfl
    have e2 := mcell hy2 2 rfl
    have e3 := mcell hy2 3 rfl
    have g0 := Lib.frozen_of_heap hy2 0
    have g1 := Lib.frozen_of_heap hy2 1
    have g2 := Lib.frozen_of_heap hy2 2
    have g3 := Lib.frozen_of_heap hy2 3
    have HY2 := Lib.hid hy2
    clear he hm2 hy1 hy2 c24 c25 c26 z0 b2
    have H4 := Lib.hid (four_heap HY2.out (.bool false) (.string ⟨#[]⟩) (.slice none 0 0) (.int .i64 0))
    have HBx := Lib.hid (HBW.out _ _ _ _ _ HM.out (four_grown w2 (w.heap.size + 1) (.bool false) (.string ⟨#[]⟩) (.slice none 0 0) (.int .i64 0)))
    go_wp2
    obtain ⟨WX, hWX⟩ : ∃ WX, WX = ((((w2.setCell ⟨w.heap.size + 1, 0, none⟩ (.bool false)).setCell ⟨w.heap.size + 1, 1, none⟩ (.string ⟨#[]⟩)).setCell ⟨w.heap.size + 1, 2, none⟩ (.slice none 0 0)).setCell ⟨w.heap.size + 1, 3, none⟩ (.int .i64 0)) := ⟨_, rfl⟩
    rw [← hWX] at H4 HBx ⊢
    clear hWX
    have q0 := mcell H4.out 0 rfl
    have q3 := mcell H4.out 1 rfl
    have q4 := mcell H4.out 2 rfl
    have q5 := mcell H4.out 3 rfl
    exact bodyPost_ret (v := .tuple #[.agg #[.bool false, .string ⟨#[]⟩, .slice none 0 0, .int .i64 0], .iface T x]) (by simp [results, Tryz.results83, go_sem, q0, q3, q4, q5]) rfl (⟨ns, T, x, s2, rfl, HE.out, HBx.out⟩)
  | none =>
    by_cases h1 : l.length = 1
    · obtain ⟨x, rfl⟩ : ∃ x, l = [x] := by
        match l, h1 with
        | [x], _ => exact ⟨x, rfl⟩
      rw [hf] at HV
      simp only [] at HV
      rw [El.oneOf_one hf]
      clear hf h1
      go_enter Tryz.func83, Tryz.ntmps83
      go_upto_region 1 with fail
      rw [← hwb]
      clear hwb
      go_wp2_with fail
      refine HV.out.mono ?_
      rintro e w2 ⟨rfl, hm2⟩
      have HM := Lib.hid hm2
      obtain ⟨hy1, hy2⟩ := HB1.out _ _ _ _ hm2
      have e0 := mcell hy2 0 rfl
      have e1 := mcell hy2 1 rfl
      have e2 := mcell hy2 2 rfl
      have e3 := mcell hy2 3 rfl
      have g0 := Lib.frozen_of_heap hy2 0
      have g1 := Lib.frozen_of_heap hy2 1
      have g2 := Lib.frozen_of_heap hy2 2
      have g3 := Lib.frozen_of_heap hy2 3
      have HY2 := Lib.hid hy2
      obtain ⟨b1, o1, d1, e9, _, r1⟩ := hq (by simp)
      obtain ⟨rfl, rfl⟩ : pl = some ⟨b1, o1, none⟩ ∧ cl = d1 := by injection e9 with a1 a2 a3; exact ⟨a1, a3⟩
      have hnd := r1.at (i := 0) (n := x) rfl
      rw [ndV_eq x] at hnd
      unfold NdAt at hnd
      obtain ⟨va, y0, y1, y2, y3, y4⟩ := hnd
      obtain ⟨⟨pa, ca, rfl, _⟩, _, _⟩ := y4
      rw [Nat.zero_mul, Nat.add_zero] at y0 y1 y2 y3
      have hbw := hm2.below
      have z1 := cell_below hbw y0
      have z2 := cell_below hbw y1
      have z3 := cell_below hbw y2
      have z4 := cell_below hbw y3
      have HTX : Hid ((El.text x).length ≤ lim14) := Lib.hid (by
        have h2 := szN_text (El.isCmd x) (El.text x) (El.args x) (El.loc x)
        rw [← ndV_eq x] at h2
        have h3 := HSZ.out
        have h4 := HLS.out
        simp only [El.sizeL] at h4
        omega)
      clear hq e9 r1 y0 y1 y2 y3 hbw hm2 hy1 hy2 c24 c25 c26 z0 b2
      have H4 := Lib.hid (four_heap HY2.out (.bool (El.isCmd x)) (.string (str (El.text x))) (.slice pa (El.args x).length ca) (.int .i64 (El.loc x)))
      have HBx := Lib.hid (HBW.out _ _ _ _ _ HM.out (four_grown w2 (w.heap.size + 1) (.bool (El.isCmd x)) (.string (str (El.text x))) (.slice pa (El.args x).length ca) (.int .i64 (El.loc x))))
      go_wp2
      obtain ⟨WX, hWX⟩ : ∃ WX, WX = ((((w2.setCell ⟨w.heap.size + 1, 0, none⟩ (.bool (El.isCmd x))).setCell ⟨w.heap.size + 1, 1, none⟩ (.string (str (El.text x)))).setCell ⟨w.heap.size + 1, 2, none⟩ (.slice pa (El.args x).length ca)).setCell ⟨w.heap.size + 1, 3, none⟩ (.int .i64 (El.loc x))) := ⟨_, rfl⟩
      rw [← hWX] at H4 HBx ⊢
      clear hWX
      have q0 := mcell H4.out 0 rfl
      have q3 := mcell H4.out 1 rfl
      have q4 := mcell H4.out 2 rfl
      have q5 := mcell H4.out 3 rfl
      exact bodyPost_ret (v := .tuple #[.agg #[.bool (El.isCmd x), .string (str (El.text x)), .slice pa (El.args x).length ca, .int .i64 (El.loc x)], .nilIface]) (by simp [results, Tryz.results83, go_sem, q0, q3, q4, q5]) rfl (⟨HBx.out, _, _, _, rfl, HTX.out⟩)
    · rw [hf] at HV
      simp only [] at HV
      rw [El.oneOf_not hf h1]
      have h9 : ¬ ((l.length : Int) = 1) := by omega
      clear hf h1
      go_enter Tryz.func83, Tryz.ntmps83
      go_upto_region 1 with fail
      rw [← hwb]
      clear hwb
      go_wp2_with fail
      refine HV.out.mono ?_
      rintro e w2 ⟨rfl, hm2⟩
      have HM := Lib.hid hm2
      obtain ⟨hy1, hy2⟩ := HB1.out _ _ _ _ hm2
      have b3 := mcell hy1 3 rfl
      have HF := Lib.hid (fail_any 143 (El.loc n) w2)
      have HKK := Lib.hid (fun w3 (hb3 : Below w2.heap.size w2 w3) => hm2.mono hb3)
      clear hq hm2 hy1 hy2 c24 c25 c26 z0 b2
      go_wp2_with fail
      refine HF.out.mono ?_
      rintro e w3 ⟨rfl, hb3⟩
      have HM := Lib.hid (HKK.out _ hb3)
      obtain ⟨hy1, hy2⟩ := HB1.out _ _ _ _ HM.out
      have e0 := mcell hy2 0 rfl
      have e1 := mcell hy2 1 rfl
      have e2 := mcell hy2 2 rfl
      have e3 := mcell hy2 3 rfl
      have g0 := Lib.frozen_of_heap hy2 0
      have g1 := Lib.frozen_of_heap hy2 1
      have g2 := Lib.frozen_of_heap hy2 2
      have g3 := Lib.frozen_of_heap hy2 3
      have HY2 := Lib.hid hy2
      clear hb3 hy1 hy2 b3
      have H4 := Lib.hid (four_heap HY2.out (.bool false) (.string ⟨#[]⟩) (.slice none 0 0) (.int .i64 0))
      have HBx := Lib.hid (HBW.out _ _ _ _ _ HM.out (four_grown w3 (w.heap.size + 1) (.bool false) (.string ⟨#[]⟩) (.slice none 0 0) (.int .i64 0)))
      go_wp2
      obtain ⟨WX, hWX⟩ : ∃ WX, WX = ((((w3.setCell ⟨w.heap.size + 1, 0, none⟩ (.bool false)).setCell ⟨w.heap.size + 1, 1, none⟩ (.string ⟨#[]⟩)).setCell ⟨w.heap.size + 1, 2, none⟩ (.slice none 0 0)).setCell ⟨w.heap.size + 1, 3, none⟩ (.int .i64 0)) := ⟨_, rfl⟩
      rw [← hWX] at H4 HBx ⊢
      clear hWX
      have q0 := mcell H4.out 0 rfl
      have q3 := mcell H4.out 1 rfl
      have q4 := mcell H4.out 2 rfl
      have q5 := mcell H4.out 3 rfl
      exact bodyPost_ret (v := .tuple #[.agg #[.bool false, .string ⟨#[]⟩, .slice none 0 0, .int .i64 0], .iface 69 (.agg #[.int .i64 143, .int .i64 (El.loc n)])]) (by simp [results, Tryz.results83, go_sem, q0, q3, q4, q5]) rfl (⟨[], _, _, s, rfl, rfl, HBx.out.down (Nat.zero_le _)⟩)
end Go.Proofs.YtfjplhgajoehfaaGreatDoor

set_option linter.unusedVariables false
set_option linter.unusedSimpArgs false
namespace Go.Proofs.YtfjplhgajoehfaaGreatDoor
open Go.RowKit

set_option maxHeartbeats 1000000 in
set_option maxRecDepth 100000 in
theorem takeRef_any (E : Env14) (lev : Nat) : OpA E lev 4 64 (fun v => #[E.m, v]) (fun l => l = 1) El.refOp := by
  intro S w1 hst n va s w hva har hsz hmk
  have hva2 := hva
  obtain ⟨⟨pa, ca, rfl, _⟩, _, _⟩ := hva2
  have hb := below_alloc w (.cells #[.bool (El.isCmd n), .string (str (El.text n)), .slice pa (El.args n).length ca, .int .i64 (El.loc n)] 89)
  have HS := Lib.hid (single_any E S w1 lev 4 hst n _ s _ hva har hsz (hmk.mono hb))
  show Calls _ _ #[E.m, ndV n (.slice pa (El.args n).length ca)] _ (Out14 E S w1 lev 4 ((El.single n).then (fun x => .ok (El.say 2 s x))))
  have q1 := err_nil
  have q2 := err_some
  obtain ⟨r, hr⟩ : ∃ r, r = El.single n := ⟨_, rfl⟩
  rw [← hr] at HS ⊢
  have HZ := Lib.hid hsz
  generalize (El.args n).length = la at *
  clear hb hst hmk hsz hva hr har
  unfold Env14.m ndV at HS ⊢
  go_enter Tryz.func64, Tryz.ntmps64
  go_wp2_with fail
  refine HS.out.mono ?_
  intro e w2 ho
  cases r with
  | word x =>
    obtain ⟨hm2, a2, k2, c2, rfl, hx⟩ := ho
    have HM := Lib.hid hm2
    have HSAY := Lib.hid (say_any E S w1 lev 2 (El.text x) (El.isCmd x) a2 k2 c2 (El.loc x) s _ hx (by have := HZ.out; omega) (hm2.mono (below_alloc w2 (.cells #[.bool (El.isCmd x), .string (str (El.text x)), .slice a2 k2 c2, .int .i64 (El.loc x)] 89))))
    unfold Env14.m at HSAY
    clear hm2 hx HS
    unfold ndV
    go_wp2_with fail
    refine HSAY.out.mono ?_
    rintro e w3 ⟨rfl, hm3⟩
    have HM3 := Lib.hid hm3
    clear hm3 HSAY
    go_wp2
    go_ret
    exact ⟨rfl, HM3.out⟩
  | bad c a =>
    obtain ⟨ns, T, x, s2, rfl, he, hm2⟩ := ho
    have HE := Lib.hid he
    have HM := Lib.hid (hm2.mono (below_alloc w2 (.cells #[.bool false, .string ⟨#[]⟩, .slice none 0 0, .int .i64 0] 89)))
    clear he hm2 HS
    go_wp2
    go_ret
    exact ⟨ns, _, s2, rfl, HE.out, HM.out⟩

def keysV (E : Env14) : Value := .agg #[.string (str nmKeys), E.mf 65, .map none]
theorem enters_sayKey : Enters 65 := enters_of Tryz.func65 (by kernel_rfl) rfl
theorem enters_sayWord : Enters 62 := enters_of Tryz.func62 (by kernel_rfl) rfl
theorem enters_takeKeys : Enters 63 := enters_of Tryz.func63 (by kernel_rfl) rfl
theorem enters_takeRef : Enters 64 := enters_of Tryz.func64 (by kernel_rfl) rfl
theorem sizeN_pos (n : El.Nd) : 1 ≤ El.sizeN n := by
  obtain ⟨c, x, args, a⟩ := n
  unfold El.sizeN
  omega
theorem say_sz (k : Int) (s : El.St) (n : El.Nd) : El.sz (El.say k s n) = El.sz s + 1 := by
  unfold El.sz El.say
  simp only [List.length_append, List.length_singleton]
  omega
theorem take_grows {wd : Option El.Op} {rules : List UInt8 → Option (Nat × El.Op)} (hw : ∀ f, wd = some f → Grows f) (hr : ∀ x k f, rules x = some (k, f) → ∀ s n s', (El.args n).length = k → f s n = .ok s' → El.sz s' ≤ El.sz s + El.sizeN n) : Grows (El.take wd rules) := by
  intro s n s' h
  unfold El.take at h
  cases hc : El.isCmd n with
  | false =>
    rw [hc, if_pos rfl] at h
    cases wd with
    | none => cases h
    | some f => exact hw f rfl s n s' h
  | true =>
    rw [hc, if_neg (by simp)] at h
    cases hx : rules (El.text n) with
    | none => rw [hx] at h; cases h
    | some kf =>
      obtain ⟨k, f⟩ := kf
      rw [hx] at h
      simp only [] at h
      by_cases hk : (El.args n).length = k
      · rw [if_pos hk] at h
        exact hr _ k f hx s n s' hk h
      · rw [if_neg hk] at h; cases h
theorem keyOp_grows (t : List (List UInt8)) : Grows (El.keyOp t) := by
  intro s n s' h
  unfold El.keyOp at h
  split at h
  · cases h
    have := say_sz 1 s n
    have := sizeN_pos n
    omega
  · cases h
theorem keysTake_grows (t : List (List UInt8)) : Grows (El.keysTake t) := take_grows (fun f hf => by cases hf; exact keyOp_grows t) (fun x k f h => by cases h)
theorem keysV_visit (E : Env14) (lev : Nat) : VisitC E lev 4 (keysV E) (El.keysTake (Sg.keys E.t)) := by
  refine visit_any E lev 4 nmKeys _ _ _ (keysTake_grows _) ?_
  exact takeC_gen E lev 4 nmKeys _ _ 0 [] _ _ (.inl ⟨rfl, rfl⟩) (.inl ⟨_, rfl, enters_sayKey, sayKey_any E lev⟩) (fun x => rfl)
set_option maxHeartbeats 1000000 in
set_option maxRecDepth 100000 in
theorem takeKeys_any (E : Env14) (lev : Nat) : OpA E lev 4 63 (fun v => #[E.m, v]) (fun l => l = 1) (El.sigOp (Sg.keys E.t)) := by
  intro S w1 hst n va s w hva har hsz hmk
  obtain ⟨b0, o0, cp0, vg, rfl, hc0, hn0⟩ := args_get hva (i := 0) (by omega)
  have hls := node_size n (i := 0) (by omega)
  rw [Nat.add_zero] at hc0
  obtain ⟨wb, hwb⟩ : ∃ wb, wb = w.alloc (.cells #[.bool (El.isCmd n), .string (str (El.text n)), .slice (some ⟨b0, o0, none⟩) (El.args n).length cp0, .int .i64 (El.loc n)] 89) := ⟨_, rfl⟩
  have hb : Below w.heap.size w wb := by rw [hwb]; exact below_alloc _ _
  have hbx : wb.heap[w.heap.size]? = some (.cells #[.bool (El.isCmd n), .string (str (El.text n)), .slice (some ⟨b0, o0, none⟩) (El.args n).length cp0, .int .i64 (El.loc n)] 89 (0, 0)) := by rw [hwb]; exact obj_new _ _ rfl _ _
  have hmd := (hmk.mono hb).mono (below_drew9 wb)
  have HV := Lib.hid (keysV_visit E lev S w1 hst _ vg s _ hn0 (by have := hls; show El.sz s + El.sizeL (El.argN n 0) ≤ lim14; omega) hmd)
  obtain ⟨K, y, hP⟩ := hmk.mono hb
  have c21 := hP.c21
  have c22 := hP.c22
  have c23 := hP.c23
  have z0 := cell_below hP.below hc0
  have b2 := mcell hbx 2 rfl
  have har2 : (0 : Int) < ((El.args n).length : Int) := by omega
  have har3 : 0 < (El.args n).length := by omega
  show Calls _ _ #[E.m, ndV n (.slice (some ⟨b0, o0, none⟩) (El.args n).length cp0)] _ (Out14 E S w1 lev 4 (El.visit (El.keysTake (Sg.keys E.t)) s (El.argN n 0)))
  change Hid (Calls _ _ _ _ (Out14 E S w1 lev 4 (El.visit (El.keysTake (Sg.keys E.t)) s (El.argN n 0)))) at HV
  generalize El.visit (El.keysTake (Sg.keys E.t)) s (El.argN n 0) = r at *
  obtain ⟨⟨pl, cl, rfl, _⟩, _, _⟩ := hn0
  have HR := Lib.hid (fun e w' (h : Out14 E S w1 lev 4 r e w') => h.ret)
  generalize (El.args n).length = la at *
  clear hb hst hmk hsz hva har hmd hP hbx hc0 hls
  unfold keysV at HV
  unfold Env14.mf at c22
  unfold Env14.mf at HV
  unfold Env14.m ndV at *
  go_enter Tryz.func63, Tryz.ntmps63
  go_upto_region 1 with fail
  rw [← hwb]
  clear hwb
  go_region_law (first
    | (go_simp; go_at_call 42; refine HV.out.mono ?_; intro e w7 ho; obtain ⟨v7, rfl⟩ := HR.out _ _ ho; have HO := Lib.hid ho; clear ho))
  all_goals (
    go_wp2
    go_ret
    exact HO.out)
end Go.Proofs.YtfjplhgajoehfaaGreatDoor
