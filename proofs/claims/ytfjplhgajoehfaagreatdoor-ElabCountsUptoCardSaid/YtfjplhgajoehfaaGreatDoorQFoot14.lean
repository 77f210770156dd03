/-
  The landed takeNote: a note of a lemma.
-/
import Derived.Test.YtfjplhgajoehfaaGreatDoorQCel14
set_option linter.unusedVariables false
set_option linter.unusedSimpArgs false
namespace Go.Proofs.YtfjplhgajoehfaaGreatDoor
open Go.RowKit

/-! ### what is finished -/
section
variable {E : Env14} {S : Nat → Prop} {w1 : World} {lev d d' : Nat} {s : El.St} {K K' : Nat → Prop} {y : Dyn} {w w' : World}
theorem MkP.ownOff (h : MkP E S w1 lev d s K y w) {ρ α : Type} {κ : Knd ρ α} {v0 : Value} {l : List α} (ho : OwnE κ E.w0.heap.size K (fun b => K b ∨ S b) v0 l w) (hκ : 83 ≠ κ.T) : ∀ b, v0.ownBlock = some b → ¬ S b ∧ b ≠ E.p ∧ b ≠ E.bl := by
  intro b hb
  obtain ⟨rs, hr, _⟩ := ho.row
  refine ⟨fun hS => ho.ne b (.inr hS) hb, fun e => own_off9 hr h.obj hκ (by rw [← e]; exact hb.symm), fun e => ?_⟩
  obtain ⟨es, clock, h1, _⟩ := h.lab
  rcases hr.2 with ⟨rfl, _⟩ | ⟨g, cap, cur, rfl, _, hg', _⟩
  · cases hb
  · simp [Value.ownBlock] at hb
    rw [hb, e, h1] at hg'
    cases hg'
theorem MkP.fin (h : MkP E S w1 lev d s K y w) (rows' : Rows14 E.w0.heap.size d' s K' (fun b => K' b ∨ S b) y w) (hK' : ∀ b, K' b → K b ∨ (¬ S b ∧ b ≠ E.p ∧ b ≠ E.bl)) : MkP E S w1 lev d' s K' y w :=
  ⟨h.obj, h.lab, h.below, h.keep, fun b hb hk => (hK' b hk).elim (fun h1 => h.KS b hb h1) (fun h1 => h1.1 hb), fun hk => (hK' _ hk).elim h.Kp (fun h1 => h1.2.1 rfl), fun hk => (hK' _ hk).elim h.Kl (fun h1 => h1.2.2 rfl), h.Sp, h.Sl, h.hp, h.hl, rows'⟩
theorem MkP.fin_said (h : MkP E S w1 lev 4 s K y w) : MkP E S w1 lev 3 s (fun b => K b ∨ y.vt.ownBlock = some b) y w ∧ SlcK saC 3 (fun b => K b ∨ y.vt.ownBlock = some b) w y.vt s.said := by
  refine ⟨h.fin (h.rows.fin_said.less (fun b hb => ?_) (fun b hb => .inl hb)) (fun b hb => hb.imp id (h.ownOff (h.rows.said (Nat.le_refl _)) (by decide) b)), ?_⟩
  · rcases hb with (h1 | h1) | h1
    · exact .inl (.inl h1)
    · exact .inr h1
    · exact .inl (.inr h1)
  · obtain ⟨rs, h1, h2⟩ := (h.rows.said (Nat.le_refl _)).slcK okSa (K' := fun b => K b ∨ y.vt.ownBlock = some b) (fun b hb => .inl hb) (fun b hb => .inr hb)
    have e := h2.eq
    subst e
    exact h1
theorem Rows14.startSaid {B : Nat} {X : Nat → Prop} (h : Rows14 B 3 s K X y w) : Rows14 B 4 { s with said := [] } K X { y with vt := .slice Option.none 0 0 } w :=
  ⟨h.Klt, h.KX, h.few, h.sides, h.labels, fun _ => h.chunks (by omega), fun _ => h.words (by omega), fun _ => h.notes (by omega), fun _ => h.paras (by omega), fun _ => h.ends (by omega), fun _ => ownE_nil _ _ _ _ _⟩
end

def noteV (E : Env14) : Value := .agg #[.string (str nmNote), E.mf 62, .map (some E.bo)]
theorem refOp_grows {s : El.St} {n : El.Nd} {s' : El.St} (h : El.refOp s n = .ok s') : El.sz s' ≤ El.sz s + El.sizeN n := by
  unfold El.refOp at h
  cases hs : El.single n with
  | word x =>
    rw [hs] at h
    cases h
    have := say_sz 2 s x
    have := sizeN_pos n
    omega
  | bad c a => rw [hs] at h; cases h
theorem arg_size (n : El.Nd) {k : Nat} (hk : k < (El.args n).length) : El.sizeL (El.argN n k) ≤ El.sizeN n := by
  have := node_size n hk
  omega
theorem sayOp_grows : Grows El.sayOp := by
  intro s n s' h
  cases h
  have := say_sz 0 s n
  have := sizeN_pos n
  omega
theorem noteTake_grows (t : List (List UInt8)) : Grows (El.noteTake t) := by
  refine take_grows (fun f hf => by cases hf; exact sayOp_grows) (fun x k f h s n s' hk e => ?_)
  unfold El.noteRules at h
  split at h
  · cases h
    have h1 := El.visit_grows (keysTake_grows t) _ _ _ e
    have h2 := arg_size n (k := 0) (by omega)
    omega
  · split at h
    · cases h
      exact refOp_grows e
    · cases h
theorem noteV_visit (E : Env14) (lev : Nat) : VisitC E lev 4 (noteV E) (El.noteTake (Sg.keys E.t)) := by
  refine visit_any E lev 4 nmNote _ _ _ (noteTake_grows _) ?_
  refine takeC_gen E lev 4 nmNote _ _ E.bo E.mNote _ _ (.inr ⟨rfl, fun S w1 hst => hst.mo⟩) (.inl ⟨_, rfl, enters_sayWord, sayWord_any E lev⟩) (fun x => ?_)
  unfold El.noteRules Env14.mNote
  by_cases h1 : x = El.tSig
  · rw [if_pos h1]
    exact ⟨_, by simp [look, h1], .inl ⟨_, rfl, enters_takeKeys, takeKeys_any E lev⟩⟩
  · rw [if_neg h1]
    by_cases h2 : x = El.tRef
    · rw [if_pos h2]
      exact ⟨_, by unfold look; rw [if_neg h1]; unfold look; rw [if_pos h2], .inl ⟨_, rfl, enters_takeRef, takeRef_any E lev⟩⟩
    · rw [if_neg h2]
      simp [look, h1, h2]
theorem kNo_ne : 83 ≠ kNo.T := by decide
theorem five_src {w : World} {b : Nat} {r : RNo} {T : TypeId} (h : w.heap[b]? = some (.cells #[.int .i64 r.ser, .int .i64 r.fr, .int .i64 r.til, r.t.v, .int .i64 r.loc] T (0, 0))) : True := trivial
set_option maxHeartbeats 4000000 in
set_option maxRecDepth 100000 in
theorem takeNote_any (E : Env14) (lev i : Nat) (hi : i < 11) : OpA E lev 3 53 (fun v => #[E.m, .int .i64 i, v]) (fun l => l = 1) (El.footOp (Sg.keys E.t) i) := by
  intro S w1 hst n va s w hva har hsz hmk
  obtain ⟨b0, o0, cp0, vg, rfl, hc0, hn0⟩ := args_get hva (i := 0) (by omega)
  have hls := node_size n (i := 0) (by omega)
  rw [Nat.add_zero] at hc0
  obtain ⟨wb, hwb⟩ : ∃ wb, wb = w.alloc (.cells #[.bool (El.isCmd n), .string (str (El.text n)), .slice (some ⟨b0, o0, none⟩) (El.args n).length cp0, .int .i64 (El.loc n)] 89) := ⟨_, rfl⟩
  have hb : Below w.heap.size w wb := by rw [hwb]; exact below_alloc _ _
  have hbx : wb.heap[w.heap.size]? = some (.cells #[.bool (El.isCmd n), .string (str (El.text n)), .slice (some ⟨b0, o0, none⟩) (El.args n).length cp0, .int .i64 (El.loc n)] 89 (0, 0)) := by rw [hwb]; exact obj_new _ _ rfl _ _
  have hse := hst.enter hmk hb
  have hinS : Plus S w wb w.heap.size := .inr ⟨Nat.le_refl _, by rw [hwb, World.size_alloc]; omega⟩
  obtain ⟨K, y, hP⟩ := hmk.enter hb
  have f43 := hP.fr 43
  have m43 := hP.c43
  have hP1 := hP.set (s' := { s with said := [] }) (y' := { y with vt := .slice none 0 0 }) (lev' := lev) hP.rows.startSaid rfl 43 (.slice none 0 0) rfl
  obtain ⟨wc, hwc⟩ : ∃ wc, wc = wb.setCell ⟨E.p, 43, none⟩ (.slice none 0 0) := ⟨_, rfl⟩
  rw [← hwc] at hP1
  have hP1d := hP1.mono (below_drew9 wc)
  have hszs : El.sz { s with said := [] } ≤ El.sz s := by unfold El.sz; simp only [List.length_nil]; omega
  have HV := Lib.hid (noteV_visit E lev _ _ hse _ vg { s with said := [] } _ hn0 (by have := hls; show El.sz { s with said := [] } + El.sizeL (El.argN n 0) ≤ lim14; omega) ⟨_, _, hP1d⟩)
  have c18 := hP1.c18
  have c19 := hP1.c19
  have c20 := hP1.c20
  have hbxc := MK.kept ⟨_, _, hP1⟩ hinS hbx
  have z0 := cell_below hP1.below hc0
  have b2 := mcell hbxc 2 rfl
  have har2 : (0 : Int) < ((El.args n).length : Int) := by omega
  have har3 : 0 < (El.args n).length := by omega
  have HGR := Lib.hid (fun s1 (h : El.visit (El.noteTake (Sg.keys E.t)) { s with said := [] } (El.argN n 0) = .ok s1) => (by have h9 := El.visit_grows (noteTake_grows _) _ _ _ h; omega : El.sz s1 ≤ lim14))
  have HBK := Lib.hid (fun lev' d' s' w2 (h : MK E (Plus S w wb) wb lev' d' s' w2) => hmk.back hb h)
  have HKX := Lib.hid (fun lev' d' s' w2 (h : MK E (Plus S w wb) wb lev' d' s' w2) => h.kept hinS hbx)
  show Calls _ _ #[E.m, .int .i64 i, ndV n (.slice (some ⟨b0, o0, none⟩) (El.args n).length cp0)] _ (Out14 E S w1 lev 3 ((El.visit (El.noteTake (Sg.keys E.t)) { s with said := [] } (El.argN n 0)).then (fun s1 => .ok { s1 with notes := s1.notes ++ [⟨i, s1.fr, s1.til, s1.said, El.loc n⟩] })))
  change Hid (Calls _ _ _ _ (Out14 E _ _ lev 4 (El.visit (El.noteTake (Sg.keys E.t)) { s with said := [] } (El.argN n 0)))) at HV
  generalize El.visit (El.noteTake (Sg.keys E.t)) { s with said := [] } (El.argN n 0) = r at *
  obtain ⟨⟨pl, cl, rfl, _⟩, _, _⟩ := hn0
  have HR := Lib.hid (fun e w' (h : Out14 E (Plus S w wb) wb lev 4 r e w') => h.ret)
  have q1 := err_nil
  have q2 := err_some
  generalize (El.args n).length = la at *
  clear hb hst hmk hsz hva har hP hP1 hP1d hbx hbxc hc0 hls hse hinS hszs
  unfold noteV at HV
  unfold Env14.mf at c19
  unfold Env14.mf at HV
  unfold Env14.m ndV at *
  go_enter Tryz.func53, Tryz.ntmps53
  go_upto_region 1 with fail
  rw [← hwb]
  clear hwb
  go_upto_region 2 with fail
  rw [← hwc]
  clear hwc m43 f43
  go_cut [7] (fun ev wx => ∃ v7, ev = v7 ∧ Hid (Out14 E (Plus S w wb) wb lev 4 r (.returned v7) wx))
  case first =>
    go_region_law (first
      | (go_simp; go_at_call 42; refine HV.out.mono ?_; intro e w7 ho; obtain ⟨v7, rfl⟩ := HR.out _ _ ho; have HO := Lib.hid ho; clear ho))
    all_goals (
      go_wp2_with fail
      go_meet
      exact ⟨_, rfl, HO⟩)
  case rest =>
    obtain ⟨v7, rfl, HO⟩ := hcut
    obtain ⟨wd, hwd⟩ : ∃ wd, wd = wc := ⟨_, rfl⟩
    subst hwd
    clear c18 c19 c20 z0 b2 HV HR
    cases r with
    | bad c a =>
      obtain ⟨ns, ev, s2, he0, he, hm2⟩ := HO.out
      injection he0 with he0
      subst he0
      obtain ⟨T, x, rfl⟩ := he.iface
      have HE := Lib.hid he
      have HM := Lib.hid (HBK.out _ _ _ _ hm2)
      clear he hm2 HO
      go_wp2
      go_ret
      exact ⟨ns, _, s2, rfl, HE.out, HM.out⟩
    | ok s1 =>
      obtain ⟨he0, hm⟩ := HO.out
      injection he0 with he0
      subst he0
      have hbxc := HKX.out _ _ _ _ hm
      have HM := Lib.hid (HBK.out _ _ _ _ hm)
      have hsz1 := HGR.out s1 rfl
      obtain ⟨K1, y1, hp1⟩ := HM.out
      obtain ⟨hp2, hsl⟩ := hp1.fin_said
      obtain ⟨av, cv, hyv, _⟩ := (hp1.rows.said (Nat.le_refl _)).len
      have hsl2 := hsl
      have c38 := hp1.c38
      have c39 := hp1.c39
      have c40 := hp1.c40
      have c41 := hp1.c41
      have c42 := hp1.c42
      have c43 := hp1.c43
      rw [hyv] at c43
      have b3 := mcell hbxc 3 rfl
      obtain ⟨W5, hW5⟩ : ∃ W5, W5 = wd.alloc (.cells #[.int .i64 0, .int .i64 s1.fr, .int .i64 s1.til, .slice none 0 0, .int .i64 0] 44) := ⟨_, rfl⟩
      have hB5 : Below wd.heap.size wd W5 := by rw [hW5]; exact below_alloc _ _
      have hO5 : W5.heap[wd.heap.size]? = some (.cells #[.int .i64 0, .int .i64 s1.fr, .int .i64 s1.til, .slice none 0 0, .int .i64 0] 44 (0, 0)) := by rw [hW5]; exact obj_new _ _ rfl _ _
      have d43 := cell_below hB5 c43
      have d3 := cell_below hB5 b3
      have g0 := Lib.frozen_of_heap hO5 0
      have g3 := Lib.frozen_of_heap hO5 3
      have g4 := Lib.frozen_of_heap hO5 4
      have e0 := mcell hO5 0 rfl
      have e3 := mcell hO5 3 rfl
      have e4 := mcell hO5 4 rfl
      have hn1 : w.heap.size ≠ wd.heap.size := Nat.ne_of_lt (lt_of_obj hbxc)
      have hn2 : E.p ≠ wd.heap.size := Nat.ne_of_lt hp1.p_lt
      have HB5 := Lib.hid hB5
      have HO5 := Lib.hid hO5
      have HP2 := Lib.hid hp2
      have HYV := Lib.hid hyv
      have HSL := Lib.hid hsl
      clear hbxc hm HO HM hp1 hp2 hsl hsl2 hyv hB5 hO5 HKX HGR HBK
      go_upto_region 6 with fail
      rw [← hW5]
      clear hW5 c38 c39 c40 c41 c42 c43 b3
      go_cut [8] (fun nv wx => nv = .pointer (some ⟨wd.heap.size, 0, none⟩) ∧ Hid (wx.heap[wd.heap.size]? = some (.cells #[.int .i64 i, .int .i64 s1.fr, .int .i64 s1.til, .slice av s1.said.length cv, .int .i64 (El.loc n)] 44 (0, 0))) ∧ Hid (Below wd.heap.size wd wx))
      case first =>
        have HZ : Hid (((((W5.setCell ⟨wd.heap.size, 0, none⟩ (.int .i64 i)).setCell ⟨wd.heap.size, 3, none⟩ (.slice av s1.said.length cv)).setCell ⟨wd.heap.size, 4, none⟩ (.int .i64 (El.loc n))).drew).heap[wd.heap.size]? = some (.cells #[.int .i64 i, .int .i64 s1.fr, .int .i64 s1.til, .slice av s1.said.length cv, .int .i64 (El.loc n)] 44 (0, 0))) := Lib.hid (by
          have h1 := heap_setCell_same W5 wd.heap.size 0 _ _ (.int .i64 i) HO5.out
          have h2 := heap_setCell_same _ wd.heap.size 3 _ _ (.slice av s1.said.length cv) h1
          exact heap_setCell_same _ wd.heap.size 4 _ _ (.int .i64 (El.loc n)) h2)
        have HZB : Hid (Below wd.heap.size wd ((((W5.setCell ⟨wd.heap.size, 0, none⟩ (.int .i64 i)).setCell ⟨wd.heap.size, 3, none⟩ (.slice av s1.said.length cv)).setCell ⟨wd.heap.size, 4, none⟩ (.int .i64 (El.loc n))).drew)) := Lib.hid
          ((((HB5.out.setCell (p := ⟨wd.heap.size, 0, none⟩) (Nat.le_refl _) _).setCell (p := ⟨wd.heap.size, 3, none⟩) (Nat.le_refl _) _).setCell (p := ⟨wd.heap.size, 4, none⟩) (Nat.le_refl _) _).drew)
        go_region_law (fail)
        all_goals (
          go_wp2_with fail
          go_meet
          exact ⟨rfl, HZ, HZB⟩)
      case rest =>
        obtain ⟨rfl, HO8, HB8⟩ := hcut
        clear d43 d3 g0 g3 g4 e0 e3 e4 HB5 HO5 hn1 hn2
        have hb9 := HB8.out
        have hp3 := HP2.out.mono hb9
        obtain ⟨an, cn, hyn, _⟩ := (hp3.rows.notes (by omega)).len
        have c33 := hp3.c33
        rw [hyn] at c33
        have e0 := mcell HO8.out 0 rfl
        have e1 := mcell HO8.out 1 rfl
        have e2 := mcell HO8.out 2 rfl
        have e3 := mcell HO8.out 3 rfl
        have e4 := mcell HO8.out 4 rfl
        have hbA := below_alloc wc (.cells #[.int .i64 i, .int .i64 s1.fr, .int .i64 s1.til, .slice av s1.said.length cv, .int .i64 (El.loc n)] 44)
        have k33 := cell_below hbA c33
        have hbB := below_step hbA (below_drew9 _)
        have hp4 := hp3.mono hbB
        have HP4 := Lib.hid hp4
        have hon := hp4.rows.notes (by omega)
        rw [hyn] at hon
        have HOW := Lib.hid hon
        have HYN := Lib.hid hyn
        have hmv : ∀ v, v = y1.vt → SlcK saC 3 (fun b => K1 b ∨ y1.vt.ownBlock = some b) (wc.alloc (.cells #[.int .i64 i, .int .i64 s1.fr, .int .i64 s1.til, .slice av s1.said.length cv, .int .i64 (El.loc n)] 44)).drew v s1.said := by
          rintro v rfl
          exact HSL.out.move (fun b hb => stays_block ((hbB.block b (hp3.Klt hb)).trans (hb9.block b (HP2.out.Klt hb)))) (fun _ h => h)
        have HR4 : Hid (NoteK (fun b => K1 b ∨ y1.vt.ownBlock = some b) (wc.alloc (.cells #[.int .i64 i, .int .i64 s1.fr, .int .i64 s1.til, .slice av s1.said.length cv, .int .i64 (El.loc n)] 44)).drew ⟨i, s1.fr, s1.til, ⟨av, s1.said.length, cv⟩, El.loc n⟩ ⟨i, s1.fr, s1.til, s1.said, El.loc n⟩) := Lib.hid ⟨rfl, rfl, rfl, rfl, hmv _ HYV.out.symm⟩
        have HSR := Lib.hid (src_new (w := wc) (T := 44) (f := noC) (r := ⟨i, s1.fr, s1.til, ⟨av, s1.said.length, cv⟩, El.loc n⟩) (cs := #[.int .i64 i, .int .i64 s1.fr, .int .i64 s1.til, .slice av s1.said.length cv, .int .i64 (El.loc n)]) rfl)
        have HLN : Hid (s1.notes.length ≤ 1000000000000) := Lib.hid (by
          have h1 : s1.notes.length ≤ El.sz s1 := by unfold El.sz; omega
          unfold lim14 at hsz1
          omega)
        clear hb9 hp3 hbA hbB hp4 hon hyn hsz1 hmv
        go_wp2_with fail
        go_region_law (first
          | (refine step_push14 okNo (by rfl) _ _ (by rfl) E.w0.heap.size _ _ (.slice an s1.notes.length cn) s1.notes ⟨i, s1.fr, s1.til, ⟨av, s1.said.length, cv⟩, El.loc n⟩ ⟨i, s1.fr, s1.til, s1.said, El.loc n⟩ wc.heap.size (by rfl) (by rfl) HOW.out HSR.out HR4.out HLN.out HP4.out.below.size HP4.out.rows.Klt HP4.out.rows.KX ?_; intro g9 cap9 w9 ho9 hg9; have hb9 := HP4.out.objFar HOW.out hg9 kNo_ne; have c9 : w9.cell? ⟨E.p, 33, none⟩ = some y1.vn := mcell hb9 33 rfl; have f9 : w9.frozen? ⟨E.p, 33, none⟩ = false := Lib.frozen_of_heap hb9 33))
        all_goals (
          have HP := Lib.hid (HP4.out.push hg9 HOW.out rfl kNo_ne (HP4.out.rows.push_notes (by omega) (by rw [HYN.out]; exact hg9) ho9) rfl 33 (.slice (some ⟨g9, 0, none⟩) (s1.notes.length + 1) cap9) rfl)
          clear ho9 hg9 hb9
          go_wp2
          go_ret
          exact ⟨rfl, _, _, HP.out⟩)
end Go.Proofs.YtfjplhgajoehfaaGreatDoor
