/-
  The landed visitLemma, takeLemma: texts, in which lemmas lie in one another.
  The landed takeLemma: a lemma's text, and its notes.
  The landed addPara: a paragraph that is done.
  The landed takeLine: a text that has words.
  The landed takeProse, takeVerse: paragraphs and stanzas.
-/
import Derived.Test.YtfjplhgajoehfaaGreatDoorQLabel14
set_option linter.unusedVariables false
set_option linter.unusedSimpArgs false
namespace Go.Proofs.YtfjplhgajoehfaaGreatDoor
open Go.RowKit

def textV (E : Env14) : Value := .agg #[.string (str El.tText), E.mf 59, .map (some E.bx)]
def inner14 (t : List (List UInt8)) : Nat → El.St → List El.Nd → El.Res
  | 0 => fun s _ => .ok s
  | k + 1 => El.visit (El.textTake t k)
theorem textTake_inner (t : List (List UInt8)) (k : Nat) : El.textTake t k = El.textOf t (inner14 t k) := by cases k <;> rfl
/-- the landed visitLemma does so -/
def InnerC (E : Env14) (lev k : Nat) : Prop := ∀ (S : Nat → Prop) (w1 : World), Stat14 E S w1 → ∀ (l : List El.Nd) (v : Value) (s : El.St) (w : World), NodesAt E.w0 (fun _ => True) v l → El.sz s + El.sizeL l ≤ lim14 → MK E S w1 lev 3 s w →
  Calls Tryz.prog 86 #[E.m, v] w (Out14 E S w1 lev 3 (inner14 (Sg.keys E.t) k s l))
set_option maxHeartbeats 1000000 in
set_option maxRecDepth 100000 in
theorem innerC_zero (E : Env14) : InnerC E 65536 0 := by
  intro S w1 hst l v s w hl hsz hmk
  obtain ⟨⟨pl, cl, rfl, _⟩, _, _⟩ := hl
  obtain ⟨K, y, h⟩ := hmk
  have c37 : w.cell? ⟨E.p, 37, none⟩ = some (.int .i64 65536) := h.c37
  have HM := Lib.hid h
  clear h hst hsz
  unfold Env14.m
  go_enter Tryz.func86, Tryz.ntmps86
  go_wp2
  go_ret
  exact ⟨rfl, _, _, HM.out⟩
theorem MkP.lev {E : Env14} {S : Nat → Prop} {w1 : World} {lev d : Nat} {s : El.St} {K : Nat → Prop} {y : Dyn} {w : World} (h : MkP E S w1 lev d s K y w) (l2 : Nat) : MkP E S w1 l2 d s K y (w.setCell ⟨E.p, 37, none⟩ (.int .i64 l2)) :=
  h.set h.rows rfl 37 _ rfl
set_option maxHeartbeats 1000000 in
set_option maxRecDepth 100000 in
theorem innerC_succ (E : Env14) (lev k : Nat) (hlev : lev < 65536) (hV : VisitC E (lev + 1) 3 (textV E) (El.textTake (Sg.keys E.t) k)) : InnerC E lev (k + 1) := by
  intro S w1 hst l v s w hl hsz hmk
  obtain ⟨K, y, h⟩ := hmk
  have h2 := h.lev (lev + 1)
  have hN := hl
  obtain ⟨⟨pl, cl, rfl, _⟩, _, _⟩ := hl
  obtain ⟨wb, hwb⟩ : ∃ wb, wb = w.setCell ⟨E.p, 37, none⟩ (.int .i64 ((lev + 1 : Nat) : Int)) := ⟨_, rfl⟩
  rw [← hwb] at h2
  have HV := Lib.hid (hV S w1 hst l _ s wb hN hsz ⟨_, _, h2⟩)
  have c37 : w.cell? ⟨E.p, 37, none⟩ = some (.int .i64 lev) := h.c37
  have f37 := h.fr 37
  have c12 := h2.c12
  have c13 := h2.c13
  have c14 := h2.c14
  obtain ⟨L, hL⟩ : ∃ L : Int, L = (lev : Int) := ⟨_, rfl⟩
  have hl1 : (L == 65536) = false := beq_eq_false_iff_ne.2 (by omega)
  have hwr : IntKind.i64.wrap (L + 1) = L + 1 := IntWalk.i64_in _ (by omega)
  have hwr2 := Lib.hid (IntWalk.wrap64_in L (by omega))
  have hl2 : ((lev + 1 : Nat) : Int) = (lev : Int) + 1 := by omega
  show Calls _ _ _ _ (Out14 E S w1 lev 3 (El.visit (El.textTake (Sg.keys E.t) k) s l))
  obtain ⟨r, hr⟩ : ∃ r, r = El.visit (El.textTake (Sg.keys E.t) k) s l := ⟨_, rfl⟩
  rw [← hr] at HV ⊢
  rw [hl2, ← hL] at hwb
  rw [← hL] at c37
  have HL := Lib.hid hL
  clear hL
  generalize l.length = ln at *
  clear hst hsz h h2 hr hN hV hlev hl2
  unfold textV at HV
  unfold Env14.mf at c13
  unfold Env14.mf at HV
  unfold Env14.m at *
  go_enter Tryz.func86, Tryz.ntmps86
  go_upto_region 4 with fail
  rw [← hwb]
  clear hwb f37 c37
  go_wp2_with fail
  refine HV.out.mono ?_
  intro e w2 ho
  clear HV c12 c13 c14
  cases r with
  | ok s1 =>
    obtain ⟨rfl, K1, y1, h1⟩ := ho
    have c37 : w2.cell? ⟨E.p, 37, none⟩ = some (.int .i64 (L + 1)) := by rw [HL.out]; exact h1.c37
    have f37 := h1.fr 37
    have hM := h1.lev lev
    rw [← HL.out] at hM
    have HM := Lib.hid hM
    clear hM
    clear h1
    go_wp2
    go_ret
    rw [hwr2.out]
    exact ⟨rfl, _, _, HM.out⟩
  | bad c a =>
    obtain ⟨ns, v, s1, rfl, he, K1, y1, h1⟩ := ho
    have c37 : w2.cell? ⟨E.p, 37, none⟩ = some (.int .i64 (L + 1)) := by rw [HL.out]; exact h1.c37
    have f37 := h1.fr 37
    have hM := h1.lev lev
    rw [← HL.out] at hM
    have HM := Lib.hid hM
    clear hM
    have HE := Lib.hid he
    clear h1 he
    go_wp2
    go_ret
    rw [hwr2.out]
    exact ⟨ns, v, s1, rfl, HE.out, _, _, HM.out⟩
theorem MkP.lemma {E : Env14} {S : Nat → Prop} {w1 : World} {lev d : Nat} {s : El.St} {K : Nat → Prop} {y : Dyn} {w : World} (h : MkP E S w1 lev d s K y w) (a b : Nat) :
    MkP E S w1 lev d { s with fr := a, til := b } K y (((((w.setCell ⟨E.p, 38, none⟩ (.int .i64 0)).setCell ⟨E.p, 39, none⟩ (.int .i64 a)).setCell ⟨E.p, 40, none⟩ (.int .i64 b)).setCell ⟨E.p, 41, none⟩ (.slice none 0 0)).setCell ⟨E.p, 42, none⟩ (.int .i64 0)) := by
  have rw' : ∀ {s : El.St} {w : World}, Rows14 E.w0.heap.size d s K (fun b => K b ∨ S b) y w → ∀ a b, Rows14 E.w0.heap.size d { s with fr := a, til := b } K (fun b => K b ∨ S b) y w := fun h a b =>
    ⟨h.Klt, h.KX, h.few, h.sides, h.labels, h.chunks, h.words, h.notes, h.paras, h.ends, h.said⟩
  have h1 := h.set (lev' := lev) h.rows rfl 38 (.int .i64 0) rfl
  have h2 := h1.set (lev' := lev) (s' := { s with fr := a, til := s.til }) (rw' h1.rows a s.til) rfl 39 (.int .i64 a) rfl
  have h3 := h2.set (lev' := lev) (s' := { s with fr := a, til := b }) (rw' h2.rows a b) rfl 40 (.int .i64 b) rfl
  have h4 := h3.set (lev' := lev) h3.rows rfl 41 (.slice none 0 0) rfl
  exact h4.set (lev' := lev) h4.rows rfl 42 (.int .i64 0) rfl
theorem inner_words_le {t : List (List UInt8)} : True := trivial
end Go.Proofs.YtfjplhgajoehfaaGreatDoor

set_option linter.unusedVariables false
set_option linter.unusedSimpArgs false
namespace Go.Proofs.YtfjplhgajoehfaaGreatDoor
open Go.RowKit

theorem node_size2 (n : El.Nd) (h2 : (El.args n).length = 2) : El.sizeL (El.argN n 0) + El.sizeL (El.argN n 1) + 1 ≤ El.sizeN n := by
  obtain ⟨c, x, args, a⟩ := n
  match args, h2 with
  | [g, h], _ =>
    show El.sizeL g + El.sizeL h + 1 ≤ El.sizeN (.mk c x [g, h] a)
    unfold El.sizeN El.sizeA El.sizeA El.sizeA
    omega
def InGrows (inner : El.St → List El.Nd → El.Res) : Prop := ∀ s l s', inner s l = .ok s' → El.sz s' ≤ El.sz s + El.sizeL l
theorem wordOp_grows : Grows El.wordOp := by
  intro s n s' h
  unfold El.wordOp at h
  split at h
  · cases h
  · cases h
    have := sizeN_pos n
    unfold El.sz
    simp only [List.length_append, List.length_singleton]
    omega
theorem labelOp_grows {s : El.St} {n : El.Nd} {s' : El.St} (h : El.labelOp s n = .ok s') : El.sz s' ≤ El.sz s + El.sizeN n := by
  unfold El.labelOp at h
  cases hs : El.single n with
  | bad c a => rw [hs] at h; cases h
  | word x =>
    rw [hs] at h
    simp only [El.One.then] at h
    split at h
    · cases h
    · cases h
      have := sizeN_pos n
      unfold El.sz
      simp only [List.length_append, List.length_singleton]
      omega
theorem edOp_grows {t : List (List UInt8)} {inner : El.St → List El.Nd → El.Res} (hin : InGrows inner) {s : El.St} {n : El.Nd} {s' : El.St} (hk : (El.args n).length = 2) (h : El.edOp t inner s n = .ok s') : El.sz s' ≤ El.sz s + El.sizeN n := by
  unfold El.edOp at h
  cases hi : inner s (El.argN n 0) with
  | bad c a => rw [hi] at h; cases h
  | ok s1 =>
    rw [hi] at h
    simp only [El.Res.then] at h
    split at h
    · cases h
    · have h1 := El.visit_grows (notesTake_grows t) _ _ _ h
      have h2 := hin _ _ _ hi
      have h3 := node_size2 n hk
      have h4 : El.sz { s1 with fr := s.words.length, til := s1.words.length } = El.sz s1 := rfl
      omega
theorem textOf_grows {t : List (List UInt8)} {inner : El.St → List El.Nd → El.Res} (hin : InGrows inner) : Grows (El.textOf t inner) := by
  refine take_grows (fun f hf => by cases hf; exact wordOp_grows) (fun x k f h s n s' hk e => ?_)
  unfold El.textRules at h
  split at h
  · cases h
    exact edOp_grows hin hk e
  · split at h
    · cases h
      exact labelOp_grows e
    · cases h
theorem inner_grows (t : List (List UInt8)) : ∀ k, InGrows (inner14 t k)
  | 0 => fun s l s' h => by cases h; omega
  | k + 1 => fun s l s' h => by
    refine El.visit_grows ?_ l s s' h
    rw [textTake_inner]
    exact textOf_grows (inner_grows t k)
theorem textTake_grows (t : List (List UInt8)) (k : Nat) : Grows (El.textTake t k) := by
  rw [textTake_inner]
  exact textOf_grows (inner_grows t k)

set_option maxHeartbeats 4000000 in
set_option maxRecDepth 100000 in
theorem takeLemma_any (E : Env14) (lev k : Nat) (hI : InnerC E lev k) : OpA E lev 3 60 (fun v => #[E.m, v]) (fun l => l = 2) (El.edOp (Sg.keys E.t) (inner14 (Sg.keys E.t) k)) := by
  intro S w1 hst n va s w hva har hsz hmk
  have hva2 := hva
  obtain ⟨b0, o0, cp0, vg, rfl, hc0, hn0⟩ := args_get hva (i := 0) (by omega)
  obtain ⟨b9, o9, cp9, vh, e9, hc1, hn1⟩ := args_get hva2 (i := 1) (by omega)
  obtain ⟨rfl, rfl, rfl⟩ : b0 = b9 ∧ o0 = o9 ∧ cp0 = cp9 := by
    injection e9 with a1 a2 a3
    injection a1 with a1
    injection a1 with a1 a4
    exact ⟨a1, a4, a3⟩
  have hls := node_size2 n har
  have hn0 : NodesAt E.w0 (fun _ => True) vg (El.argN n 0) := hn0
  have hn1 : NodesAt E.w0 (fun _ => True) vh (El.argN n 1) := hn1
  rw [Nat.add_zero] at hc0
  obtain ⟨wb, hwb⟩ : ∃ wb, wb = w.alloc (.cells #[.bool (El.isCmd n), .string (str (El.text n)), .slice (some ⟨b0, o0, none⟩) (El.args n).length cp0, .int .i64 (El.loc n)] 89) := ⟨_, rfl⟩
  have hb : Below w.heap.size w wb := by rw [hwb]; exact below_alloc _ _
  have hbx : wb.heap[w.heap.size]? = some (.cells #[.bool (El.isCmd n), .string (str (El.text n)), .slice (some ⟨b0, o0, none⟩) (El.args n).length cp0, .int .i64 (El.loc n)] 89 (0, 0)) := by rw [hwb]; exact obj_new _ _ rfl _ _
  have hse := hst.enter hmk hb
  have hinS : Plus S w wb w.heap.size := .inr ⟨Nat.le_refl _, by rw [hwb, World.size_alloc]; omega⟩
  have hme := hmk.enter hb
  have HW := Lib.hid (words_any E _ _ lev 3 (by omega) s wb hme)
  have HV := Lib.hid (hI _ _ hse _ vg s _ hn0 (by omega) hme)
  have HBK := Lib.hid (fun lev' d' s' w2 (h : MK E (Plus S w wb) wb lev' d' s' w2) => hmk.back hb h)
  have HKX := Lib.hid (fun lev' d' s' w2 (h : MK E (Plus S w wb) wb lev' d' s' w2) => h.kept hinS hbx)
  have HNV := Lib.hid (fun s1 w2 (h : MK E (Plus S w wb) wb lev 3 s1 w2) (hz : El.sz s1 + El.sizeL (El.argN n 1) ≤ lim14) => notesV_visit E lev _ _ hse _ vh s1 w2 hn1 hz h)
  have HGR := Lib.hid (fun s1 (h : inner14 (Sg.keys E.t) k s (El.argN n 0) = .ok s1) => (by have h9 := inner_grows _ k _ _ _ h; omega : El.sz s1 + El.sizeL (El.argN n 1) ≤ lim14))
  have z0 := cell_below hme.below hc0
  have HZ1 := Lib.hid hc1
  have b2 := mcell hbx 2 rfl
  have har2 : (0 : Int) < ((El.args n).length : Int) := by omega
  have har3 : 0 < (El.args n).length := by omega
  have har4 : (1 : Int) < ((El.args n).length : Int) := by omega
  have har5 : 1 < (El.args n).length := by omega
  show Calls _ _ #[E.m, ndV n (.slice (some ⟨b0, o0, none⟩) (El.args n).length cp0)] _ (Out14 E S w1 lev 3 ((inner14 (Sg.keys E.t) k s (El.argN n 0)).then (fun s1 => if s1.words.length = s.words.length then .bad 145 (El.loc n) else El.visit (El.notesTake (Sg.keys E.t)) { s1 with fr := s.words.length, til := s1.words.length } (El.argN n 1))))
  change Hid (Calls _ _ _ _ (Out14 E _ _ lev 3 (inner14 (Sg.keys E.t) k s (El.argN n 0)))) at HV
  generalize inner14 (Sg.keys E.t) k s (El.argN n 0) = r at *
  obtain ⟨⟨pl, cl, rfl, _⟩, _, _⟩ := hn0
  obtain ⟨⟨pm, cm, rfl, _⟩, _, _⟩ := hn1
  have HR := Lib.hid (fun e w' (h : Out14 E (Plus S w wb) wb lev 3 r e w') => h.ret)
  have q1 := err_nil
  have q2 := err_some
  generalize (El.argN n 0).length = l0 at *
  generalize (El.argN n 1).length = l1 at *
  generalize (El.args n).length = la at *
  clear hb hst hmk hsz hva hva2 har hbx hc0 hc1 hls hse hinS hme hI e9
  unfold Env14.m ndV at *
  go_enter Tryz.func60, Tryz.ntmps60
  go_upto_region 1 with fail
  rw [← hwb]
  clear hwb
  go_wp2_with fail
  refine HW.out.mono ?_
  rintro e w2 ⟨rfl, rfl⟩
  go_wp2_with fail
  refine HV.out.mono ?_
  intro e wd ho
  clear z0 b2 HV HR HW
  cases r with
  | bad c a =>
    obtain ⟨ns, ev, s2, rfl, he, hm2⟩ := ho
    obtain ⟨T, x, rfl⟩ := he.iface
    have HE := Lib.hid he
    have HM := Lib.hid (HBK.out _ _ _ _ hm2)
    clear he hm2
    go_wp2
    go_ret
    exact ⟨ns, _, s2, rfl, HE.out, HM.out⟩
  | ok s1 =>
    obtain ⟨rfl, hm⟩ := ho
    have hbxc := HKX.out _ _ _ _ hm
    have HSZ := Lib.hid (HGR.out s1 rfl)
    have HM := Lib.hid hm
    obtain ⟨K1, y1, hp1⟩ := hm
    obtain ⟨aw, cw, hyw, _⟩ := (hp1.rows.words (by omega)).len
    have c32 := hp1.c32
    rw [hyw] at c32
    have b3 := mcell hbxc 3 rfl
    have b2 := mcell hbxc 2 rfl
    have HWD := Lib.hid (words_cell E.p aw s1.words.length cw wd c32)
    by_cases hw : s1.words.length = s.words.length
    · have HF := Lib.hid (fail_out (d := 3) HM.out (fail_any 145 (El.loc n) wd))
      rw [hw] at HWD
      clear hbxc hp1 hyw c32 b2
      go_wp2_with fail
      refine HWD.out.mono ?_
      rintro e w3 ⟨rfl, rfl⟩
      go_wp2_with fail
      refine HF.out.mono ?_
      rintro e w3 ⟨ns, v, s2, rfl, he, hm3⟩
      have HE := Lib.hid he
      have HM3 := Lib.hid (HBK.out _ _ _ _ hm3)
      clear he hm3 HF b3 HWD
      go_wp2
      go_ret
      show Out14 E S w1 lev 3 (if s1.words.length = s.words.length then .bad 145 (El.loc n) else El.visit (El.notesTake (Sg.keys E.t)) { s1 with fr := s.words.length, til := s1.words.length } (El.argN n 1)) _ _
      rw [if_pos hw]
      exact ⟨ns, v, s2, rfl, HE.out, HM3.out⟩
    · have hw2 : ((s1.words.length : Int) == (s.words.length : Int)) = false := beq_eq_false_iff_ne.2 (by omega)
      have c38 := hp1.c38
      have c39 := hp1.c39
      have c40 := hp1.c40
      have c41 := hp1.c41
      have c42 := hp1.c42
      have f38 := hp1.fr 38
      have f39 := hp1.fr 39
      have f40 := hp1.fr 40
      have f41 := hp1.fr 41
      have f42 := hp1.fr 42
      have hp2 := hp1.lemma s.words.length s1.words.length
      obtain ⟨W9, hW9⟩ : ∃ W9, W9 = (((((wd.setCell ⟨E.p, 38, none⟩ (.int .i64 0)).setCell ⟨E.p, 39, none⟩ (.int .i64 s.words.length)).setCell ⟨E.p, 40, none⟩ (.int .i64 s1.words.length)).setCell ⟨E.p, 41, none⟩ (.slice none 0 0)).setCell ⟨E.p, 42, none⟩ (.int .i64 0)) := ⟨_, rfl⟩
      rw [← hW9] at hp2
      have hx9 := HKX.out _ _ _ _ ⟨_, _, hp2⟩
      have d2 := mcell hx9 2 rfl
      have d15 := hp2.c15
      have d16 := hp2.c16
      have d17 := hp2.c17
      have z1 := cell_below hp2.below HZ1.out
      have HNN := Lib.hid (HNV.out { s1 with fr := s.words.length, til := s1.words.length } W9.drew ⟨_, _, hp2.mono (below_drew9 W9)⟩ HSZ.out)
      have HBK2 := Lib.hid (fun (r : El.Res) e w' (h : Out14 E (Plus S w wb) wb lev 3 r e w') => (by
        cases r with
        | ok s2 => exact ⟨h.1, HBK.out _ _ _ _ h.2⟩
        | bad c a =>
          obtain ⟨ns, v, s2, h1, h2, h3⟩ := h
          exact ⟨ns, v, s2, h1, h2, HBK.out _ _ _ _ h3⟩ : Out14 E S w1 lev 3 r e w'))
      obtain ⟨r2, hr2⟩ : ∃ r2, r2 = El.visit (El.notesTake (Sg.keys E.t)) { s1 with fr := s.words.length, til := s1.words.length } (El.argN n 1) := ⟨_, rfl⟩
      rw [← hr2] at HNN
      have HRR := Lib.hid hr2
      have HR := Lib.hid (fun e w' (h : Out14 E (Plus S w wb) wb lev 3 r2 e w') => h.ret)
      unfold notesV at HNN
      clear hbxc hp1 hyw c32 b2 b3 hp2 hx9 hr2
      go_wp2_with fail
      refine HWD.out.mono ?_
      rintro e w3 ⟨rfl, rfl⟩
      go_wp2_with fail
      refine HWD.out.mono ?_
      rintro e w3 ⟨rfl, rfl⟩
      go_upto_region 8 with fail
      rw [← hW9]
      clear hW9 c38 c39 c40 c41 c42 f38 f39 f40 f41 f42 HWD
      go_region_law (first
        | (go_simp; go_at_call 42; refine HNN.out.mono ?_; intro e w7 ho; obtain ⟨v7, rfl⟩ := HR.out _ _ ho; have HO := Lib.hid ho; clear ho))
      all_goals (
        go_wp2
        go_ret
        show Out14 E S w1 lev 3 (if s1.words.length = s.words.length then .bad 145 (El.loc n) else El.visit (El.notesTake (Sg.keys E.t)) { s1 with fr := s.words.length, til := s1.words.length } (El.argN n 1)) _ _
        rw [if_neg hw, ← HRR.out]
        exact HBK2.out _ _ _ HO.out)

/-! ### texts -/
theorem enters_takeWord : Enters 59 := enters_of Tryz.func59 (by kernel_rfl) rfl
theorem enters_takeLemma : Enters 60 := enters_of Tryz.func60 (by kernel_rfl) rfl
theorem enters_takeLabel : Enters 61 := enters_of Tryz.func61 (by kernel_rfl) rfl
theorem textV_of (E : Env14) (lev k : Nat) (hI : InnerC E lev k) : VisitC E lev 3 (textV E) (El.textTake (Sg.keys E.t) k) := by
  refine visit_any E lev 3 El.tText _ _ _ (textTake_grows _ _) ?_
  rw [textTake_inner]
  refine takeC_gen E lev 3 El.tText _ _ E.bx E.mText _ _ (.inr ⟨rfl, fun S w1 hst => hst.mx⟩) (.inl ⟨_, rfl, enters_takeWord, takeWord_any E lev⟩) (fun x => ?_)
  unfold El.textRules Env14.mText
  by_cases h1 : x = El.tEd
  · rw [if_pos h1]
    exact ⟨_, by unfold look; rw [if_pos h1], .inl ⟨_, rfl, enters_takeLemma, takeLemma_any E lev k hI⟩⟩
  · rw [if_neg h1]
    by_cases h2 : x = El.tLabel
    · rw [if_pos h2]
      exact ⟨_, by unfold look; rw [if_neg h1]; unfold look; rw [if_pos h2], .inl ⟨_, rfl, enters_takeLabel, takeLabel_any E lev⟩⟩
    · rw [if_neg h2]
      simp [look, h1, h2]
theorem innerC_any (E : Env14) : ∀ k lev, lev + k = 65536 → InnerC E lev k
  | 0, lev, h => by
    obtain rfl : lev = 65536 := by omega
    exact innerC_zero E
  | k + 1, lev, h => innerC_succ E lev k (by omega) (textV_of E (lev + 1) k (innerC_any E k (lev + 1) (by omega)))
/-- the landed text, visited -/
theorem textV_visit (E : Env14) : VisitC E 0 3 (textV E) (El.textTake (Sg.keys E.t) El.deepest) := textV_of E 0 El.deepest (innerC_any E _ 0 (by unfold El.deepest; rfl))
end Go.Proofs.YtfjplhgajoehfaaGreatDoor

set_option linter.unusedVariables false
set_option linter.unusedSimpArgs false
namespace Go.Proofs.YtfjplhgajoehfaaGreatDoor
open Go.RowKit

section
variable {E : Env14} {S : Nat → Prop} {w1 : World} {lev d d' : Nat} {s : El.St} {K K' : Nat → Prop} {y : Dyn} {w w' : World}
theorem MkP.fin_ends (h : MkP E S w1 lev 3 s K y w) : MkP E S w1 lev 2 s (fun b => K b ∨ y.ve.ownBlock = some b) y w ∧ SlcK enC 1 (fun b => K b ∨ y.ve.ownBlock = some b) w y.ve s.ends := by
  refine ⟨h.fin (h.rows.fin_ends.less (fun b hb => ?_) (fun b hb => .inl hb)) (fun b hb => hb.imp id (h.ownOff (h.rows.ends (Nat.le_refl _)) (by decide) b)), ?_⟩
  · rcases hb with (h1 | h1) | h1
    · exact .inl (.inl h1)
    · exact .inr h1
    · exact .inl (.inr h1)
  · obtain ⟨rs, h1, h2⟩ := (h.rows.ends (Nat.le_refl _)).slcK okEn (K' := fun b => K b ∨ y.ve.ownBlock = some b) (fun b hb => .inl hb) (fun b hb => .inr hb)
    have e := h2.eq
    subst e
    exact h1
theorem MkP.fin_paras (h : MkP E S w1 lev 2 s K y w) : MkP E S w1 lev 1 s (fun b => K b ∨ y.vp.ownBlock = some b) y w ∧ ParasK (fun b => K b ∨ y.vp.ownBlock = some b) w y.vp s.paras := by
  refine ⟨h.fin (h.rows.fin_paras.less (fun b hb => ?_) (fun b hb => .inl hb)) (fun b hb => hb.imp id (h.ownOff (h.rows.paras (Nat.le_refl _)) (by decide) b)), ?_⟩
  · rcases hb with (h1 | h1) | h1
    · exact .inl (.inl h1)
    · exact .inr h1
    · exact .inl (.inr h1)
  · exact (h.rows.paras (Nat.le_refl _)).slcK okPa (K' := fun b => K b ∨ y.vp.ownBlock = some b) (fun b hb => .inl hb) (fun b hb => .inr hb)
theorem MkP.fin_side (h : MkP E S w1 lev 1 s K y w) : MkP E S w1 lev 0 s (fun b => K b ∨ y.vc.ownBlock = some b ∨ y.vw.ownBlock = some b ∨ y.vn.ownBlock = some b) y w ∧ (ChunksK (fun b => K b ∨ y.vc.ownBlock = some b ∨ y.vw.ownBlock = some b ∨ y.vn.ownBlock = some b) w y.vc s.chunks ∧ SlcK txC 1 (fun b => K b ∨ y.vc.ownBlock = some b ∨ y.vw.ownBlock = some b ∨ y.vn.ownBlock = some b) w y.vw s.words ∧ NotesK (fun b => K b ∨ y.vc.ownBlock = some b ∨ y.vw.ownBlock = some b ∨ y.vn.ownBlock = some b) w y.vn s.notes) := by
  have hr := h.rows
  refine ⟨h.fin (h.rows.fin_side.less (fun b hb => ?_) (fun b hb => .inl hb)) (fun b hb => ?_), ?_, ?_, ?_⟩
  · rcases hb with (h1 | h1) | h1
    · exact .inl (.inl h1)
    · exact .inr h1
    · exact .inl (.inr h1)
  · rcases hb with h1 | h1 | h1 | h1
    · exact .inl h1
    · exact .inr (h.ownOff (hr.chunks (Nat.le_refl _)) (by decide) b h1)
    · exact .inr (h.ownOff (hr.words (Nat.le_refl _)) (by decide) b h1)
    · exact .inr (h.ownOff (hr.notes (Nat.le_refl _)) (by decide) b h1)
  · exact (hr.chunks (Nat.le_refl _)).slcK okCh (fun b hb => .inl hb) (fun b hb => .inr (.inl hb))
  · obtain ⟨rs, h1, h2⟩ := (hr.words (Nat.le_refl _)).slcK okTx (K' := fun b => K b ∨ y.vc.ownBlock = some b ∨ y.vw.ownBlock = some b ∨ y.vn.ownBlock = some b) (fun b hb => .inl hb) (fun b hb => .inr (.inr (.inl hb)))
    have e := h2.eq
    subst e
    exact h1
  · exact (hr.notes (Nat.le_refl _)).slcK okNo (fun b hb => .inl hb) (fun b hb => .inr (.inr (.inr hb)))
theorem Rows14.num {B : Nat} {X : Nat → Prop} (h : Rows14 B d s K X y w) (m : Nat) : Rows14 B d { s with num := m } K X y w :=
  ⟨h.Klt, h.KX, h.few, h.sides, h.labels, h.chunks, h.words, h.notes, h.paras, h.ends, h.said⟩
theorem Rows14.startEnds {B : Nat} {X : Nat → Prop} (h : Rows14 B 2 s K X y w) : Rows14 B 3 { s with ends := [] } K X { y with ve := .slice Option.none 0 0 } w :=
  ⟨h.Klt, h.KX, h.few, h.sides, h.labels, fun _ => h.chunks (by omega), fun _ => h.words (by omega), fun _ => h.notes (by omega), fun _ => h.paras (by omega), fun _ => ownE_nil _ _ _ _ _, fun h => by omega⟩
theorem Rows14.startParas {B : Nat} {X : Nat → Prop} (h : Rows14 B 1 s K X y w) : Rows14 B 2 { s with paras := [] } K X { y with vp := .slice Option.none 0 0 } w :=
  ⟨h.Klt, h.KX, h.few, h.sides, h.labels, fun _ => h.chunks (by omega), fun _ => h.words (by omega), fun _ => h.notes (by omega), fun _ => ownE_nil _ _ _ _ _, fun h => by omega, fun h => by omega⟩
theorem Rows14.startSide {B : Nat} {X : Nat → Prop} (h : Rows14 B 0 s K X y w) : Rows14 B 1 { s with chunks := [], words := [], notes := [] } K X { y with vc := .slice Option.none 0 0, vw := .slice Option.none 0 0, vn := .slice Option.none 0 0 } w :=
  ⟨h.Klt, h.KX, Nat.zero_le _, h.sides, h.labels, fun _ => ownE_nil _ _ _ _ _, fun _ => ownE_nil _ _ _ _ _, fun _ => ownE_nil _ _ _ _ _, fun h => by omega, fun h => by omega, fun h => by omega⟩
end
theorem kPa_ne : 83 ≠ kPa.T := by decide
theorem kEn_ne : 83 ≠ kEn.T := by decide
theorem kCh_ne : 83 ≠ kCh.T := by decide
theorem kSd_ne : 83 ≠ kSd.T := by decide

set_option maxHeartbeats 4000000 in
set_option maxRecDepth 100000 in
theorem addPara_any (E : Env14) (S : Nat → Prop) (w1 : World) (lev : Nat) (v : Bool) (f : Nat) (s : El.St) (w : World) (hsz : El.sz s ≤ lim14) (hmk : MK E S w1 lev 3 s w) :
    Calls Tryz.prog 82 #[E.m, .agg #[.bool v, .int .i64 f, .int .i64 0, .slice none 0 0]] w (Done14 E S w1 lev 2 (El.addPara s v f)) := by
  obtain ⟨K1, y1, hp1⟩ := hmk
  obtain ⟨hp2, hsl⟩ := hp1.fin_ends
  obtain ⟨av, cv, hyv, _⟩ := (hp1.rows.ends (Nat.le_refl _)).len
  have c35 := hp1.c35
  have c36 := hp1.c36
  rw [hyv] at c35
  obtain ⟨W5, hW5⟩ : ∃ W5, W5 = w.alloc (.cells #[.bool v, .int .i64 f, .int .i64 0, .slice none 0 0] 54) := ⟨_, rfl⟩
  have hB5 : Below w.heap.size w W5 := by rw [hW5]; exact below_alloc _ _
  have hO5 : W5.heap[w.heap.size]? = some (.cells #[.bool v, .int .i64 f, .int .i64 0, .slice none 0 0] 54 (0, 0)) := by rw [hW5]; exact obj_new _ _ rfl _ _
  have d35 := cell_below hB5 c35
  have d36 := cell_below hB5 c36
  have g2 := Lib.frozen_of_heap hO5 2
  have g3 := Lib.frozen_of_heap hO5 3
  have e2 := mcell hO5 2 rfl
  have e3 := mcell hO5 3 rfl
  have hn2 : E.p ≠ w.heap.size := Nat.ne_of_lt hp1.p_lt
  have HB5 := Lib.hid hB5
  have HO5 := Lib.hid hO5
  have HP2 := Lib.hid hp2
  have HYV := Lib.hid hyv
  have HSL := Lib.hid hsl
  have HSZ := Lib.hid hsz
  clear hp1 hp2 hsl hyv hB5 hO5 c35 c36 hsz
  unfold Env14.m
  go_enter Tryz.func82, Tryz.ntmps82
  go_upto_region 1 with fail
  rw [← hW5]
  clear hW5
  go_cut [3] (fun nv wx => nv = .pointer (some ⟨w.heap.size, 0, none⟩) ∧ Hid (wx.heap[w.heap.size]? = some (.cells #[.bool v, .int .i64 f, .int .i64 s.num, .slice av s.ends.length cv] 54 (0, 0))) ∧ Hid (Below w.heap.size w wx))
  case first =>
    have HZ : Hid ((((W5.setCell ⟨w.heap.size, 3, none⟩ (.slice av s.ends.length cv)).setCell ⟨w.heap.size, 2, none⟩ (.int .i64 s.num)).drew).heap[w.heap.size]? = some (.cells #[.bool v, .int .i64 f, .int .i64 s.num, .slice av s.ends.length cv] 54 (0, 0))) := Lib.hid (by
      have h1 := heap_setCell_same W5 w.heap.size 3 _ _ (.slice av s.ends.length cv) HO5.out
      exact heap_setCell_same _ w.heap.size 2 _ _ (.int .i64 s.num) h1)
    have HZB : Hid (Below w.heap.size w (((W5.setCell ⟨w.heap.size, 3, none⟩ (.slice av s.ends.length cv)).setCell ⟨w.heap.size, 2, none⟩ (.int .i64 s.num)).drew)) := Lib.hid
      (((HB5.out.setCell (p := ⟨w.heap.size, 3, none⟩) (Nat.le_refl _) _).setCell (p := ⟨w.heap.size, 2, none⟩) (Nat.le_refl _) _).drew)
    go_region_law (fail)
    all_goals (
      go_wp2_with fail
      go_meet
      exact ⟨rfl, HZ, HZB⟩)
  case rest =>
    obtain ⟨rfl, HO8, HB8⟩ := hcut
    clear d35 d36 g2 g3 e2 e3 HB5 HO5
    have hp3 := HP2.out.mono HB8.out
    have c36 := hp3.c36
    have f36 := hp3.fr 36
    have hp4 := hp3.set (s' := { s with num := 0 }) (y' := y1) (lev' := lev) (hp3.rows.num 0) rfl 36 (.int .i64 0) rfl
    obtain ⟨wd, hwd⟩ : ∃ wd, wd = wc.setCell ⟨E.p, 36, none⟩ (.int .i64 0) := ⟨_, rfl⟩
    rw [← hwd] at hp4
    have HO9 := Lib.hid ((show wd.heap[w.heap.size]? = some (.cells #[.bool v, .int .i64 f, .int .i64 s.num, .slice av s.ends.length cv] 54 (0, 0)) by rw [hwd]; exact obj_set HO8.out hn2.symm))
    have HBK := Lib.hid (fun b (hb : K1 b ∨ y1.ve.ownBlock = some b) => (show wd.heap[b]? = w.heap[b]? by rw [hwd, Below.heap_setCell wc ⟨E.p, 36, none⟩ _ b (fun e => hp3.Kp (by have e2 : b = E.p := e; rw [← e2]; exact hb))]; exact HB8.out.block b (HP2.out.Klt hb)))
    obtain ⟨an, cn, hyn, _⟩ := (hp4.rows.paras (by omega)).len
    have c34 := hp4.c34
    rw [hyn] at c34
    have e0 := mcell HO9.out 0 rfl
    have e1 := mcell HO9.out 1 rfl
    have e2 := mcell HO9.out 2 rfl
    have e3 := mcell HO9.out 3 rfl
    have hbA := below_alloc wd (.cells #[.bool v, .int .i64 f, .int .i64 s.num, .slice av s.ends.length cv] 54)
    have k34 := cell_below hbA c34
    have hbB := below_step hbA (below_drew9 _)
    have hp5 := hp4.mono hbB
    have HP5 := Lib.hid hp5
    have hon := hp5.rows.paras (by omega)
    rw [hyn] at hon
    have HOW := Lib.hid hon
    have HYN := Lib.hid hyn
    have hmv : ∀ v0, v0 = y1.ve → SlcK enC 1 (fun b => K1 b ∨ y1.ve.ownBlock = some b) (wd.alloc (.cells #[.bool v, .int .i64 f, .int .i64 s.num, .slice av s.ends.length cv] 54)).drew v0 s.ends := by
      rintro v0 rfl
      exact HSL.out.move (fun b hb => stays_block ((hbB.block b (hp4.Klt hb)).trans (HBK.out b hb))) (fun _ h => h)
    have HR4 : Hid (ParaK (fun b => K1 b ∨ y1.ve.ownBlock = some b) (wd.alloc (.cells #[.bool v, .int .i64 f, .int .i64 s.num, .slice av s.ends.length cv] 54)).drew ⟨v, f, s.num, ⟨av, s.ends.length, cv⟩⟩ ⟨v, f, s.num, s.ends⟩) := Lib.hid ⟨rfl, rfl, rfl, hmv _ HYV.out.symm⟩
    have HSR := Lib.hid (src_new (w := wd) (T := 54) (f := paC) (r := ⟨v, f, s.num, ⟨av, s.ends.length, cv⟩⟩) (cs := #[.bool v, .int .i64 f, .int .i64 s.num, .slice av s.ends.length cv]) rfl)
    have HLN : Hid (s.paras.length ≤ 1000000000000) := Lib.hid (by
      have h1 : s.paras.length ≤ El.sz s := by unfold El.sz; omega
      have h2 := HSZ.out
      unfold lim14 at h2
      omega)
    clear hp3 hp4 hbA hbB hp5 hon hyn hmv hn2
    go_upto_region 3 with fail
    rw [← hwd]
    clear hwd c36 f36
    go_region_law (first
      | (refine step_push14 okPa (by rfl) _ _ (by rfl) E.w0.heap.size _ _ (.slice an s.paras.length cn) s.paras ⟨v, f, s.num, ⟨av, s.ends.length, cv⟩⟩ ⟨v, f, s.num, s.ends⟩ wd.heap.size (by rfl) (by rfl) HOW.out HSR.out HR4.out HLN.out HP5.out.below.size HP5.out.rows.Klt HP5.out.rows.KX ?_; intro g9 cap9 w9 ho9 hg9; have hb9 := HP5.out.objFar HOW.out hg9 kPa_ne; have c9 : w9.cell? ⟨E.p, 34, none⟩ = some y1.vp := mcell hb9 34 rfl; have f9 : w9.frozen? ⟨E.p, 34, none⟩ = false := Lib.frozen_of_heap hb9 34))
    all_goals (
      have HP := Lib.hid (HP5.out.push hg9 HOW.out rfl kPa_ne (HP5.out.rows.push_paras (by omega) (by rw [HYN.out]; exact hg9) ho9) rfl 34 (.slice (some ⟨g9, 0, none⟩) (s.paras.length + 1) cap9) rfl)
      clear ho9 hg9 hb9
      go_wp2
      go_end0
      exact ⟨rfl, _, _, HP.out⟩)
end Go.Proofs.YtfjplhgajoehfaaGreatDoor

set_option linter.unusedVariables false
set_option linter.unusedSimpArgs false
namespace Go.Proofs.YtfjplhgajoehfaaGreatDoor
open Go.RowKit

set_option maxHeartbeats 4000000 in
set_option maxRecDepth 100000 in
theorem takeLine_any (E : Env14) : OpA E 0 3 58 (fun v => #[E.m, v]) (fun l => l = 1) (El.lineOp (Sg.keys E.t) El.deepest) := by
  intro S w1 hst n va s w hva har hsz hmk
  obtain ⟨b0, o0, cp0, vg, rfl, hc0, hn0⟩ := args_get hva (i := 0) (by omega)
  have hls := node_size n (i := 0) (by omega)
  rw [Nat.add_zero] at hc0
  have hn0 : NodesAt E.w0 (fun _ => True) vg (El.argN n 0) := hn0
  obtain ⟨wb, hwb⟩ : ∃ wb, wb = w.alloc (.cells #[.bool (El.isCmd n), .string (str (El.text n)), .slice (some ⟨b0, o0, none⟩) (El.args n).length cp0, .int .i64 (El.loc n)] 89) := ⟨_, rfl⟩
  have hb : Below w.heap.size w wb := by rw [hwb]; exact below_alloc _ _
  have hbx : wb.heap[w.heap.size]? = some (.cells #[.bool (El.isCmd n), .string (str (El.text n)), .slice (some ⟨b0, o0, none⟩) (El.args n).length cp0, .int .i64 (El.loc n)] 89 (0, 0)) := by rw [hwb]; exact obj_new _ _ rfl _ _
  have hse := hst.enter hmk hb
  have hinS : Plus S w wb w.heap.size := .inr ⟨Nat.le_refl _, by rw [hwb, World.size_alloc]; omega⟩
  have hme := hmk.enter hb
  have HBK := Lib.hid (fun lev' d' s' w2 (h : MK E (Plus S w wb) wb lev' d' s' w2) => hmk.back hb h)
  have HKX := Lib.hid (fun lev' d' s' w2 (h : MK E (Plus S w wb) wb lev' d' s' w2) => h.kept hinS hbx)
  have HW := Lib.hid (words_any E _ _ 0 3 (by omega) s wb hme)
  have hmd := hme.mono (below_drew9 wb)
  obtain ⟨K, y, hP1⟩ := hme
  have hbxc := hbx
  have HV := Lib.hid (textV_visit E _ _ hse _ vg s wb.drew hn0 (by omega) hmd)
  have c_0 := hP1.c12
  have c_1 := hP1.c13
  have c_2 := hP1.c14
  have z0 := cell_below hP1.below hc0
  have b2 := mcell hbxc 2 rfl
  have har2 : (0 : Int) < ((El.args n).length : Int) := by omega
  have har3 : 0 < (El.args n).length := by omega
  have HGR := Lib.hid (fun s1 (h : El.visit (El.textTake (Sg.keys E.t) El.deepest) s (El.argN n 0) = .ok s1) => (by have h9 := El.visit_grows (textTake_grows _ _) _ _ _ h; omega : El.sz s1 ≤ lim14))
  show Calls _ _ #[E.m, ndV n (.slice (some ⟨b0, o0, none⟩) (El.args n).length cp0)] _ (Out14 E S w1 0 3 ((El.visit (El.textTake (Sg.keys E.t) El.deepest) s (El.argN n 0)).then (fun s1 => if s1.words.length = s.words.length then .bad 144 (El.loc n) else .ok { s1 with ends := s1.ends ++ [s1.words.length] })))
  change Hid (Calls _ _ _ _ (Out14 E _ _ 0 3 (El.visit (El.textTake (Sg.keys E.t) El.deepest) s (El.argN n 0)))) at HV
  generalize El.visit (El.textTake (Sg.keys E.t) El.deepest) s (El.argN n 0) = r at *
  obtain ⟨⟨pl, cl, rfl, _⟩, _, _⟩ := hn0
  have HR := Lib.hid (fun e w' (h : Out14 E (Plus S w wb) wb 0 3 r e w') => h.ret)
  have q1 := err_nil
  have q2 := err_some
  generalize (El.argN n 0).length = l0 at *
  generalize (El.args n).length = la at *
  clear hb hst hmk hsz hva har hbx hc0 hls hse hinS hmd hP1 hbxc 
  unfold textV at HV
  try unfold Env14.mf at c_1
  try unfold Env14.mf at HV
  unfold Env14.m ndV at *
  go_enter Tryz.func58, Tryz.ntmps58
  go_upto_region 1 with fail
  rw [← hwb]
  clear hwb
  go_wp2_with fail
  refine HW.out.mono ?_
  rintro e w2 ⟨rfl, rfl⟩
  clear HW
  go_upto_region 2 with fail
  go_cut [6] (fun ev wx => ∃ v7, ev = v7 ∧ Hid (Out14 E (Plus S w wb) wb 0 3 r (.returned v7) wx))
  case first =>
    go_region_law (first
      | (go_simp; go_at_call 42; refine HV.out.mono ?_; intro e w7 ho; obtain ⟨v7, rfl⟩ := HR.out _ _ ho; have HO := Lib.hid ho; clear ho))
    all_goals (
      go_wp2_with fail
      go_meet
      exact ⟨_, rfl, HO⟩)
  case rest =>
    obtain ⟨v7, rfl, HO⟩ := hcut
    obtain ⟨wd, hwd⟩ : ∃ wd, wd = wc := ⟨_, rfl⟩
    subst hwd
    clear c_0 c_1 c_2 z0 b2 HV HR
    cases r with
    | bad c a =>
      obtain ⟨ns, ev, s2, he0, he, hm2⟩ := HO.out
      injection he0 with he0
      subst he0
      obtain ⟨T, x, rfl⟩ := he.iface
      have HE := Lib.hid he
      have HM := Lib.hid (HBK.out _ _ _ _ hm2)
      clear he hm2 HO
      go_wp2
      go_ret
      exact ⟨ns, _, s2, rfl, HE.out, HM.out⟩
    | ok s1 =>
      obtain ⟨he0, hm⟩ := HO.out
      injection he0 with he0
      subst he0
      have hbxc := HKX.out _ _ _ _ hm
      have HM := Lib.hid hm
      have HSZ := Lib.hid (HGR.out s1 rfl)
      obtain ⟨K1, y1, hp1⟩ := hm
      have b3 := mcell hbxc 3 rfl
      have HF := Lib.hid (fail_out (d := 3) ((HBK.out _ _ _ _ HM.out).down (Nat.le_refl _)) (fail_any 144 (El.loc n) wd))
      obtain ⟨aw, cw, hyw, _⟩ := (hp1.rows.words (by omega)).len
      have c32 := hp1.c32
      rw [hyw] at c32
      have HWD := Lib.hid (words_cell E.p aw s1.words.length cw wd c32)
      by_cases hw : s1.words.length = s.words.length
      · rw [hw] at HWD
        clear hbxc hp1 hyw c32
        go_wp2_with fail
        refine HWD.out.mono ?_
        rintro e w3 ⟨rfl, rfl⟩
        clear HWD
        go_wp2_with fail
        refine HF.out.mono ?_
        rintro e w3 ⟨ns, v, s2, rfl, he, hm3⟩
        have HE := Lib.hid he
        have HM3 := Lib.hid hm3
        clear he hm3 HF b3
        go_wp2
        go_ret
        show Out14 E S w1 0 3 (if s1.words.length = s.words.length then .bad 144 (El.loc n) else .ok { s1 with ends := s1.ends ++ [s1.words.length] }) _ _
        rw [if_pos hw]
        exact ⟨ns, v, s2, rfl, HE.out, HM3.out⟩
      · have hw2 : ¬ ((s1.words.length : Int) = (s.words.length : Int)) := by omega
        have HWE := Lib.hid (words_cell E.p aw s1.words.length cw wd.drew c32)
        obtain ⟨ae, ce, hye, _⟩ := (hp1.rows.ends (by omega)).len
        have c35 := hp1.c35
        rw [hye] at c35
        have hbA := below_alloc wd (.cells #[.int .i64 s1.words.length] 3)
        have k35 := cell_below hbA c35
        have hp4 := hp1.mono (below_step hbA (below_drew9 _))
        have HP4 := Lib.hid hp4
        have hon := hp4.rows.ends (by omega)
        rw [hye] at hon
        have HOW := Lib.hid hon
        have HYN := Lib.hid hye
        have HSR := Lib.hid (src_new (w := wd) (T := 3) (f := enC) (r := s1.words.length) (cs := #[.int .i64 s1.words.length]) rfl)
        have HLN : Hid (s1.ends.length ≤ 1000000000000) := Lib.hid (by
          have h1 : s1.ends.length ≤ El.sz s1 := by unfold El.sz; omega
          have h2 := HSZ.out
          unfold lim14 at h2
          omega)
        clear hp1 hbA hp4 hon hye hyw hbxc HF b3
        go_wp2_with fail
        refine HWD.out.mono ?_
        rintro e w3 ⟨rfl, rfl⟩
        clear HWD
        go_upto_region 7 with fail
        go_region_law (first
          | (go_simp; go_at_call 81; refine HWE.out.mono ?_; rintro e w7 ⟨rfl, rfl⟩)
          | (refine step_push14 okEn (by rfl) _ _ (by rfl) E.w0.heap.size _ _ (.slice ae s1.ends.length ce) s1.ends s1.words.length s1.words.length wd.heap.size (by rfl) (by rfl) HOW.out HSR.out rfl HLN.out HP4.out.below.size HP4.out.rows.Klt HP4.out.rows.KX ?_; intro g9 cap9 w9 ho9 hg9; have hb9 := HP4.out.objFar HOW.out hg9 kEn_ne; have c9 : w9.cell? ⟨E.p, 35, none⟩ = some y1.ve := mcell hb9 35 rfl; have f9 : w9.frozen? ⟨E.p, 35, none⟩ = false := Lib.frozen_of_heap hb9 35))
        all_goals (
          have HP := Lib.hid (HP4.out.push hg9 HOW.out rfl kEn_ne (HP4.out.rows.push_ends (by omega) (by rw [HYN.out]; exact hg9) ho9) rfl 35 (.slice (some ⟨g9, 0, none⟩) (s1.ends.length + 1) cap9) rfl)
          clear ho9 hg9 hb9
          go_wp2
          go_ret
          show Out14 E S w1 0 3 (if s1.words.length = s.words.length then .bad 144 (El.loc n) else .ok { s1 with ends := s1.ends ++ [s1.words.length] }) _ _
          rw [if_neg hw]
          exact ⟨rfl, HBK.out _ _ _ _ ⟨_, _, HP.out⟩⟩)
end Go.Proofs.YtfjplhgajoehfaaGreatDoor

set_option linter.unusedVariables false
set_option linter.unusedSimpArgs false
namespace Go.Proofs.YtfjplhgajoehfaaGreatDoor
open Go.RowKit

def stanzaV (E : Env14) : Value := .agg #[.string (str nmStanza), .nilFunc, .map (some E.bt)]
theorem node_size3 (n : El.Nd) {i : Nat} (hi : i < (El.args n).length) : El.sizeL (El.argN n i) + 2 ≤ El.sizeN n := by
  obtain ⟨c, x, args, a⟩ := n
  have h : El.sizeL (args.getD i []) + 1 ≤ El.sizeA args := by
    change i < args.length at hi
    induction args generalizing i with
    | nil => simp at hi
    | cons g gs ih =>
      cases i with
      | zero => simp only [List.getD_cons_zero, El.sizeA]; omega
      | succ k =>
        have := ih (i := k) (by simpa using hi)
        simp only [List.getD_cons_succ, El.sizeA]
        omega
  show El.sizeL (args.getD i []) + 2 ≤ El.sizeN (.mk c x args a)
  unfold El.sizeN
  omega
theorem lineOp_grows {t : List (List UInt8)} {k : Nat} {s : El.St} {n : El.Nd} {s' : El.St} (hk : (El.args n).length = 1) (h : El.lineOp t k s n = .ok s') : El.sz s' + 1 ≤ El.sz s + El.sizeN n := by
  unfold El.lineOp at h
  cases hv : El.visit (El.textTake t k) s (El.argN n 0) with
  | bad c a => rw [hv] at h; cases h
  | ok s1 =>
    rw [hv] at h
    simp only [El.Res.then] at h
    split at h
    · cases h
    · cases h
      have h1 := El.visit_grows (textTake_grows t k) _ _ _ hv
      have h2 := node_size3 n (i := 0) (by omega)
      have h4 : El.sz { s1 with ends := s1.ends ++ [s1.words.length] } = El.sz s1 + 1 := by unfold El.sz; simp only [List.length_append, List.length_singleton]; omega
      omega
theorem stanzaTake_grows (t : List (List UInt8)) (k : Nat) : Grows (El.stanzaTake t k) := by
  refine take_grows (fun f hf => by cases hf) (fun x j f h s n s' hk e => ?_)
  unfold El.stanzaRules at h
  split at h
  · cases h
    have := lineOp_grows hk e
    omega
  · cases h
theorem enters_takeLine : Enters 58 := enters_of Tryz.func58 (by kernel_rfl) rfl
theorem stanzaV_visit (E : Env14) : VisitC E 0 3 (stanzaV E) (El.stanzaTake (Sg.keys E.t) El.deepest) := by
  refine visit_any E 0 3 nmStanza _ _ _ (stanzaTake_grows _ _) ?_
  refine takeC_gen E 0 3 nmStanza _ _ E.bt E.mStanza _ _ (.inr ⟨rfl, fun S w1 hst => hst.mt⟩) rfl (fun x => ?_)
  unfold El.stanzaRules Env14.mStanza
  by_cases h1 : x = El.tL
  · rw [if_pos h1]
    exact ⟨_, by unfold look; rw [if_pos h1], .inl ⟨_, rfl, enters_takeLine, takeLine_any E⟩⟩
  · rw [if_neg h1]
    simp [look, h1]
theorem sz_ends (s : El.St) : El.sz { s with ends := [] } ≤ El.sz s := by unfold El.sz; simp only [List.length_nil]; omega
theorem sz_paras (s : El.St) : El.sz { s with paras := [], num := 0 } ≤ El.sz s := by unfold El.sz; simp only [List.length_nil]; omega
theorem sz_side (s : El.St) : El.sz { s with chunks := [], words := [], notes := [] } ≤ El.sz s := by unfold El.sz; simp only [List.length_nil]; omega
theorem addPara_sz (s : El.St) (v : Bool) (f : Nat) : El.sz (El.addPara s v f) = El.sz s + 1 := by unfold El.sz El.addPara; simp only [List.length_append, List.length_singleton]; omega

set_option maxHeartbeats 4000000 in
set_option maxRecDepth 100000 in
theorem takeProse_any (E : Env14) : OpA E 0 2 55 (fun v => #[E.m, v]) (fun l => l = 1) (El.proseOp (Sg.keys E.t) El.deepest) := by
  intro S w1 hst n va s w hva har hsz hmk
  have hva2 := hva
  obtain ⟨⟨pa, ca, rfl, _⟩, _, _⟩ := hva2
  obtain ⟨wb, hwb⟩ : ∃ wb, wb = w.alloc (.cells #[.bool (El.isCmd n), .string (str (El.text n)), .slice pa (El.args n).length ca, .int .i64 (El.loc n)] 89) := ⟨_, rfl⟩
  have hb : Below w.heap.size w wb := by rw [hwb]; exact below_alloc _ _
  have hbx : wb.heap[w.heap.size]? = some (.cells #[.bool (El.isCmd n), .string (str (El.text n)), .slice pa (El.args n).length ca, .int .i64 (El.loc n)] 89 (0, 0)) := by rw [hwb]; exact obj_new _ _ rfl _ _
  have hse := hst.enter hmk hb
  have hinS : Plus S w wb w.heap.size := .inr ⟨Nat.le_refl _, by rw [hwb, World.size_alloc]; omega⟩
  have hme := hmk.enter hb
  have HBK := Lib.hid (fun lev' d' s' w2 (h : MK E (Plus S w wb) wb lev' d' s' w2) => hmk.back hb h)
  have HW := Lib.hid (words_any E _ _ 0 2 (by omega) s wb hme)
  obtain ⟨K, y, hP⟩ := hme
  have f35 := hP.fr 35
  have m35 := hP.c35
  have hP1 := hP.set (s' := { s with ends := [] }) (y' := { y with ve := .slice none 0 0 }) (lev' := 0) hP.rows.startEnds rfl 35 (.slice none 0 0) rfl
  obtain ⟨wz, hwz⟩ : ∃ wz, wz = wb.setCell ⟨E.p, 35, none⟩ (.slice none 0 0) := ⟨_, rfl⟩
  rw [← hwz] at hP1
  have hbxc := MK.kept ⟨_, _, hP1⟩ hinS hbx
  have hszs := sz_ends s
  have HL := Lib.hid (takeLine_any E _ _ hse n _ { s with ends := [] } wz hva har (by omega) ⟨_, _, hP1⟩)
  have HGR := Lib.hid (fun s1 (h : El.lineOp (Sg.keys E.t) El.deepest { s with ends := [] } n = .ok s1) => (by have h9 := lineOp_grows har h; omega : El.sz s1 ≤ lim14))
  have b0 := mcell hbxc 0 rfl
  have b1 := mcell hbxc 1 rfl
  have b2 := mcell hbxc 2 rfl
  have b3 := mcell hbxc 3 rfl
  show Calls _ _ #[E.m, ndV n (.slice pa (El.args n).length ca)] _ (Out14 E S w1 0 2 ((El.lineOp (Sg.keys E.t) El.deepest { s with ends := [] } n).then (fun s1 => .ok (El.addPara s1 false s.words.length))))
  generalize El.lineOp (Sg.keys E.t) El.deepest { s with ends := [] } n = r at *
  have HR := Lib.hid (fun e w' (h : Out14 E (Plus S w wb) wb 0 3 r e w') => h.ret)
  have q1 := err_nil
  have q2 := err_some
  generalize (El.args n).length = la at *
  clear hb hst hmk hsz hva har hbx hse hinS hP hP1 hbxc hszs
  unfold Env14.m ndV at *
  go_enter Tryz.func55, Tryz.ntmps55
  go_upto_region 1 with fail
  rw [← hwb]
  clear hwb
  go_wp2_with fail
  refine HW.out.mono ?_
  rintro e w2 ⟨rfl, rfl⟩
  clear HW
  go_upto_region 3 with fail
  rw [← hwz]
  clear hwz m35 f35
  go_wp2_with fail
  refine HL.out.mono ?_
  intro e w7 ho
  clear HL b0 b1 b2 b3
  cases r with
  | bad c a =>
    obtain ⟨ns, ev, s2, rfl, he, hm2⟩ := ho
    obtain ⟨T, x, rfl⟩ := he.iface
    have HE := Lib.hid he
    have HM := Lib.hid (HBK.out _ _ _ _ hm2)
    clear he hm2
    go_wp2
    go_ret
    exact ⟨ns, _, s2, rfl, HE.out, HM.out⟩
  | ok s1 =>
    obtain ⟨rfl, hm⟩ := ho
    have HAP := Lib.hid (addPara_any E _ _ 0 false s.words.length s1 w7 (HGR.out s1 rfl) hm)
    unfold Env14.m at HAP
    clear hm
    go_wp2_with fail
    refine HAP.out.mono ?_
    rintro e w8 ⟨rfl, hm8⟩
    have HM8 := Lib.hid (HBK.out _ _ _ _ hm8)
    clear hm8 HAP
    go_wp2
    go_ret
    exact ⟨rfl, HM8.out⟩
set_option maxHeartbeats 4000000 in
set_option maxRecDepth 100000 in
theorem takeVerse_any (E : Env14) : OpA E 0 2 56 (fun v => #[E.m, v]) (fun l => l = 1) (El.verseOp (Sg.keys E.t) El.deepest) := by
  intro S w1 hst n va s w hva har hsz hmk
  obtain ⟨b0, o0, cp0, vg, rfl, hc0, hn0⟩ := args_get hva (i := 0) (by omega)
  have hls := node_size n (i := 0) (by omega)
  rw [Nat.add_zero] at hc0
  have hn0 : NodesAt E.w0 (fun _ => True) vg (El.argN n 0) := hn0
  obtain ⟨wb, hwb⟩ : ∃ wb, wb = w.alloc (.cells #[.bool (El.isCmd n), .string (str (El.text n)), .slice (some ⟨b0, o0, none⟩) (El.args n).length cp0, .int .i64 (El.loc n)] 89) := ⟨_, rfl⟩
  have hb : Below w.heap.size w wb := by rw [hwb]; exact below_alloc _ _
  have hbx : wb.heap[w.heap.size]? = some (.cells #[.bool (El.isCmd n), .string (str (El.text n)), .slice (some ⟨b0, o0, none⟩) (El.args n).length cp0, .int .i64 (El.loc n)] 89 (0, 0)) := by rw [hwb]; exact obj_new _ _ rfl _ _
  have hse := hst.enter hmk hb
  have hinS : Plus S w wb w.heap.size := .inr ⟨Nat.le_refl _, by rw [hwb, World.size_alloc]; omega⟩
  have hme := hmk.enter hb
  have HBK := Lib.hid (fun lev' d' s' w2 (h : MK E (Plus S w wb) wb lev' d' s' w2) => hmk.back hb h)
  have HKX := Lib.hid (fun lev' d' s' w2 (h : MK E (Plus S w wb) wb lev' d' s' w2) => h.kept hinS hbx)
  have HW := Lib.hid (words_any E _ _ 0 2 (by omega) s wb hme)
  obtain ⟨K, y, hP⟩ := hme
  have f35 := hP.fr 35
  have m35 := hP.c35
  have hP1 := hP.set (s' := { s with ends := [] }) (y' := { y with ve := .slice none 0 0 }) (lev' := 0) hP.rows.startEnds rfl 35 (.slice none 0 0) rfl
  obtain ⟨wz, hwz⟩ : ∃ wz, wz = wb.setCell ⟨E.p, 35, none⟩ (.slice none 0 0) := ⟨_, rfl⟩
  rw [← hwz] at hP1
  have hmd := MK.mono ⟨_, _, hP1⟩ (below_drew9 wz)
  have hszs := sz_ends s
  have hbxc := MK.kept ⟨_, _, hP1⟩ hinS hbx
  have HV := Lib.hid (stanzaV_visit E _ _ hse _ vg { s with ends := [] } wz.drew hn0 (by omega) hmd)
  have c_0 := hP1.c9
  have c_1 := hP1.c10
  have c_2 := hP1.c11
  have z0 := cell_below hP1.below hc0
  have b2 := mcell hbxc 2 rfl
  have har2 : (0 : Int) < ((El.args n).length : Int) := by omega
  have har3 : 0 < (El.args n).length := by omega
  have HGR := Lib.hid (fun s1 (h : El.visit (El.stanzaTake (Sg.keys E.t) El.deepest) { s with ends := [] } (El.argN n 0) = .ok s1) => (by have h9 := El.visit_grows (stanzaTake_grows _ _) _ _ _ h; omega : El.sz s1 ≤ lim14))
  show Calls _ _ #[E.m, ndV n (.slice (some ⟨b0, o0, none⟩) (El.args n).length cp0)] _ (Out14 E S w1 0 2 ((El.visit (El.stanzaTake (Sg.keys E.t) El.deepest) { s with ends := [] } (El.argN n 0)).then (fun s1 => if s1.ends = [] then .bad 144 (El.loc n) else .ok (El.addPara s1 true s.words.length))))
  change Hid (Calls _ _ _ _ (Out14 E _ _ 0 3 (El.visit (El.stanzaTake (Sg.keys E.t) El.deepest) { s with ends := [] } (El.argN n 0)))) at HV
  generalize El.visit (El.stanzaTake (Sg.keys E.t) El.deepest) { s with ends := [] } (El.argN n 0) = r at *
  obtain ⟨⟨pl, cl, rfl, _⟩, _, _⟩ := hn0
  have HR := Lib.hid (fun e w' (h : Out14 E (Plus S w wb) wb 0 3 r e w') => h.ret)
  have q1 := err_nil
  have q2 := err_some
  generalize (El.argN n 0).length = l0 at *
  generalize (El.args n).length = la at *
  clear hb hst hmk hsz hva har hbx hc0 hls hse hinS hmd hP1 hbxc hP hszs
  unfold stanzaV at HV
  try unfold Env14.mf at c_1
  try unfold Env14.mf at HV
  unfold Env14.m ndV at *
  go_enter Tryz.func56, Tryz.ntmps56
  go_upto_region 1 with fail
  rw [← hwb]
  clear hwb
  go_wp2_with fail
  refine HW.out.mono ?_
  rintro e w2 ⟨rfl, rfl⟩
  clear HW
  go_upto_region 3 with fail
  rw [← hwz]
  clear hwz m35 f35
  go_cut [6] (fun ev wx => ∃ v7, ev = v7 ∧ Hid (Out14 E (Plus S w wb) wb 0 3 r (.returned v7) wx))
  case first =>
    go_region_law (first
      | (go_simp; go_at_call 42; refine HV.out.mono ?_; intro e w7 ho; obtain ⟨v7, rfl⟩ := HR.out _ _ ho; have HO := Lib.hid ho; clear ho))
    all_goals (
      go_wp2_with fail
      go_meet
      exact ⟨_, rfl, HO⟩)
  case rest =>
    obtain ⟨v7, rfl, HO⟩ := hcut
    obtain ⟨wd, hwd⟩ : ∃ wd, wd = wc := ⟨_, rfl⟩
    subst hwd
    clear c_0 c_1 c_2 z0 b2 HV HR
    cases r with
    | bad c a =>
      obtain ⟨ns, ev, s2, he0, he, hm2⟩ := HO.out
      injection he0 with he0
      subst he0
      obtain ⟨T, x, rfl⟩ := he.iface
      have HE := Lib.hid he
      have HM := Lib.hid (HBK.out _ _ _ _ hm2)
      clear he hm2 HO
      go_wp2
      go_ret
      exact ⟨ns, _, s2, rfl, HE.out, HM.out⟩
    | ok s1 =>
      obtain ⟨he0, hm⟩ := HO.out
      injection he0 with he0
      subst he0
      have hbxc := HKX.out _ _ _ _ hm
      have HM := Lib.hid hm
      have HSZ := Lib.hid (HGR.out s1 rfl)
      obtain ⟨K1, y1, hp1⟩ := hm
      have b3 := mcell hbxc 3 rfl
      have HF := Lib.hid (fail_out (d := 2) ((HBK.out _ _ _ _ HM.out).down (Nat.le_succ _)) (fail_any 144 (El.loc n) wd))
      obtain ⟨ae, ce, hye, _⟩ := (hp1.rows.ends (by omega)).len
      have ck := hp1.c35
      rw [hye] at ck
      by_cases hw : s1.ends = []
      · have hwn : s1.ends.length = 0 := by rw [hw]; rfl
        rw [hwn] at ck
        clear hbxc hp1 hye
        go_wp2_with fail
        clear ck
        refine HF.out.mono ?_
        rintro e w3 ⟨ns, v, s2, rfl, he, hm3⟩
        have HE := Lib.hid he
        have HM3 := Lib.hid hm3
        clear he hm3 HF b3
        go_wp2
        go_ret
        show Out14 E S w1 0 2 (if s1.ends = [] then .bad 144 (El.loc n) else .ok (El.addPara s1 true s.words.length)) _ _
        rw [if_pos hw]
        exact ⟨ns, v, s2, rfl, HE.out, HM3.out⟩
      · have hw2 : ¬ ((s1.ends.length : Int) = 0) := fun h => hw (List.eq_nil_of_length_eq_zero (by omega))
        have HAP := Lib.hid (addPara_any E _ _ 0 true s.words.length s1 wd HSZ.out HM.out)
        unfold Env14.m at HAP
        clear hp1 hye hbxc HF b3
        go_wp2_with fail
        refine HAP.out.mono ?_
        rintro e w8 ⟨rfl, hm8⟩
        have HM8 := Lib.hid (HBK.out _ _ _ _ hm8)
        clear hm8 HAP ck
        go_wp2
        go_ret
        show Out14 E S w1 0 2 (if s1.ends = [] then .bad 144 (El.loc n) else .ok (El.addPara s1 true s.words.length)) _ _
        rw [if_neg hw]
        exact ⟨rfl, HM8.out⟩
end Go.Proofs.YtfjplhgajoehfaaGreatDoor
