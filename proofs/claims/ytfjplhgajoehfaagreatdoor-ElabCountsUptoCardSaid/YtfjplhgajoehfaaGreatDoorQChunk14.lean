/-
  The landed takeChunk: paragraphs of a chunk.
-/
import Derived.Test.YtfjplhgajoehfaaGreatDoorQSet14
set_option linter.unusedVariables false
set_option linter.unusedSimpArgs false
namespace Go.Proofs.YtfjplhgajoehfaaGreatDoor
open Go.RowKit

theorem proseOp_grows {t : List (List UInt8)} {k : Nat} {s : El.St} {n : El.Nd} {s' : El.St} (hk : (El.args n).length = 1) (h : El.proseOp t k s n = .ok s') : El.sz s' ≤ El.sz s + El.sizeN n := by
  unfold El.proseOp at h
  cases hv : El.lineOp t k { s with ends := [] } n with
  | bad c a => rw [hv] at h; cases h
  | ok s1 =>
    rw [hv] at h
    cases h
    have h1 := lineOp_grows hk hv
    have h2 := sz_ends s
    rw [addPara_sz]
    omega
theorem verseOp_grows {t : List (List UInt8)} {k : Nat} {s : El.St} {n : El.Nd} {s' : El.St} (hk : (El.args n).length = 1) (h : El.verseOp t k s n = .ok s') : El.sz s' ≤ El.sz s + El.sizeN n := by
  unfold El.verseOp at h
  cases hv : El.visit (El.stanzaTake t k) { s with ends := [] } (El.argN n 0) with
  | bad c a => rw [hv] at h; cases h
  | ok s1 =>
    rw [hv] at h
    simp only [El.Res.then] at h
    split at h
    · cases h
    · cases h
      have h1 := El.visit_grows (stanzaTake_grows t k) _ _ _ hv
      have h2 := sz_ends s
      have h3 := node_size n (i := 0) (by omega)
      rw [addPara_sz]
      omega
theorem setOp_grows {s : El.St} {n : El.Nd} {s' : El.St} (h : El.setOp s n = .ok s') : El.sz s' ≤ El.sz s + El.sizeN n := by
  unfold El.setOp at h
  cases hs : El.single n with
  | bad c a => rw [hs] at h; cases h
  | word x =>
    rw [hs] at h
    simp only [El.One.then] at h
    split at h
    · cases h
    · cases h
      show El.sz s ≤ _
      omega
theorem chunkTake_grows (t : List (List UInt8)) (k : Nat) : Grows (El.chunkTake t k) := by
  refine take_grows (fun f hf => by cases hf) (fun x j f h s n s' hk e => ?_)
  unfold El.chunkRules at h
  split at h
  · cases h; exact proseOp_grows hk e
  · split at h
    · cases h; exact verseOp_grows hk e
    · split at h
      · cases h; exact setOp_grows e
      · cases h
def chunkV (E : Env14) : Value := .agg #[.string (str El.tChunk), .nilFunc, .map (some E.bc)]
theorem enters_takeProse : Enters 55 := enters_of Tryz.func55 (by kernel_rfl) rfl
theorem enters_takeVerse : Enters 56 := enters_of Tryz.func56 (by kernel_rfl) rfl
theorem enters_takeSet : Enters 57 := enters_of Tryz.func57 (by kernel_rfl) rfl
theorem chunkV_visit (E : Env14) (hL : LibEnv E.w0) : VisitC E 0 2 (chunkV E) (El.chunkTake (Sg.keys E.t) El.deepest) := by
  refine visit_any E 0 2 El.tChunk _ _ _ (chunkTake_grows _ _) ?_
  refine takeC_gen E 0 2 El.tChunk _ _ E.bc E.mChunk _ _ (.inr ⟨rfl, fun S w1 hst => hst.mc⟩) rfl (fun x => ?_)
  unfold El.chunkRules Env14.mChunk
  by_cases h1 : x = El.tP
  · rw [if_pos h1]
    exact ⟨_, by unfold look; rw [if_pos h1], .inl ⟨_, rfl, enters_takeProse, takeProse_any E⟩⟩
  · rw [if_neg h1]
    by_cases h2 : x = El.tVerse
    · rw [if_pos h2]
      exact ⟨_, by unfold look; rw [if_neg h1]; unfold look; rw [if_pos h2], .inl ⟨_, rfl, enters_takeVerse, takeVerse_any E⟩⟩
    · rw [if_neg h2]
      by_cases h3 : x = El.tSet
      · rw [if_pos h3]
        exact ⟨_, by unfold look; rw [if_neg h1]; unfold look; rw [if_neg h2]; unfold look; rw [if_pos h3], .inl ⟨_, rfl, enters_takeSet, takeSet_any E hL⟩⟩
      · rw [if_neg h3]
        simp [look, h1, h2, h3]
set_option maxHeartbeats 4000000 in
set_option maxRecDepth 100000 in
theorem takeChunk_any (E : Env14) (hL : LibEnv E.w0) : OpA E 0 1 54 (fun v => #[E.m, v]) (fun l => l = 1) (El.chunkOp (Sg.keys E.t) El.deepest) := by
  intro S w1 hst n va s w hva har hsz hmk
  obtain ⟨b0, o0, cp0, vg, rfl, hc0, hn0⟩ := args_get hva (i := 0) (by omega)
  have hls := node_size n (i := 0) (by omega)
  rw [Nat.add_zero] at hc0
  have hn0 : NodesAt E.w0 (fun _ => True) vg (El.argN n 0) := hn0
  obtain ⟨wb, hwb⟩ : ∃ wb, wb = w.alloc (.cells #[.bool (El.isCmd n), .string (str (El.text n)), .slice (some ⟨b0, o0, none⟩) (El.args n).length cp0, .int .i64 (El.loc n)] 89) := ⟨_, rfl⟩
  have hb : Below w.heap.size w wb := by rw [hwb]; exact below_alloc _ _
  have hbx : wb.heap[w.heap.size]? = some (.cells #[.bool (El.isCmd n), .string (str (El.text n)), .slice (some ⟨b0, o0, none⟩) (El.args n).length cp0, .int .i64 (El.loc n)] 89 (0, 0)) := by rw [hwb]; exact obj_new _ _ rfl _ _
  have hse := hst.enter hmk hb
  have hinS : Plus S w wb w.heap.size := .inr ⟨Nat.le_refl _, by rw [hwb, World.size_alloc]; omega⟩
  have hme := hmk.enter hb
  have HBK := Lib.hid (fun lev' d' s' w2 (h : MK E (Plus S w wb) wb lev' d' s' w2) => hmk.back hb h)
  have HKX := Lib.hid (fun lev' d' s' w2 (h : MK E (Plus S w wb) wb lev' d' s' w2) => h.kept hinS hbx)
  obtain ⟨K, y, hP⟩ := hme
  have f34 := hP.fr 34
  have m34 := hP.c34
  have f36 := hP.fr 36
  have m36 := hP.c36
  have hP0 := hP.set (s' := { s with paras := [] }) (y' := { y with vp := .slice none 0 0 }) (lev' := 0) hP.rows.startParas rfl 34 (.slice none 0 0) rfl
  have hP1 := hP0.set (s' := { s with paras := [], num := 0 }) (lev' := 0) (hP0.rows.num 0) rfl 36 (.int .i64 0) rfl
  obtain ⟨wz, hwz⟩ : ∃ wz, wz = (wb.setCell ⟨E.p, 34, none⟩ (.slice none 0 0)).setCell ⟨E.p, 36, none⟩ (.int .i64 0) := ⟨_, rfl⟩
  rw [← hwz] at hP1
  have hmd := MK.mono ⟨_, _, hP1⟩ (below_drew9 wz)
  have hszs := sz_paras s
  have hbxc := MK.kept ⟨_, _, hP1⟩ hinS hbx
  have HV := Lib.hid (chunkV_visit E hL _ _ hse _ vg { s with paras := [], num := 0 } wz.drew hn0 (by omega) hmd)
  have c_0 := hP1.c6
  have c_1 := hP1.c7
  have c_2 := hP1.c8
  have z0 := cell_below hP1.below hc0
  have b2 := mcell hbxc 2 rfl
  have har2 : (0 : Int) < ((El.args n).length : Int) := by omega
  have har3 : 0 < (El.args n).length := by omega
  have HGR := Lib.hid (fun s1 (h : El.visit (El.chunkTake (Sg.keys E.t) El.deepest) { s with paras := [], num := 0 } (El.argN n 0) = .ok s1) => (by have h9 := El.visit_grows (chunkTake_grows _ _) _ _ _ h; omega : El.sz s1 ≤ lim14))
  show Calls _ _ #[E.m, ndV n (.slice (some ⟨b0, o0, none⟩) (El.args n).length cp0)] _ (Out14 E S w1 0 1 ((El.visit (El.chunkTake (Sg.keys E.t) El.deepest) { s with paras := [], num := 0 } (El.argN n 0)).then (fun s1 => if s1.paras = [] then .bad 144 (El.loc n) else .ok { s1 with chunks := s1.chunks ++ [s1.paras] })))
  change Hid (Calls _ _ _ _ (Out14 E _ _ 0 2 (El.visit (El.chunkTake (Sg.keys E.t) El.deepest) { s with paras := [], num := 0 } (El.argN n 0)))) at HV
  generalize El.visit (El.chunkTake (Sg.keys E.t) El.deepest) { s with paras := [], num := 0 } (El.argN n 0) = r at *
  obtain ⟨⟨pl, cl, rfl, _⟩, _, _⟩ := hn0
  have HR := Lib.hid (fun e w' (h : Out14 E (Plus S w wb) wb 0 2 r e w') => h.ret)
  have q1 := err_nil
  have q2 := err_some
  generalize (El.argN n 0).length = l0 at *
  generalize (El.args n).length = la at *
  clear hb hst hmk hsz hva har hbx hc0 hls hse hinS hmd hP1 hbxc hP hP0 hszs hL
  unfold chunkV at HV
  try unfold Env14.mf at c_1
  try unfold Env14.mf at HV
  unfold Env14.m ndV at *
  go_enter Tryz.func54, Tryz.ntmps54
  go_upto_region 1 with fail
  rw [← hwb]
  clear hwb
  go_upto_region 2 with fail
  rw [← hwz]
  clear hwz m34 f34 m36 f36
  go_cut [5] (fun ev wx => ∃ v7, ev = v7 ∧ Hid (Out14 E (Plus S w wb) wb 0 2 r (.returned v7) wx))
  case first =>
    go_region_law (first
      | (go_simp; go_at_call 42; refine HV.out.mono ?_; intro e w7 ho; obtain ⟨v7, rfl⟩ := HR.out _ _ ho; have HO := Lib.hid ho; clear ho))
    all_goals (
      go_wp2_with fail
      go_meet
      exact ⟨_, rfl, HO⟩)
  case rest =>
    obtain ⟨v7, rfl, HO⟩ := hcut
    obtain ⟨wd, hwd⟩ : ∃ wd, wd = wc := ⟨_, rfl⟩
    subst hwd
    clear c_0 c_1 c_2 z0 b2 HV HR
    cases r with
    | bad c a =>
      obtain ⟨ns, ev, s2, he0, he, hm2⟩ := HO.out
      injection he0 with he0
      subst he0
      obtain ⟨T, x, rfl⟩ := he.iface
      have HE := Lib.hid he
      have HM := Lib.hid (HBK.out _ _ _ _ hm2)
      clear he hm2 HO
      go_wp2
      go_ret
      exact ⟨ns, _, s2, rfl, HE.out, HM.out⟩
    | ok s1 =>
      obtain ⟨he0, hm⟩ := HO.out
      injection he0 with he0
      subst he0
      have hbxc := HKX.out _ _ _ _ hm
      have HM := Lib.hid hm
      have HSZ := Lib.hid (HGR.out s1 rfl)
      obtain ⟨K1, y1, hp1⟩ := hm
      have b3 := mcell hbxc 3 rfl
      have HF := Lib.hid (fail_out (d := 1) ((HBK.out _ _ _ _ HM.out).down (Nat.le_succ _)) (fail_any 144 (El.loc n) wd))
      obtain ⟨ae, ce, hye, _⟩ := (hp1.rows.paras (by omega)).len
      have ck := hp1.c34
      rw [hye] at ck
      by_cases hw : s1.paras = []
      · have hwn : s1.paras.length = 0 := by rw [hw]; rfl
        rw [hwn] at ck
        clear hbxc hp1 hye
        go_wp2_with fail
        clear ck
        refine HF.out.mono ?_
        rintro e w3 ⟨ns, v, s2, rfl, he, hm3⟩
        have HE := Lib.hid he
        have HM3 := Lib.hid hm3
        clear he hm3 HF b3
        go_wp2
        go_ret
        show Out14 E S w1 0 1 (if s1.paras = [] then .bad 144 (El.loc n) else .ok { s1 with chunks := s1.chunks ++ [s1.paras] }) _ _
        rw [if_pos hw]
        exact ⟨ns, v, s2, rfl, HE.out, HM3.out⟩
      · have hw2 : ¬ ((s1.paras.length : Int) = 0) := fun h => hw (List.eq_nil_of_length_eq_zero (by omega))
        obtain ⟨hp2, hsl⟩ := hp1.fin_paras
        obtain ⟨ar, cr, hyr, _⟩ := (hp1.rows.chunks (by omega)).len
        have cr0 := hp1.c31
        rw [hyr] at cr0
        have hbA := below_alloc wd (.cells #[.slice ae s1.paras.length ce] 51)
        have kr := cell_below hbA cr0
        have hbB := below_step hbA (below_drew9 _)
        have hp4 := hp2.mono hbB
        have HP4 := Lib.hid hp4
        have hon := hp4.rows.chunks (by omega)
        rw [hyr] at hon
        have HOW := Lib.hid hon
        have HYN := Lib.hid hyr
        have hmv : ∀ v0, v0 = y1.vp → ParasK (fun b => K1 b ∨ y1.vp.ownBlock = some b) (wd.alloc (.cells #[.slice ae s1.paras.length ce] 51)).drew v0 s1.paras := by
          rintro v0 rfl
          exact ParasK.move (fun b hb => stays_block (hbB.block b (hp2.Klt hb))) (fun _ h => h) hsl
        have HR4 : Hid (ChunkK (fun b => K1 b ∨ y1.vp.ownBlock = some b) (wd.alloc (.cells #[.slice ae s1.paras.length ce] 51)).drew ⟨ae, s1.paras.length, ce⟩ s1.paras) := Lib.hid (hmv _ hye.symm)
        have HSR := Lib.hid (src_new (w := wd) (T := 51) (f := chC) (r := ⟨ae, s1.paras.length, ce⟩) (cs := #[.slice ae s1.paras.length ce]) rfl)
        have HLN : Hid (s1.chunks.length ≤ 1000000000000) := Lib.hid (by
          have h1 : s1.chunks.length ≤ El.sz s1 := by unfold El.sz; omega
          have h2 := HSZ.out
          unfold lim14 at h2
          omega)
        clear hp1 hp2 hsl hbA hbB hp4 hon hyr hye hbxc HF b3 hmv
        go_upto_region 7 with fail
        go_region_law (first
          | (refine step_push14 okCh (by rfl) _ _ (by rfl) E.w0.heap.size _ _ (.slice ar s1.chunks.length cr) s1.chunks ⟨ae, s1.paras.length, ce⟩ s1.paras wd.heap.size (by rfl) (by rfl) HOW.out HSR.out HR4.out HLN.out HP4.out.below.size HP4.out.rows.Klt HP4.out.rows.KX ?_; intro g9 cap9 w9 ho9 hg9; have hb9 := HP4.out.objFar HOW.out hg9 kCh_ne; have c9 : w9.cell? ⟨E.p, 31, none⟩ = some y1.vc := mcell hb9 31 rfl; have f9 : w9.frozen? ⟨E.p, 31, none⟩ = false := Lib.frozen_of_heap hb9 31))
        all_goals (
          have HP := Lib.hid (HP4.out.push hg9 HOW.out rfl kCh_ne (HP4.out.rows.push_chunks (by omega) (by rw [HYN.out]; exact hg9) ho9) rfl 31 (.slice (some ⟨g9, 0, none⟩) (s1.chunks.length + 1) cap9) rfl)
          clear ho9 hg9 hb9
          go_wp2
          go_ret
          show Out14 E S w1 0 1 (if s1.paras = [] then .bad 144 (El.loc n) else .ok { s1 with chunks := s1.chunks ++ [s1.paras] }) _ _
          rw [if_neg hw]
          exact ⟨rfl, HBK.out _ _ _ _ ⟨_, _, HP.out⟩⟩)
end Go.Proofs.YtfjplhgajoehfaaGreatDoor
