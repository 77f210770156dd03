/-
  The landed takeSide: chunks of a side.
-/
import Derived.Test.YtfjplhgajoehfaaGreatDoorQChunk14
set_option linter.unusedVariables false
set_option linter.unusedSimpArgs false
namespace Go.Proofs.YtfjplhgajoehfaaGreatDoor
open Go.RowKit

theorem chunkOp_grows {t : List (List UInt8)} {k : Nat} {s : El.St} {n : El.Nd} {s' : El.St} (hk : (El.args n).length = 1) (h : El.chunkOp t k s n = .ok s') : El.sz s' ≤ El.sz s + El.sizeN n := by
  unfold El.chunkOp at h
  cases hv : El.visit (El.chunkTake t k) { s with paras := [], num := 0 } (El.argN n 0) with
  | bad c a => rw [hv] at h; cases h
  | ok s1 =>
    rw [hv] at h
    simp only [El.Res.then] at h
    split at h
    · cases h
    · cases h
      have h1 := El.visit_grows (chunkTake_grows t k) _ _ _ hv
      have h2 := sz_paras s
      have h3 := node_size n (i := 0) (by omega)
      have h4 : El.sz { s1 with chunks := s1.chunks ++ [s1.paras] } = El.sz s1 + 1 := by unfold El.sz; simp only [List.length_append, List.length_singleton]; omega
      omega
theorem sideTake_grows (t : List (List UInt8)) (k : Nat) : Grows (El.sideTake t k) := by
  refine take_grows (fun f hf => by cases hf) (fun x j f h s n s' hk e => ?_)
  unfold El.sideRules at h
  split at h
  · cases h; exact chunkOp_grows hk e
  · cases h
def sideV (E : Env14) : Value := .agg #[.string (str nmSide), .nilFunc, .map (some E.bd)]
theorem enters_takeChunk : Enters 54 := enters_of Tryz.func54 (by kernel_rfl) rfl
theorem sideV_visit (E : Env14) (hL : LibEnv E.w0) : VisitC E 0 1 (sideV E) (El.sideTake (Sg.keys E.t) El.deepest) := by
  refine visit_any E 0 1 nmSide _ _ _ (sideTake_grows _ _) ?_
  refine takeC_gen E 0 1 nmSide _ _ E.bd E.mSide _ _ (.inr ⟨rfl, fun S w1 hst => hst.md⟩) rfl (fun x => ?_)
  unfold El.sideRules Env14.mSide
  by_cases h1 : x = El.tChunk
  · rw [if_pos h1]
    exact ⟨_, by unfold look; rw [if_pos h1], .inl ⟨_, rfl, enters_takeChunk, takeChunk_any E hL⟩⟩
  · rw [if_neg h1]
    simp [look, h1]
theorem Rows14.side0 {B : Nat} {s : El.St} {K X : Nat → Prop} {y : Dyn} {w : World} (h : Rows14 B 0 s K X y w) (c : List (List El.Para)) (ws : List (List UInt8)) (ns : List El.Note) (hw : ws.length ≤ 5000) (vc vw vn : Value) : Rows14 B 0 { s with chunks := c, words := ws, notes := ns } K X { y with vc := vc, vw := vw, vn := vn } w :=
  ⟨h.Klt, h.KX, hw, h.sides, h.labels, fun h => by omega, fun h => by omega, fun h => by omega, fun h => by omega, fun h => by omega, fun h => by omega⟩
set_option maxHeartbeats 4000000 in
set_option maxRecDepth 100000 in
theorem takeSide_any (E : Env14) (hL : LibEnv E.w0) : OpA E 0 0 51 (fun v => #[E.m, v]) (fun l => l = 1) (El.sideOp (Sg.keys E.t) El.deepest) := by
  intro S w1 hst n va s w hva har hsz hmk
  obtain ⟨b0, o0, cp0, vg, rfl, hc0, hn0⟩ := args_get hva (i := 0) (by omega)
  have hls := node_size n (i := 0) (by omega)
  rw [Nat.add_zero] at hc0
  have hn0 : NodesAt E.w0 (fun _ => True) vg (El.argN n 0) := hn0
  obtain ⟨wb, hwb⟩ : ∃ wb, wb = w.alloc (.cells #[.bool (El.isCmd n), .string (str (El.text n)), .slice (some ⟨b0, o0, none⟩) (El.args n).length cp0, .int .i64 (El.loc n)] 89) := ⟨_, rfl⟩
  have hb : Below w.heap.size w wb := by rw [hwb]; exact below_alloc _ _
  have hbx : wb.heap[w.heap.size]? = some (.cells #[.bool (El.isCmd n), .string (str (El.text n)), .slice (some ⟨b0, o0, none⟩) (El.args n).length cp0, .int .i64 (El.loc n)] 89 (0, 0)) := by rw [hwb]; exact obj_new _ _ rfl _ _
  have hse := hst.enter hmk hb
  have hinS : Plus S w wb w.heap.size := .inr ⟨Nat.le_refl _, by rw [hwb, World.size_alloc]; omega⟩
  have hme := hmk.enter hb
  have HBK := Lib.hid (fun lev' d' s' w2 (h : MK E (Plus S w wb) wb lev' d' s' w2) => hmk.back hb h)
  have HKX := Lib.hid (fun lev' d' s' w2 (h : MK E (Plus S w wb) wb lev' d' s' w2) => h.kept hinS hbx)
  obtain ⟨K, y, hP⟩ := hme
  have f31 := hP.fr 31
  have m31 := hP.c31
  have f32 := hP.fr 32
  have m32 := hP.c32
  have f33 := hP.fr 33
  have m33 := hP.c33
  have hPa := hP.set (s' := { s with chunks := [] }) (y' := { y with vc := .slice none 0 0 }) (lev' := 0) (hP.rows.side0 [] s.words s.notes hP.rows.few (.slice none 0 0) y.vw y.vn) rfl 31 (.slice none 0 0) rfl
  have hPb := hPa.set (s' := { s with chunks := [], words := [] }) (y' := { y with vc := .slice none 0 0, vw := .slice none 0 0 }) (lev' := 0) (hPa.rows.side0 [] [] s.notes (Nat.zero_le _) (.slice none 0 0) (.slice none 0 0) y.vn) rfl 32 (.slice none 0 0) rfl
  have hPc := hPb.set (s' := { s with chunks := [], words := [], notes := [] }) (y' := { y with vc := .slice none 0 0, vw := .slice none 0 0, vn := .slice none 0 0 }) (lev' := 0) (hPb.rows.side0 [] [] [] (Nat.zero_le _) (.slice none 0 0) (.slice none 0 0) (.slice none 0 0)) rfl 33 (.slice none 0 0) rfl
  have hP1 : MkP E (Plus S w wb) wb 0 1 { s with chunks := [], words := [], notes := [] } K { y with vc := .slice none 0 0, vw := .slice none 0 0, vn := .slice none 0 0 } _ := ⟨hPc.obj, hPc.lab, hPc.below, hPc.keep, hPc.KS, hPc.Kp, hPc.Kl, hPc.Sp, hPc.Sl, hPc.hp, hPc.hl, hPc.rows.startSide⟩
  obtain ⟨wz, hwz⟩ : ∃ wz, wz = ((wb.setCell ⟨E.p, 31, none⟩ (.slice none 0 0)).setCell ⟨E.p, 32, none⟩ (.slice none 0 0)).setCell ⟨E.p, 33, none⟩ (.slice none 0 0) := ⟨_, rfl⟩
  rw [← hwz] at hP1
  have hmd := MK.mono ⟨_, _, hP1⟩ (below_drew9 wz)
  have hszs := sz_side s
  have hbxc := MK.kept ⟨_, _, hP1⟩ hinS hbx
  have HV := Lib.hid (sideV_visit E hL _ _ hse _ vg { s with chunks := [], words := [], notes := [] } wz.drew hn0 (by omega) hmd)
  have c_0 := hP1.c3
  have c_1 := hP1.c4
  have c_2 := hP1.c5
  have z0 := cell_below hP1.below hc0
  have b2 := mcell hbxc 2 rfl
  have har2 : (0 : Int) < ((El.args n).length : Int) := by omega
  have har3 : 0 < (El.args n).length := by omega
  have HGR := Lib.hid (fun s1 (h : El.visit (El.sideTake (Sg.keys E.t) El.deepest) { s with chunks := [], words := [], notes := [] } (El.argN n 0) = .ok s1) => (by have h9 := El.visit_grows (sideTake_grows _ _) _ _ _ h; omega : El.sz s1 ≤ lim14))
  show Calls _ _ #[E.m, ndV n (.slice (some ⟨b0, o0, none⟩) (El.args n).length cp0)] _ (Out14 E S w1 0 0 ((El.visit (El.sideTake (Sg.keys E.t) El.deepest) { s with chunks := [], words := [], notes := [] } (El.argN n 0)).then (fun s1 => if s1.chunks = [] then .bad 144 (El.loc n) else .ok { s1 with sides := s1.sides ++ [⟨s1.chunks, s1.words, s1.notes⟩] })))
  change Hid (Calls _ _ _ _ (Out14 E _ _ 0 1 (El.visit (El.sideTake (Sg.keys E.t) El.deepest) { s with chunks := [], words := [], notes := [] } (El.argN n 0)))) at HV
  generalize El.visit (El.sideTake (Sg.keys E.t) El.deepest) { s with chunks := [], words := [], notes := [] } (El.argN n 0) = r at *
  obtain ⟨⟨pl, cl, rfl, _⟩, _, _⟩ := hn0
  have HR := Lib.hid (fun e w' (h : Out14 E (Plus S w wb) wb 0 1 r e w') => h.ret)
  have q1 := err_nil
  have q2 := err_some
  generalize (El.argN n 0).length = l0 at *
  generalize (El.args n).length = la at *
  clear hb hst hmk hsz hva har hbx hc0 hls hse hinS hmd hP1 hbxc hP hPa hPb hPc hszs hL
  unfold sideV at HV
  try unfold Env14.mf at c_1
  try unfold Env14.mf at HV
  unfold Env14.m ndV at *
  go_enter Tryz.func51, Tryz.ntmps51
  go_upto_region 1 with fail
  rw [← hwb]
  clear hwb
  go_upto_region 2 with fail
  rw [← hwz]
  clear hwz m31 f31 m32 f32 m33 f33
  go_cut [5] (fun ev wx => ∃ v7, ev = v7 ∧ Hid (Out14 E (Plus S w wb) wb 0 1 r (.returned v7) wx))
  case first =>
    go_region_law (first
      | (go_simp; go_at_call 42; refine HV.out.mono ?_; intro e w7 ho; obtain ⟨v7, rfl⟩ := HR.out _ _ ho; have HO := Lib.hid ho; clear ho))
    all_goals (
      go_wp2_with fail
      go_meet
      exact ⟨_, rfl, HO⟩)
  case rest =>
    obtain ⟨v7, rfl, HO⟩ := hcut
    obtain ⟨wd, hwd⟩ : ∃ wd, wd = wc := ⟨_, rfl⟩
    subst hwd
    clear c_0 c_1 c_2 z0 b2 HV HR
    cases r with
    | bad c a =>
      obtain ⟨ns, ev, s2, he0, he, hm2⟩ := HO.out
      injection he0 with he0
      subst he0
      obtain ⟨T, x, rfl⟩ := he.iface
      have HE := Lib.hid he
      have HM := Lib.hid (HBK.out _ _ _ _ hm2)
      clear he hm2 HO
      go_wp2
      go_ret
      exact ⟨ns, _, s2, rfl, HE.out, HM.out⟩
    | ok s1 =>
      obtain ⟨he0, hm⟩ := HO.out
      injection he0 with he0
      subst he0
      have hbxc := HKX.out _ _ _ _ hm
      have HM := Lib.hid hm
      have HSZ := Lib.hid (HGR.out s1 rfl)
      obtain ⟨K1, y1, hp1⟩ := hm
      have b3 := mcell hbxc 3 rfl
      have HF := Lib.hid (fail_out (d := 0) ((HBK.out _ _ _ _ HM.out).down (Nat.le_succ _)) (fail_any 144 (El.loc n) wd))
      obtain ⟨ae, ce, hye, _⟩ := (hp1.rows.chunks (by omega)).len
      have ck := hp1.c31
      rw [hye] at ck
      by_cases hw : s1.chunks = []
      · have hwn : s1.chunks.length = 0 := by rw [hw]; rfl
        rw [hwn] at ck
        clear hbxc hp1 hye
        go_wp2_with fail
        clear ck
        refine HF.out.mono ?_
        rintro e w3 ⟨ns, v, s2, rfl, he, hm3⟩
        have HE := Lib.hid he
        have HM3 := Lib.hid hm3
        clear he hm3 HF b3
        go_wp2
        go_ret
        show Out14 E S w1 0 0 (if s1.chunks = [] then .bad 144 (El.loc n) else .ok { s1 with sides := s1.sides ++ [⟨s1.chunks, s1.words, s1.notes⟩] }) _ _
        rw [if_pos hw]
        exact ⟨ns, v, s2, rfl, HE.out, HM3.out⟩
      · have hw2 : ¬ ((s1.chunks.length : Int) = 0) := fun h => hw (List.eq_nil_of_length_eq_zero (by omega))
        obtain ⟨hp2, hs1, hs2, hs3⟩ := hp1.fin_side
        obtain ⟨aw, cw, hyw, _⟩ := (hp1.rows.words (by omega)).len
        obtain ⟨an, cn, hyn, _⟩ := (hp1.rows.notes (by omega)).len
        obtain ⟨ar, cr, hyr, _⟩ := hp1.rows.sides.len
        have l32 := hp1.c32
        rw [hyw] at l32
        have l33 := hp1.c33
        rw [hyn] at l33
        have cr0 := hp1.c28
        rw [hyr] at cr0
        have hbA := below_alloc wd (.cells #[.slice ae s1.chunks.length ce, .slice aw s1.words.length cw, .slice an s1.notes.length cn] 41)
        have kr := cell_below hbA cr0
        have hbB := below_step hbA (below_drew9 _)
        have hp4 := hp2.mono hbB
        have HP4 := Lib.hid hp4
        have hon := hp4.rows.sides
        rw [hyr] at hon
        have HOW := Lib.hid hon
        have HYN := Lib.hid hyr
        have hst9 : ∀ b, (fun b => K1 b ∨ y1.vc.ownBlock = some b ∨ y1.vw.ownBlock = some b ∨ y1.vn.ownBlock = some b) b → Stays wd (wd.alloc (.cells #[.slice ae s1.chunks.length ce, .slice aw s1.words.length cw, .slice an s1.notes.length cn] 41)).drew b := fun b hb => stays_block (hbB.block b (hp2.Klt hb))
        have hmv : ∀ v0 v1 v2, v0 = y1.vc → v1 = y1.vw → v2 = y1.vn → ChunksK (fun b => K1 b ∨ y1.vc.ownBlock = some b ∨ y1.vw.ownBlock = some b ∨ y1.vn.ownBlock = some b) (wd.alloc (.cells #[.slice ae s1.chunks.length ce, .slice aw s1.words.length cw, .slice an s1.notes.length cn] 41)).drew v0 s1.chunks ∧ SlcK txC 1 (fun b => K1 b ∨ y1.vc.ownBlock = some b ∨ y1.vw.ownBlock = some b ∨ y1.vn.ownBlock = some b) (wd.alloc (.cells #[.slice ae s1.chunks.length ce, .slice aw s1.words.length cw, .slice an s1.notes.length cn] 41)).drew v1 s1.words ∧ NotesK (fun b => K1 b ∨ y1.vc.ownBlock = some b ∨ y1.vw.ownBlock = some b ∨ y1.vn.ownBlock = some b) (wd.alloc (.cells #[.slice ae s1.chunks.length ce, .slice aw s1.words.length cw, .slice an s1.notes.length cn] 41)).drew v2 s1.notes := by
          rintro v0 v1 v2 rfl rfl rfl
          exact ⟨ChunksK.move hst9 (fun _ h => h) hs1, hs2.move hst9 (fun _ h => h), NotesK.move hst9 (fun _ h => h) hs3⟩
        have HR4 : Hid (SideK (fun b => K1 b ∨ y1.vc.ownBlock = some b ∨ y1.vw.ownBlock = some b ∨ y1.vn.ownBlock = some b) (wd.alloc (.cells #[.slice ae s1.chunks.length ce, .slice aw s1.words.length cw, .slice an s1.notes.length cn] 41)).drew ⟨⟨ae, s1.chunks.length, ce⟩, ⟨aw, s1.words.length, cw⟩, ⟨an, s1.notes.length, cn⟩⟩ ⟨s1.chunks, s1.words, s1.notes⟩) := Lib.hid (hmv _ _ _ hye.symm hyw.symm hyn.symm)
        have HSR := Lib.hid (src_new (w := wd) (T := 41) (f := sdC) (r := ⟨⟨ae, s1.chunks.length, ce⟩, ⟨aw, s1.words.length, cw⟩, ⟨an, s1.notes.length, cn⟩⟩) (cs := #[.slice ae s1.chunks.length ce, .slice aw s1.words.length cw, .slice an s1.notes.length cn]) rfl)
        have HLN : Hid (s1.sides.length ≤ 1000000000000) := Lib.hid (by
          have h1 : s1.sides.length ≤ El.sz s1 := by unfold El.sz; omega
          have h2 := HSZ.out
          unfold lim14 at h2
          omega)
        clear hp1 hp2 hs1 hs2 hs3 hbA hbB hp4 hon hyr hye hyw hyn hbxc HF b3 hmv hst9
        go_upto_region 7 with fail
        go_region_law (first
          | (refine step_push14 okSd (by rfl) _ _ (by rfl) E.w0.heap.size _ _ (.slice ar s1.sides.length cr) s1.sides ⟨⟨ae, s1.chunks.length, ce⟩, ⟨aw, s1.words.length, cw⟩, ⟨an, s1.notes.length, cn⟩⟩ ⟨s1.chunks, s1.words, s1.notes⟩ wd.heap.size (by rfl) (by rfl) HOW.out HSR.out HR4.out HLN.out HP4.out.below.size HP4.out.rows.Klt HP4.out.rows.KX ?_; intro g9 cap9 w9 ho9 hg9; have hb9 := HP4.out.objFar HOW.out hg9 kSd_ne; have c9 : w9.cell? ⟨E.p, 28, none⟩ = some y1.vs := mcell hb9 28 rfl; have f9 : w9.frozen? ⟨E.p, 28, none⟩ = false := Lib.frozen_of_heap hb9 28))
        all_goals (
          have HP := Lib.hid (HP4.out.push hg9 HOW.out rfl kSd_ne (HP4.out.rows.push_sides (by rw [HYN.out]; exact hg9) ho9) rfl 28 (.slice (some ⟨g9, 0, none⟩) (s1.sides.length + 1) cap9) rfl)
          clear ho9 hg9 hb9
          go_wp2
          go_ret
          show Out14 E S w1 0 0 (if s1.chunks = [] then .bad 144 (El.loc n) else .ok { s1 with sides := s1.sides ++ [⟨s1.chunks, s1.words, s1.notes⟩] }) _ _
          rw [if_neg hw]
          exact ⟨rfl, HBK.out _ _ _ _ ⟨_, _, HP.out⟩⟩)
end Go.Proofs.YtfjplhgajoehfaaGreatDoor
