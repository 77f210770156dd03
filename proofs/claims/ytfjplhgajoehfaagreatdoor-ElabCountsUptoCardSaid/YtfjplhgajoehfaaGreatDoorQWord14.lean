/-
  The landed words, takeWord: a word of a text.
-/
import Derived.Test.YtfjplhgajoehfaaGreatDoorQNotes14
set_option linter.unusedVariables false
set_option linter.unusedSimpArgs false
namespace Go.Proofs.YtfjplhgajoehfaaGreatDoor
open Go.RowKit

set_option maxHeartbeats 1000000 in
set_option maxRecDepth 100000 in
theorem words_any (E : Env14) (S : Nat → Prop) (w1 : World) (lev d : Nat) (hd : 1 ≤ d) (s : El.St) (w : World) (hmk : MK E S w1 lev d s w) : Calls Tryz.prog 81 #[E.m] w (Is (.int .i64 s.words.length) w) := by
  obtain ⟨K, y, h⟩ := hmk
  obtain ⟨a, c, e, _⟩ := (h.rows.words hd).len
  have c32 := h.c32
  rw [e] at c32
  clear h
  unfold Env14.m
  go_enter Tryz.func81, Tryz.ntmps81
  go_wp2
  go_ret
  exact ⟨rfl, rfl⟩
theorem kTx_ne : 83 ≠ kTx.T := by decide
set_option maxHeartbeats 4000000 in
set_option maxRecDepth 100000 in
theorem takeWord_any (E : Env14) (lev : Nat) : OpA E lev 3 59 (fun v => #[E.m, v]) (fun _ => True) El.wordOp := by
  intro S w1 hst n va s w hva har hsz hmk
  obtain ⟨c, x, args, a⟩ := n
  obtain ⟨⟨pa, ca, rfl, _⟩, _, _⟩ := hva
  have hx : x.length ≤ lim14 := Nat.le_trans (szN_text c x args a) (by omega)
  obtain ⟨wb, hwb⟩ : ∃ wb, wb = w.alloc (.cells #[.bool c, .string (str x), .slice pa args.length ca, .int .i64 a] 89) := ⟨_, rfl⟩
  have hb : Below w.heap.size w wb := by rw [hwb]; exact below_alloc _ _
  have hbox : wb.heap[w.heap.size]? = some (.cells #[.bool c, .string (str x), .slice pa args.length ca, .int .i64 a] 89 (0, 0)) := by rw [hwb]; exact obj_new _ _ rfl _ _
  have hmb := hmk.mono hb
  have HW := Lib.hid (words_any E S w1 lev 3 (by omega) s wb hmb)
  show Calls _ _ #[E.m, .agg #[.bool c, .string (str x), .slice pa args.length ca, .int .i64 a]] _ (Out14 E S w1 lev 3 (if s.words.length = 5000 then .bad 149 a else .ok { s with words := s.words ++ [x] }))
  by_cases h5 : s.words.length = 5000
  · rw [if_pos h5]
    have HF := Lib.hid (fail_out (d := 3) hmb (fail_any 149 a wb))
    have b3 := mcell hbox 3 rfl
    rw [h5] at HW
    clear hb hst hmk hsz hx hbox hmb h5
    unfold Env14.m at *
    go_enter Tryz.func59, Tryz.ntmps59
    go_upto_region 1 with fail
    rw [← hwb]
    clear hwb
    go_wp2_with fail
    refine HW.out.mono ?_
    rintro e w2 ⟨rfl, rfl⟩
    go_wp2_with fail
    refine HF.out.mono ?_
    rintro e w2 ⟨ns, v, s2, rfl, he, hm2⟩
    have HE := Lib.hid he
    have HM := Lib.hid hm2
    clear hm2 he HW HF b3
    go_wp2
    go_ret
    exact ⟨ns, v, s2, rfl, HE.out, HM.out⟩
  · rw [if_neg h5]
    obtain ⟨K, y, h⟩ := hmb
    have hfew := h.rows.few
    have HFW : Hid ((s.words ++ [x]).length ≤ 5000) := Lib.hid (by rw [List.length_append, List.length_singleton]; omega)
    have h5' : ¬ ((s.words.length : Int) = 5000) := by omega
    have HHd := Lib.hid (h.mono (below_drew9 wb))
    obtain ⟨av, cv, hyv, _⟩ := (h.rows.words (by omega)).len
    have b1 := mcell (obj_kept (below_drew9 wb) hbox) 1 rfl
    have m32 : wb.drew.cell? ⟨E.p, 32, none⟩ = some (.slice av s.words.length cv) := by rw [← hyv]; exact HHd.out.c32
    have HC := Lib.hid (clone14 (str x) (by rw [str_size13]; unfold lim14 at hx; omega) wb.drew)
    have HOW := Lib.hid (fun w7 (hb7 : Below wb.drew.heap.size wb.drew w7) => (HHd.out.mono hb7))
    have HOS := Lib.hid (fun w7 (hb7 : Below wb.drew.heap.size wb.drew w7) => (hyv ▸ (HHd.out.mono hb7).rows.words (by omega) : OwnE kTx E.w0.heap.size K (fun b => K b ∨ S b) (.slice av s.words.length cv) s.words w7))
    have HHyv := Lib.hid hyv
    have HSL : Hid (s.words.length ≤ 1000000000000) := Lib.hid (by omega)
    clear hb hst hmk hsz hx hbox h5 h hfew hyv
    unfold Env14.m at *
    go_enter Tryz.func59, Tryz.ntmps59
    go_upto_region 1 with fail
    rw [← hwb]
    clear hwb
    go_wp2_with fail
    refine HW.out.mono ?_
    rintro e w2 ⟨rfl, rfl⟩
    go_wp2_with fail
    go_region_law (first
      | (go_simp; go_at_call 34; refine HC.out.mono ?_; rintro e w7 ⟨rfl, hb7⟩; have c7 := cell_below hb7 m32; have e7 := cell_below (below_alloc w7 (.cells #[.string (str x)] 9)) c7; have H8 := Lib.hid (below_step hb7 (below_alloc w7 (.cells #[.string (str x)] 9))))
      | (refine step_push14 okTx (by rfl) _ _ (by rfl) E.w0.heap.size K (fun b => K b ∨ S b) (.slice av s.words.length cv) s.words x x w7.heap.size (by rfl) (by rfl) (HOS.out _ H8.out) (src_new rfl) rfl HSL.out (HOW.out _ H8.out).below.size (HOW.out _ H8.out).rows.Klt (HOW.out _ H8.out).rows.KX ?_; intro g9 cap9 w9 ho9 hg9; have hb9 := (HOW.out _ H8.out).objFar (HOS.out _ H8.out) hg9 kTx_ne; have c9 : w9.cell? ⟨E.p, 32, none⟩ = some y.vw := mcell hb9 32 rfl; have f9 : w9.frozen? ⟨E.p, 32, none⟩ = false := Lib.frozen_of_heap hb9 32))
    all_goals (
      have HP := Lib.hid ((HOW.out _ H8.out).push hg9 (HOS.out _ H8.out) rfl kTx_ne ((HOW.out _ H8.out).rows.push_words (by omega) HFW.out (by rw [HHyv.out]; exact hg9) ho9) rfl 32 (.slice (some ⟨g9, 0, none⟩) (s.words.length + 1) cap9) rfl)
      clear ho9 hg9 hb9 c7 e7
      go_wp2
      go_ret
      exact ⟨rfl, _, _, HP.out⟩)
end Go.Proofs.YtfjplhgajoehfaaGreatDoor
