/-
  PROVED: the law SetterLines at every argument: where everything stands in any lines, or which break may not be, is as the document says.
-/
import Derived.Test.YthcilpijiindeaaFixedM12
import Derived.Test.YthcilpijiindeaaRefLines12
import Derived.Test.YthcilpijiindeaaIn10
import Derived.Test.YthcilpijiindeaaFrame10
set_option linter.unusedVariables false
set_option linter.unusedSimpArgs false
namespace Go.Proofs.Ythcilpijiindeaa
open Go.RowKit

namespace It
theorem goL_bad (l : List Itm) (t : Int) : ∀ (bs : List Int) (a : Int) (k : Nat) (ls : List Lin), (goL l t a k ls bs).2.1 ≠ 0 → (goL l t a k ls bs).1 = []
  | [], a, k, ls, h => by
    unfold goL at h ⊢
    split
    · rfl
    · rename_i hc; rw [if_neg hc] at h; exact absurd rfl h
  | b :: r, a, k, ls, h => by
    unfold goL at h ⊢
    cases e : linV l a b t with
    | none => rfl
    | some x =>
      rw [e] at h
      exact goL_bad l t r b (k + 1) _ h
theorem setR_bad {l : List Itm} {bs : List Int} {t : Int} (h : (setR l bs t).2.1 ≠ 0) : (setR l bs t).1 = [] := by
  unfold setR at h ⊢
  split
  · rfl
  · rename_i hc
    rw [if_neg hc] at h
    exact goL_bad l t bs _ _ _ h
end It
theorem words_keys {l : List It.Itm} {bs : List Int} {t : Int} (h : (It.setR l bs t).2.1 = 0) : (wordsL (It.setR l bs t).1).map It.keyP = (It.boxes l).map It.keyI := by
  obtain ⟨R, hR⟩ : ∃ R, R = It.setR l bs t := ⟨_, rfl⟩
  rw [← hR] at h ⊢
  obtain ⟨m, c, z⟩ := R
  simp only [] at h ⊢
  subst h
  exact It.keys_all hR.symm
theorem words_bound {l : List It.Itm} {bs : List Int} {t : Int} : (wordsL (It.setR l bs t).1).length ≤ l.length := by
  by_cases h : (It.setR l bs t).2.1 = 0
  · have := congrArg List.length (words_keys h)
    rw [List.length_map, List.length_map] at this
    rw [this]
    exact List.length_filter_le ..
  · rw [It.setR_bad h]
    simp [wordsL]
set_option maxHeartbeats 8000000 in
set_option maxRecDepth 100000 in
theorem lawLines (v u : Value) (l : List It.Itm) (bs : List Int) (t : Int) (w : World) (hI : ItsAt w v l) (hN : NumsAt w u bs) : Calls Try.prog 3 #[v, u, .int .i64 t] w (Ret (.bool true) w) := by
  have HF := Lib.hid (fun w => fixed12 w)
  have HA := Lib.hid hI
  have HN := Lib.hid hN
  have HL1 := Lib.hid (fun w (hb : bs.length ≤ 100000) h g => lines_any v u l bs t w h g hb)
  have HL2 := Lib.hid (fun w (hb : bs.length ≤ 100000) h g => refLines_any v u l bs t w h g hb)
  have HWb := Lib.hid (words_bound (l := l) (bs := bs) (t := t))
  obtain ⟨⟨p, cp, rfl, hcap⟩, hm, _⟩ := hI
  obtain ⟨⟨pb, cb, rfl, hcapb⟩, hmb, _⟩ := hN
  have hzl : l.length ≤ 9223372036854775807 := by unfold maxLen at hm; omega
  have hzb : bs.length ≤ 9223372036854775807 := by unfold maxLen at hmb; omega
  obtain ⟨n, hn⟩ : ∃ n, n = l.length := ⟨_, rfl⟩
  obtain ⟨nb, hnb⟩ : ∃ n, n = bs.length := ⟨_, rfl⟩
  have B0 := Lib.hid (Below.refl w.heap.size w)
  rw [← hn] at HA HL1 HL2 HWb hzl ⊢
  rw [← hnb] at HN HL1 HL2 hzb ⊢
  clear hn hnb hcap hm hcapb hmb
  by_cases h1 : 300 < n
  · have h1' : (300 : Int) < (n : Int) := by omega
    go_enter Try.func3, Try.ntmps3
    go_wp2_with fail
    refine (HF.out _).mono ?_
    rintro e w1 ⟨rfl, b1⟩
    go_wp2
    go_ret
    exact ⟨rfl, b1⟩
  · have h1' : ¬ (300 : Int) < (n : Int) := by omega
    by_cases h2 : 100 < nb
    · have h2' : (100 : Int) < (nb : Int) := by omega
      go_enter Try.func3, Try.ntmps3
      go_wp2_with fail
      refine (HF.out _).mono ?_
      rintro e w1 ⟨rfl, b1⟩
      go_wp2
      go_ret
      exact ⟨rfl, b1⟩
    · have h2' : ¬ (100 : Int) < (nb : Int) := by omega
      have H1 := Lib.hid (fun w h g => HL1.out w (by omega) h g)
      have H2 := Lib.hid (fun w h g => HL2.out w (by omega) h g)
      have HW2 : Hid ((wordsL (It.setR l bs t).1).length ≤ 100000) := Lib.hid (by have := HWb.out; omega)
      unfold LinesPost at H1 H2
      generalize It.setR l bs t = R at H1 H2 HW2
      obtain ⟨ls, c, z⟩ := R
      simp only [] at H1 H2 HW2
      have hEq := fun w => eq_fl c z c z w
      simp only [and_self, decide_true] at hEq
      clear HL1 HL2 HWb
      go_enter Try.func3, Try.ntmps3
      go_wp2_with fail
      refine (H1.out _ HA.out HN.out).mono ?_
      rintro e w1 ⟨x1, rfl, l1, b1⟩
      have hbA := below_step b1 (below_alloc w1 (.cells #[.int .i64 c, .int .i64 z] 28))
      have X1 := Lib.hid (obj_new w1 _ rfl #[.int .i64 c, .int .i64 z] 28)
      have L1 := Lib.hid (LinsAt.mono l1 (below_alloc w1 (.cells #[.int .i64 c, .int .i64 z] 28)))
      obtain ⟨WA, hWA⟩ : ∃ WA, WA = w1.alloc (.cells #[.int .i64 c, .int .i64 z] 28) := ⟨_, rfl⟩
      obtain ⟨P, hP⟩ : ∃ P, P = w1.heap.size := ⟨_, rfl⟩
      rw [← hWA] at hbA X1 L1
      rw [← hP] at X1
      have BA := Lib.hid hbA
      clear hbA l1 b1
      go_upto_region 4 with fail
      rw [← hWA, ← hP]
      clear hWA hP
      go_wp2_with fail
      refine (H2.out _ (SlcAt.mono HA.out BA.out) (SlcAt.mono HN.out BA.out)).mono ?_
      rintro e w2 ⟨x2, rfl, l2, b2⟩
      have hbB := below_step b2 (below_alloc w2 (.cells #[.int .i64 c, .int .i64 z] 28))
      have Y1 := Lib.hid (obj_new w2 _ rfl #[.int .i64 c, .int .i64 z] 28)
      have M1 := Lib.hid (LinsAt.mono l2 (below_alloc w2 (.cells #[.int .i64 c, .int .i64 z] 28)))
      obtain ⟨WB, hWB⟩ : ∃ WB, WB = w2.alloc (.cells #[.int .i64 c, .int .i64 z] 28) := ⟨_, rfl⟩
      obtain ⟨Q, hQ⟩ : ∃ Q, Q = w2.heap.size := ⟨_, rfl⟩
      rw [← hWB] at hbB Y1 M1
      rw [← hQ] at Y1
      have X2 := Lib.hid (obj_kept hbB X1.out)
      have L2 := Lib.hid (LinsAt.mono L1.out hbB)
      have BB := Lib.hid (below_step BA.out hbB)
      clear hbB l2 b2
      go_upto_region 5 with fail
      rw [← hWB, ← hQ]
      clear hWB hQ
      go_wp2_with fail
      refine (HF.out _).mono ?_
      rintro e w3 ⟨rfl, b3⟩
      have X3 := Lib.hid (obj_kept b3 X2.out)
      have Y3 := Lib.hid (obj_kept b3 Y1.out)
      have L3 := Lib.hid (LinsAt.mono L2.out b3)
      have M3 := Lib.hid (LinsAt.mono M1.out b3)
      have B3 := Lib.hid (below_step BB.out b3)
      clear b3
      have HS := Lib.hid (sameL_any x1 x2 ls ls w3 L3.out M3.out)
      rw [decide_eq_true rfl] at HS
      go_wp2_with fail
      refine HS.out.mono ?_
      rintro e w4 ⟨rfl, b4⟩
      have X4 := Lib.hid (obj_kept b4 X3.out)
      have Y4 := Lib.hid (obj_kept b4 Y3.out)
      have L4 := Lib.hid (LinsAt.mono L3.out b4)
      have M4 := Lib.hid (LinsAt.mono M3.out b4)
      have B4 := Lib.hid (below_step B3.out b4)
      clear b4
      have q0 : w4.cell? ⟨P, 0, none⟩ = some (.int .i64 c) := Lib.cell_of_heap X4.out 0
      have q1 : w4.cell? ⟨P, 1, none⟩ = some (.int .i64 z) := Lib.cell_of_heap X4.out 1
      have r0 : w4.cell? ⟨Q, 0, none⟩ = some (.int .i64 c) := Lib.cell_of_heap Y4.out 0
      have r1 : w4.cell? ⟨Q, 1, none⟩ = some (.int .i64 z) := Lib.cell_of_heap Y4.out 1
      go_wp2_with fail
      refine (words_any x1 ls w4 L4.out HW2.out).mono ?_
      rintro e w5 ⟨u5, rfl, o5, b5⟩
      have O5 := Lib.hid (OwnR.at o5 pcC_len)
      have M5 := Lib.hid (LinsAt.mono M4.out b5)
      have B5 := Lib.hid (below_step B4.out b5)
      clear b5 o5
      go_wp2_with fail
      refine (refWords_any x2 ls w5 M5.out HW2.out).mono ?_
      rintro e w6 ⟨u6, rfl, o6, b6⟩
      have O6 := Lib.hid (OwnR.at o6 pcC_len)
      have O5b := Lib.hid (SlcAt.mono O5.out b6)
      have B6 := Lib.hid (below_step B5.out b6)
      clear b6 o6
      have HPl := Lib.hid (placed_any u5 u6 (wordsL ls) (wordsL ls) w6 O5b.out O6.out)
      rw [decide_eq_true rfl] at HPl
      go_wp2_with fail
      refine HPl.out.mono ?_
      rintro e w7 ⟨rfl, b7⟩
      go_wp2
      go_ret
      exact ⟨rfl, below_step B6.out b7⟩
end Go.Proofs.Ythcilpijiindeaa
namespace Go.Proofs.Ythcilpijiindeaa
open Go.ChangeShapes Go.WideShapes Go.ChangeAt Go.RowKit
theorem uFi12 : Try.prog.underlying 50 = some (.struct (Try.prog.fieldsOf 50)) := by kernel_rfl
theorem cFi12 : Try.prog.cellsOf 50 = 2 := by kernel_rfl
section
variable {H : Type} {enc : TypeId × Value → H} {W : World} {base : Nat} {held : Bool} {spare : Nat → Bool}
set_option maxRecDepth 100000 in
theorem first_in {v : Value} {d : DataW H} {p : List MemPlace} (h : DataW.Trod enc Try.prog W base spare held 50 v d p) {cs : Array Value} (hv : v = .agg cs) : ∃ a b : Int, v = .agg #[.int .i64 a, .int .i64 b] := by
  obtain ⟨fuel, hf⟩ := h
  subst hv
  obtain ⟨f0, f1, hfs, ⟨t0, o0⟩, ⟨t1, o1⟩⟩ := two_fields (show (Try.prog.fieldsOf 50).toList.map (fun f => (f.type, f.offset)) = [(3, 0), (2, 1)] by kernel_rfl)
  obtain ⟨xs, m, hm', hxe, hcl, hxl, hxi⟩ := DataW.trod_struct uFi12 hf
  have hcs : (Value.agg cs).cells.toList = cs.toList := rfl
  rw [hcs] at hcl hxi
  rw [hfs] at hxl hxi
  rw [cFi12] at hcl
  obtain ⟨l⟩ := cs
  simp only [] at hcl hxi
  match l, hcl, xs, hxl with
  | [v0, v1], _, [y0, y1], _ =>
    have g0 := hxi 0 f0 rfl
    have g1 := hxi 1 f1 rfl
    rw [t0, o0, cInt9] at g0
    rw [t1, o1, cI649] at g1
    simp at g0 g1
    obtain ⟨a, e0, _, w0⟩ := DataW.trod_int Try.underlying3 g0
    obtain ⟨b, e1, _, w1⟩ := DataW.trod_int Try.underlying2 g1
    simp at e0 e1
    subst e0 e1
    exact ⟨a, b, rfl⟩
end
end Go.Proofs.Ythcilpijiindeaa
namespace Go.Proofs.Ythcilpijiindeaa
open Go.ChangeShapes Go.WideShapes Go.ChangeAt Go.RowKit

set_option maxRecDepth 100000 in
/-- WHAT THE WALK GIVES, FOR EVERY ARGUMENT AND EVERY WORLD. -/
theorem setterLines_contract (H : Type) (enc : TypeId × Value → H) (W : World) (base : Nat) (args : Array Value) (ds gs : List (DataW H)) (before : List MemPlace)
    (hval : ∀ (j : Nat) t v, Try.f3.params[j]? = some t → args[j]? = some v → Value.okWide Try.prog W .any base t v)
    (hW : DataW.Whole enc Try.prog Try.f3.params.toList Rows.setterLinesSpec.vars false W args.toList ds gs before) (hk : (DataW.weightsEach Try.prog (Try.f3.params.toList ++ (OpenSpec.ofChange Rows.setterLinesSpec).bare.plain.varTypes Try.prog) (ds ++ gs)).all (· ≤ reachBytes) = true) :
    Calls Try.prog 3 args W fun e W' => ∃ v, e = .returned v ∧ Rows.setterLinesSpec.post enc Try.prog Try.f3 false true false false W args v W' := by
  have hW' := hW
  have hlt : ∀ x ∈ before, x.block < W.heap.size := fun x hx => hW'.lt x hx
  obtain ⟨p, q, hA0, hV, hbe, hfz, hnd⟩ := hW
  have hA : DataW.TrodAll enc Try.prog W 0 (fun _ => true) true Try.f3.params.toList args.toList ds p := hA0
  rw [Try.params3] at hA hval hk
  have hAk := hA
  obtain ⟨v0, vs0, d0, ds0, p0, q0, hargs, rfl, rfl, h0, r0⟩ := trodAll_cons hA
  obtain ⟨v1, vs1, d1, ds1, p1, q1, rfl, rfl, rfl, h1, r1⟩ := trodAll_cons r0
  obtain ⟨v2, vs2, d2, ds2, p2, q2, rfl, rfl, rfl, h2, r2⟩ := trodAll_cons r1
  obtain ⟨rfl, rfl, rfl⟩ := trodAll_nil r2
  obtain rfl : args = #[v0, v1, v2] := by cases args; simp_all
  obtain ⟨rfl, rfl⟩ := trodVars_none hV
  obtain ⟨pa0, len0, cap0, hp0⟩ := okWide_slice Try.underlying22 (hval 0 _ v0 rfl rfl)
  obtain ⟨xs0, hxs0, _⟩ := items_in h0 (by rw [hp0]; rfl)
  obtain ⟨pa1, len1, cap1, hp1⟩ := okWide_slice Try.underlying23 (hval 1 _ v1 rfl rfl)
  obtain ⟨xs1, hxs1⟩ := ints_in h1 (by rw [hp1]; rfl)
  obtain ⟨x2, rfl⟩ := okWide_int Try.underlying2 (hval 2 _ v2 rfl rfl)
  refine (lawLines v0 v1 xs0 xs1 x2 W hxs0 (ints_nums hxs1)).mono fun e W' ⟨he, hb⟩ => ?_
  subst he
  have e1 : Rows.setterLinesSpec.fn H ([d0, d1, d2] ++ []) = { results := [.lit (.bool true)], args := [d0, d1, d2] } := rfl
  refine ⟨_, rfl, [d0, d1, d2], [], before, [], p0 ++ (p1 ++ (p2 ++ [])), [], hW', ?_, ?_, ?_, hb.frame _, fun h => by cases h⟩
  · rw [e1]; exact trodAll_mk1 (shut_bool Try.underlying4 true)
  · rw [e1, Try.params3]
    exact args_kept laidOut hb _ _ _ _ (by
      intro t ht
      have : t = 22 ∨ t = 23 ∨ t = 2 := by simpa using ht
      rcases this with rfl | rfl | rfl
      all_goals exact ⟨by kernel_rfl, of_decide_eq_true (by kernel_rfl)⟩) hAk (fun x hx => hlt x (by rw [hbe]; exact List.mem_append_left _ hx))
  · rw [e1]; rfl

theorem setterLines_laid_met (os : Os) : laidMet Try.prog Rows.setterLinesRow.laid ((World.laidAll Try.prog os laidList).forCall (fun _ _ => 0) ⟨#[], #[.slice none 0 0, .slice none 0 0, .int .i64 0], []⟩).memory :=
  laidMet_laidAll _ (by kernel_rfl) (by kernel_rfl)
theorem setterLines_reads (os : Os) {H : Type} (enc : TypeId × Value → H) : ∃ places, DataW.whole enc Try.prog ((World.laidAll Try.prog os laidList).forCall (fun _ _ => 0) ⟨#[], #[.slice none 0 0, .slice none 0 0, .int .i64 0], []⟩).memory Try.f3.params.toList Rows.setterLinesSpec.vars false #[Value.slice none 0 0, .slice none 0 0, .int .i64 0].toList 8 = some ([.nil, .nil, .lit (.int .i64 0)], [], places) :=
  ⟨[], by kernel_rfl⟩

set_option maxRecDepth 100000 in
theorem setterLines_lifted (os : Os) (started : os.Started) (H : Type) (enc : TypeId × Value → H) (F : Stop.Interp) :
    ReturnsInHanded {} Try.checked os 3 .any ((OpenSpec.ofChange Rows.setterLinesSpec).preRow enc Try.prog Try.f3 Rows.setterLinesRow.domain false Rows.setterLinesRow.laid) (((OpenSpec.ofChange Rows.setterLinesSpec).at F).post enc Try.prog Try.f3 false true false false) := by
  obtain ⟨places, hx⟩ := setterLines_reads os enc
  refine returnsInHanded_of_row (C := Try.checked) (s := OpenSpec.ofChange Rows.setterLinesSpec) own started (by kernel_rfl) Try.func3
    (witness_row_atRef (enc := enc) (C := Try.checked) false (World.laidAll Try.prog os laidList) #[.slice none 0 0, .slice none 0 0, .int .i64 0] (World.laidAll_os _ _ _) (by kernel_rfl) (by kernel_rfl) (by kernel_rfl)
      (OpenSpec.preRow_of_cond 8 hx (by kernel_rfl) (fun k hk => by cases hk) (by kernel_rfl) (setterLines_laid_met os))) ?_
  intro W base args ds gs before hval hW _ _ hz hL hsh _
  exact setterLines_contract H enc W base args ds gs before hval hW hz

theorem setterLines_full : Rows.SetterLinesSaid :=
  OpenClaim.holds_of_cond 3 Try.f3 rfl rfl rfl rfl rfl rfl rfl ⟨rfl, rfl, rfl, rfl, rfl⟩ rfl rfl rfl rfl rfl (by kernel_rfl) Try.func3 (by kernel_rfl)
    (of_decide_eq_true (by kernel_rfl)) (by unfold Func.isWrapper; first | (rw [if_pos (by decide +kernel)]; kernel_rfl) | (rw [if_neg (by decide +kernel)]; exact ⟨rfl, rfl⟩))
    (fun os started H enc _ F => by rw [OpenClaim.pre_eq_preRow]; exact setterLines_lifted os started H enc F)

end Go.Proofs.Ythcilpijiindeaa
