/-
  PROVED: the law LemmaHeads where what it is handed is of bulk at most 1048576: a head is made of its first and its last word's marks; of one word it is its mark; a head of all the line, where no word stands twice, is the line's short form; to part words elsewhere changes nothing.
  Conditions: the package-level variables that the row lists hold what the program's text lays in them (the card ties them).
-/
import Derived.Test.YtjjkilopeofjjaaDoorIn15
import Derived.Test.YtjjkilopeofjjaaDoorLawHeads15
set_option linter.unusedVariables false
set_option linter.unusedSimpArgs false
namespace Go.Proofs.YtjjkilopeofjjaaDoor
open Go.ChangeShapes Go.WideShapes Go.ChangeAt Go.RowKit

set_option maxRecDepth 100000 in
/-- WHAT THE WALK GIVES, FOR EVERY ARGUMENT OF SUCH A BULK AND EVERY WORLD. -/
theorem lemmaHeadsF_contract (H : Type) (enc : TypeId × Value → H) (W : World) (base : Nat) (args : Array Value) (ds gs : List (DataW H)) (before : List MemPlace)
    (hval : ∀ (j : Nat) t v, Tryd.f5.params[j]? = some t → args[j]? = some v → Value.okWide Tryd.prog W .any base t v)
    (hW : DataW.Whole enc Tryd.prog Tryd.f5.params.toList Rows.lemmaHeadsSpec.vars false W args.toList ds gs before) (hk : (DataW.weightsEach Tryd.prog (Tryd.f5.params.toList ++ (Rows.OpenSpec.upto Rows.lemmaHeadsSpec).bare.plain.varTypes Tryd.prog) (ds ++ gs)).all (· ≤ reachBytes) = true) (hu : Rows.uptoSmall H (ds ++ gs) = true) (m : Int) (hE : Env15 m W) :
    Calls Tryd.prog 5 args W fun e W' => ∃ v, e = .returned v ∧ Rows.lemmaHeadsSpec.post enc Tryd.prog Tryd.f5 false true false false W args v W' := by
  have hW' := hW
  have hlt : ∀ x ∈ before, x.block < W.heap.size := fun x hx => hW'.lt x hx
  obtain ⟨p, q, hA0, hV, hbe, hfz, hnd⟩ := hW
  have hA : DataW.TrodAll enc Tryd.prog W 0 (fun _ => true) true Tryd.f5.params.toList args.toList ds p := hA0
  rw [Tryd.params5] at hA hval hk
  have hAk := hA
  obtain ⟨v0, vs0, d0, ds0, p0, q0, hargs, rfl, rfl, h0, r0⟩ := trodAll_cons hA
  obtain ⟨v1, vs1, d1, ds1, p1, q1, rfl, rfl, rfl, h1, r1⟩ := trodAll_cons r0
  obtain ⟨rfl, rfl, rfl⟩ := trodAll_nil r1
  obtain rfl : args = #[v0, v1] := by cases args; simp_all
  obtain ⟨rfl, rfl⟩ := trodVars_none hV
  have hbu : Rows.uptoBulkAll ([d0, d1] ++ []) ≤ 1048576 := of_decide_eq_true hu
  simp only [List.append_nil, Rows.uptoBulkAll] at hbu
  obtain ⟨pa0, len0, cap0, hp0⟩ := okWide_slice Tryd.underlying22 (hval 0 _ v0 rfl rfl)
  obtain ⟨xs0, hxs0, hd0⟩ := txs_in h0 (by rw [hp0]; rfl)
  have sm0 := txs_bulk (d := d0) (by omega) hd0
  obtain ⟨cs1, hv1, _⟩ := okWide_struct uSp15 (hval 1 _ v1 rfl rfl)
  obtain ⟨a1, b1, rfl⟩ := span_in h1 hv1
  refine (lemmaHeads_any v0 xs0 a1 b1 m W hxs0 sm0 hE).mono fun e W' ⟨he, hb⟩ => ?_
  subst he
  have e1 : Rows.lemmaHeadsSpec.fn H ([d0, d1] ++ []) = { results := [.lit (.bool true)], args := [d0, d1] } := rfl
  refine ⟨_, rfl, [d0, d1], [], before, [], p0 ++ (p1 ++ []), [], hW', ?_, ?_, ?_, hb.frame _, fun h => by cases h⟩
  · rw [e1]; exact trodAll_mk1 (shut_bool Tryd.underlying4 true)
  · rw [e1, Tryd.params5]
    exact args_kept laidOut hb _ _ _ _ (by
      intro t ht
      have : t = 22 ∨ t = 24 := by simpa using ht
      rcases this with rfl | rfl
      all_goals exact ⟨by kernel_rfl, of_decide_eq_true (by kernel_rfl)⟩) hAk (fun x hx => hlt x (by rw [hbe]; exact List.mem_append_left _ hx))
  · rw [e1]; rfl

theorem lemmaHeadsF_laid_met (os : Os) : laidMet Tryd.prog Rows.lemmaHeadsUptoRow.laid ((World.laidAll Tryd.prog os laidList).forCall (fun _ _ => 0) ⟨#[], #[.slice none 0 0, .agg #[.int .i64 0, .int .i64 0]], []⟩).memory :=
  laidMet_laidAll _ (by kernel_rfl) (by kernel_rfl)
theorem lemmaHeadsF_reads (os : Os) {H : Type} (enc : TypeId × Value → H) : ∃ places, DataW.whole enc Tryd.prog ((World.laidAll Tryd.prog os laidList).forCall (fun _ _ => 0) ⟨#[], #[.slice none 0 0, .agg #[.int .i64 0, .int .i64 0]], []⟩).memory Tryd.f5.params.toList Rows.lemmaHeadsSpec.vars false #[Value.slice none 0 0, .agg #[.int .i64 0, .int .i64 0]].toList 8 = some ([.nil, .agg [.lit (.int .i64 0), .lit (.int .i64 0)]], [], places) :=
  ⟨[], by kernel_rfl⟩

set_option maxRecDepth 100000 in
theorem lemmaHeadsF_lifted (os : Os) (started : os.Started) (H : Type) (enc : TypeId × Value → H) (F : Stop.Interp) :
    ReturnsInHanded {} Tryd.checked os 5 .any ((Rows.OpenSpec.upto Rows.lemmaHeadsSpec).preRow enc Tryd.prog Tryd.f5 Rows.lemmaHeadsUptoRow.domain false Rows.lemmaHeadsUptoRow.laid) (((Rows.OpenSpec.upto Rows.lemmaHeadsSpec).at F).post enc Tryd.prog Tryd.f5 false true false false) := by
  obtain ⟨places, hx⟩ := lemmaHeadsF_reads os enc
  refine returnsInHanded_of_row (C := Tryd.checked) (s := Rows.OpenSpec.upto Rows.lemmaHeadsSpec) own started (by kernel_rfl) Tryd.func5
    (witness_row_atRef (enc := enc) (C := Tryd.checked) false (World.laidAll Tryd.prog os laidList) #[.slice none 0 0, .agg #[.int .i64 0, .int .i64 0]] (World.laidAll_os _ _ _) (by kernel_rfl) (by kernel_rfl) (by kernel_rfl)
      (OpenSpec.preRow_of_cond 8 hx (by kernel_rfl) (fun k hk => by cases hk; kernel_rfl) (by kernel_rfl) (lemmaHeadsF_laid_met os))) ?_
  intro W base args ds gs before hval hW _ hcond hz hL hsh _
  obtain ⟨m, hE⟩ := env_of_laid hL hsh
  exact lemmaHeadsF_contract H enc W base args ds gs before hval hW hz (hcond _ rfl) m hE

theorem lemmaHeadsF_said : Rows.LemmaHeadsUptoSaid :=
  OpenClaim.holds_of_cond 5 Tryd.f5 rfl rfl rfl rfl rfl rfl rfl ⟨rfl, rfl, rfl, rfl, rfl⟩ rfl rfl rfl rfl rfl (by kernel_rfl) Tryd.func5 (by kernel_rfl)
    (of_decide_eq_true (by kernel_rfl)) (by unfold Func.isWrapper; first | (rw [if_pos (by decide +kernel)]; kernel_rfl) | (rw [if_neg (by decide +kernel)]; exact ⟨rfl, rfl⟩))
    (fun os started H enc _ F => by rw [OpenClaim.pre_eq_preRow]; exact lemmaHeadsF_lifted os started H enc F)

/-- No parameter wants a stand-in; what the program's own reckoning says of looks: what the card asks. -/
theorem lemmaHeadsF_plain (f : FuncId) (fn : Func) (hf : Tryd.pinned.checked.prog.funcNamed "variorum/variorumlaw15.LemmaHeads" = some f) (hfn : Tryd.pinned.checked.prog.funcs[f]? = some fn) :
    false = Tryd.pinned.checked.prog.looks [] ∧ ∀ (j : Nat) t, fn.params[j]? = some t → Tryd.pinned.checked.prog.wantsStandIn t = false := by
  obtain rfl : f = 5 := Option.some.inj ((show Tryd.prog.funcNamed "variorum/variorumlaw15.LemmaHeads" = some 5 by kernel_rfl).symm.trans hf) |>.symm
  obtain rfl : fn = Tryd.f5 := (Option.some.inj (Tryd.func5.symm.trans hfn)).symm
  refine ⟨by kernel_rfl, fun j t ht => ?_⟩
  rw [Tryd.params5] at ht
  have : t = 22 ∨ t = 24 := by simpa using Array.mem_of_getElem? ht
  rcases this with rfl | rfl
  · exact (show Tryd.prog.wantsStandIn 22 = false by kernel_rfl)
  · exact (show Tryd.prog.wantsStandIn 24 = false by kernel_rfl)

/-- THE CARD. -/
theorem lemmaHeadsF_card : Rows.LemmaHeadsUptoCardSaid :=
  Claim7.holds_tied_plain_at .later [] _ _ _ _ lemmaHeadsF_said (fun _ h => by cases h) (by kernel_rfl) (fun _ h => by cases h) lemmaHeadsUpto_row_tie rfl ⟨rfl, rfl⟩ (by kernel_rfl) rfl lemmaHeadsF_plain (by kernel_rfl)
end Go.Proofs.YtjjkilopeofjjaaDoor
