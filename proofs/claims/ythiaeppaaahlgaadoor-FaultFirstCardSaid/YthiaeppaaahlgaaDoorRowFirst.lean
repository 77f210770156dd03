/-
  PROVED: the law FaultFirst at every slice of faults: of the faults whose code is not OK, First returns the one that stands first, or none where there is none; it is one of them, and the same in whatever order they come.
  Conditions: the package-level variables that the row lists hold what the program's text lays in them (the card ties them).
-/
import Derived.Test.YthiaeppaaahlgaaDoorOpen
import Derived.Test.YthiaeppaaahlgaaDoorLawFirst
set_option linter.unusedVariables false
set_option linter.unusedSimpArgs false
namespace Go.Proofs.YthiaeppaaahlgaaDoor
open Go.ChangeShapes Go.WideShapes Go.ChangeAt Go.RowKit

/-- a slice of faults, as it comes in -/
theorem flts_open {H : Type} {enc : TypeId × Value → H} {W : World} {fuel : Nat} {v : Value} {x : DataW H × List MemPlace} {held : Bool} {spare : Nat → Bool}
    (h : DataW.trod enc Tryd.prog W 0 spare held fuel 33 [v] = some x) : ∃ l : List Flt, FltsAt W v l := by
  rcases Go.Deep.open_slice_pairs Tryd.underlying33 Tryd.underlying24 cellsFlt rfl rfl cellsErrno cellsInt h with ⟨hc, _⟩ | ⟨a, len, cap, m, n, V0, V1, D0, D1, P0, P1, hc, _, hl, hm, hmm, _, hel⟩
  · injection hc with hc _
    exact ⟨[], by rw [hc]; exact ⟨⟨none, 0, rfl⟩, by unfold maxLen; simp, fun h => by simp at h⟩⟩
  · injection hc with hc _
    have hlm : len ≤ m := by rw [hmm]; split <;> omega
    have ex : ∀ i, i < len → ∃ f : Flt, W.cell? (a.add (i * 2)) = some (.int .i64 f.1) ∧ W.cell? (a.add (i * 2 + 1)) = some (.int .i64 f.2) := by
      intro i hi
      obtain ⟨c0, c1, t0, t1⟩ := hel i (by omega)
      obtain ⟨z0, e0, _, _⟩ := DataW.trod_int Tryd.underlying22 t0
      obtain ⟨z1, e1, _, _⟩ := DataW.trod_int Tryd.underlying3 t1
      injection e0 with e0 _
      injection e1 with e1 _
      exact ⟨(z0, z1), by rw [c0, e0], by rw [c1, e1]⟩
    obtain ⟨F, hF⟩ := Go.Deep.choose_lt ex
    refine ⟨(List.range len).map F, ?_⟩
    have hlen : ((List.range len).map F).length = len := by simp
    refine ⟨⟨some a, cap, by rw [hc, hlen]⟩, by rw [hlen]; omega, fun hp => ?_⟩
    rw [hlen] at hp
    obtain ⟨b, off, spot⟩ := a
    have hspot : spot = none := by simpa [Addr.add] using World.cell?_spot (hF 0 hp).1
    subst hspot
    refine ⟨b, off, cap, by rw [hc, hlen], fun i f hf => ?_⟩
    have hi : i < len := by
      rcases Nat.lt_or_ge i len with h' | h'
      · exact h'
      · rw [List.getElem?_eq_none (by rw [hlen]; exact h')] at hf; cases hf
    have hfe : f = F i := by
      rw [List.getElem?_map, List.getElem?_range hi] at hf
      exact (Option.some.inj hf).symm
    subst hfe
    have := hF i hi
    rw [Go.WideShapes.add_plain, Go.WideShapes.add_plain] at this
    refine ⟨this.1, ?_⟩
    rw [Nat.add_assoc]
    exact this.2

set_option maxRecDepth 100000 in
/-- WHAT THE WALK GIVES, FOR EVERY ARGUMENT AND EVERY WORLD THAT HOLDS WHAT THE ROW LISTS: the same for both forms. -/
theorem first_contract (H : Type) (enc : TypeId × Value → H) (W : World) (base : Nat) (args : Array Value) (ds gs : List (DataW H)) (before : List MemPlace)
    (hval : ∀ (j : Nat) t v, Tryd.f5.params[j]? = some t → args[j]? = some v → Value.okWide Tryd.prog W .any base t v)
    (hW : DataW.Whole enc Tryd.prog Tryd.f5.params.toList Rows.faultFirstSpec.vars false W args.toList ds gs before) (hL : laidMetH Tryd.prog Rows.faultFirstRow.laid W) (hsh : W.ShapedOpen Tryd.prog) :
    Calls Tryd.prog 5 args W fun e W' => ∃ v, e = .returned v ∧ Rows.faultFirstSpec.post enc Tryd.prog Tryd.f5 false true false false W args v W' := by
  have hW' := hW
  have hlt : ∀ x ∈ before, x.block < W.heap.size := fun x hx => hW'.lt x hx
  obtain ⟨p, q, hA0, hV, hbe, hfz, hnd⟩ := hW
  have hA : DataW.TrodAll enc Tryd.prog W 0 (fun _ => true) true Tryd.f5.params.toList args.toList ds p := hA0
  rw [Tryd.params5] at hA hval
  have hAk := hA
  obtain ⟨v0, vs0, d0, ds0, p0, q0, hargs, rfl, rfl, h0, r0⟩ := trodAll_cons hA
  obtain ⟨rfl, rfl, rfl⟩ := trodAll_nil r0
  obtain rfl : args = #[v0] := by cases args; simp_all
  obtain ⟨rfl, rfl⟩ := trodVars_none hV
  obtain ⟨a0, len, cap, rfl⟩ := okWide_slice Tryd.underlying33 (hval 0 _ v0 rfl rfl)
  obtain ⟨fuel, hf⟩ := h0
  obtain ⟨l, hl⟩ := flts_open (by simpa [Value.cells] using hf)
  have hE := env_of_laid hL hsh
  refine (lawFirst_any l _ W hE hl).mono fun e W' ⟨he, hb⟩ => ?_
  subst he
  have e1 : Rows.faultFirstSpec.fn H ([d0] ++ []) = { results := [.lit (.bool true)], args := [d0] } := rfl
  refine ⟨_, rfl, [d0], [], before, [], p0 ++ [], [], hW', ?_, ?_, ?_, hb.frame _, fun h => by cases h⟩
  · rw [e1]; exact trodAll_mk1 (shut_bool Tryd.underlying4 true)
  · rw [e1, Tryd.params5]
    exact args_kept laidOut hb _ _ _ _ (by
      intro t ht
      have : t = 33 := by simpa using ht
      subst this
      exact ⟨by kernel_rfl, of_decide_eq_true (by kernel_rfl)⟩) hAk (fun x hx => hlt x (by rw [hbe]; exact List.mem_append_left _ hx))
  · rw [e1]; rfl

theorem first_laid_met (os : Os) : laidMet Tryd.prog Rows.faultFirstRow.laid ((World.doorLaid Tryd.prog 400 os).forCall (fun _ _ => 0) ⟨#[], #[.slice none 0 0], []⟩).memory :=
  laidMet_of_run' 8 (by kernel_rfl) (by kernel_rfl)
theorem first_reads (os : Os) {H : Type} (enc : TypeId × Value → H) : ∃ places, DataW.whole enc Tryd.prog ((World.doorLaid Tryd.prog 400 os).forCall (fun _ _ => 0) ⟨#[], #[.slice none 0 0], []⟩).memory Tryd.f5.params.toList Rows.faultFirstSpec.vars false #[Value.slice none 0 0].toList 8 = some ([.nil], [], places) :=
  ⟨[], by kernel_rfl⟩

set_option maxRecDepth 100000 in
theorem first_lifted (os : Os) (started : os.Started) (H : Type) (enc : TypeId × Value → H) (F : Stop.Interp) :
    ReturnsInHanded {} Tryd.checked os 5 .any ((OpenSpec.ofChange Rows.faultFirstSpec).preRow enc Tryd.prog Tryd.f5 Rows.faultFirstRow.domain false Rows.faultFirstRow.laid) (((OpenSpec.ofChange Rows.faultFirstSpec).at F).post enc Tryd.prog Tryd.f5 false true false false) := by
  obtain ⟨places, hx⟩ := first_reads os enc
  refine returnsInHanded_of_row (C := Tryd.checked) (s := OpenSpec.ofChange Rows.faultFirstSpec) own started (by kernel_rfl) Tryd.func5
    (witness_row_atRef (enc := enc) (C := Tryd.checked) false (World.doorLaid Tryd.prog 400 os) #[.slice none 0 0] rfl (by kernel_rfl) (by kernel_rfl) (by kernel_rfl)
      (OpenSpec.preRow_of_cond 8 hx (by kernel_rfl) (fun k hk => by cases hk) (by kernel_rfl) (first_laid_met os))) ?_
  intro W base args ds gs before hval hW _ _ _ hL hsh _
  exact first_contract H enc W base args ds gs before hval hW hL hsh

theorem first_said : Rows.FaultFirstSaid :=
  OpenClaim.holds_of_cond 5 Tryd.f5 rfl rfl rfl rfl rfl rfl rfl ⟨rfl, rfl, rfl, rfl, rfl⟩ rfl rfl rfl rfl rfl (by kernel_rfl) Tryd.func5 (by kernel_rfl)
    (of_decide_eq_true (by kernel_rfl)) (by unfold Func.isWrapper; first | (rw [if_pos (by decide +kernel)]; kernel_rfl) | (rw [if_neg (by decide +kernel)]; exact ⟨rfl, rfl⟩))
    (fun os started H enc _ F => by rw [OpenClaim.pre_eq_preRow]; exact first_lifted os started H enc F)

/-- No parameter wants a stand-in; what the program's own reckoning says of looks: what the card asks. -/
theorem first_plain (f : FuncId) (fn : Func) (hf : Tryd.pinned.checked.prog.funcNamed "variorum/variorumlaw01.FaultFirst" = some f) (hfn : Tryd.pinned.checked.prog.funcs[f]? = some fn) :
    true = Tryd.pinned.checked.prog.looks [] ∧ ∀ (j : Nat) t, fn.params[j]? = some t → Tryd.pinned.checked.prog.wantsStandIn t = false := by
  obtain rfl : f = 5 := Option.some.inj ((show Tryd.prog.funcNamed "variorum/variorumlaw01.FaultFirst" = some 5 by kernel_rfl).symm.trans hf) |>.symm
  obtain rfl : fn = Tryd.f5 := (Option.some.inj (Tryd.func5.symm.trans hfn)).symm
  refine ⟨by kernel_rfl, fun j t ht => ?_⟩
  rw [Tryd.params5] at ht
  obtain rfl : t = 33 := by simpa using Array.mem_of_getElem? ht
  exact (show Tryd.prog.wantsStandIn 33 = false by kernel_rfl)

/-- THE CARD. -/
theorem faultFirst_card : Rows.FaultFirstCardSaid :=
  Claim7.holds_tied_plain_at .later [] _ _ _ _ first_said (fun _ h => by cases h) (by kernel_rfl) (fun _ h => by cases h) faultFirst_row_tie rfl ⟨rfl, rfl⟩ (by kernel_rfl) rfl first_plain (by kernel_rfl)
end Go.Proofs.YthiaeppaaahlgaaDoor
