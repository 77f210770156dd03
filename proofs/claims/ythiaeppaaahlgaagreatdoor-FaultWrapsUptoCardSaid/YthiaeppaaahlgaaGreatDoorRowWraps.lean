/-
  PROVED: the law FaultWraps where what it is handed is of bulk at most 1048576: a stage more stands ahead of the text, and of the stages that are found; the fault stays.
  Conditions: the bulk; the package-level variables that the row lists hold what the program's text lays in them (the card ties them).
-/
import Derived.Test.YthiaeppaaahlgaaGreatDoorOpen
import Derived.Test.YthiaeppaaahlgaaGreatDoorLawWraps
set_option linter.unusedVariables false
set_option linter.unusedSimpArgs false
namespace Go.Proofs.YthiaeppaaahlgaaGreatDoor
open Go.ChangeShapes Go.WideShapes Go.ChangeAt Go.RowKit

theorem lenSum_append (x y : List ByteArray) : lenSum (x ++ y) = lenSum x + lenSum y := by simp [lenSum]
/-- stages, as they come in, as something that can be appended -/
theorem strs_src {H : Type} {enc : TypeId × Value → H} {W : World} {base : Nat} {held : Bool} {spare : Nat → Bool} {v : Value} {d : DataW H} {p : List MemPlace}
    (h : DataW.Trod enc Tryz.prog W base spare held 25 v d p) (hs : v.cells.toList = [v]) :
    ∃ (ns : List ByteArray) (q : Option Addr) (cap : Nat), v = .slice q ns.length cap ∧ StrsAt W v ns ∧ Src W q ns cap ∧ lenSum ns ≤ Rows.uptoBulk d := by
  obtain ⟨fuel, hf⟩ := h
  rw [hs] at hf
  rcases open_strings Tryz.underlying25 Tryz.underlying9 cellsStr hf with ⟨hc, hx⟩ | ⟨a, len, cap, ss, hc, _, hl, hm, hlen, hx, hcell, hsz⟩
  · injection hc with hc _
    exact ⟨[], none, 0, hc, by rw [hc]; exact ⟨⟨none, 0, rfl⟩, Nat.zero_le _, fun h => absurd h (Nat.lt_irrefl 0)⟩, .inl ⟨rfl, rfl, rfl⟩, by simp [lenSum]⟩
  · injection hc with hc _
    injection hx with hd _
    have hlm : len ≤ ss.length := by rw [hlen]; split <;> omega
    have hln : (ss.take len).length = len := by rw [List.length_take]; omega
    have hat : ∀ (i : Nat) (s : ByteArray), (ss.take len)[i]? = some s → W.cell? (a.add i) = some (.string s) := by
      intro i s hi
      have hil : i < len := by
        rcases Nat.lt_or_ge i len with h' | h'
        · exact h'
        · rw [List.getElem?_eq_none (by rw [hln]; exact h')] at hi; cases hi
      have h1 := hcell i (by omega)
      rw [List.getElem?_take_of_lt hil] at hi
      rw [show ss.getD i ByteArray.empty = s by rw [List.getD_eq_getElem?_getD, hi]; rfl] at h1
      exact h1
    refine ⟨ss.take len, some a, cap, by rw [hc, hln], ⟨⟨some a, cap, by rw [hc, hln]⟩, by rw [hln]; omega, fun hp => ?_⟩, .inr ⟨a, rfl, hat⟩, ?_⟩
    · rw [hln] at hp
      obtain ⟨b, off, spot⟩ := a
      have hspot : spot = none := by simpa [Addr.add] using World.cell?_spot (hcell 0 (by omega))
      subst hspot
      refine ⟨b, off, cap, by rw [hc, hln], fun i s hi => ?_⟩
      have h1 := hat i s hi
      rw [Go.WideShapes.add_plain] at h1
      exact h1
    · rw [hd]
      simp only [Rows.uptoBulk, bulkAll_strs]
      have : lenSum (ss.take len) ≤ lenSum ss := by
        have := lenSum_append (ss.take len) (ss.drop len)
        rw [List.take_append_drop] at this
        omega
      omega

set_option maxRecDepth 100000 in
/-- WHAT THE WALK GIVES, FOR EVERY ARGUMENT OF SUCH A BULK AND EVERY WORLD THAT HOLDS WHAT THE ROW LISTS. -/
theorem wraps_contract (H : Type) (enc : TypeId × Value → H) (W : World) (base : Nat) (args : Array Value) (ds gs : List (DataW H)) (before : List MemPlace)
    (hval : ∀ (j : Nat) t v, Tryz.f4.params[j]? = some t → args[j]? = some v → Value.okWide Tryz.prog W .any base t v)
    (hW : DataW.Whole enc Tryz.prog Tryz.f4.params.toList Rows.faultWrapsSpec.vars false W args.toList ds gs before) (hL : laidMetH Tryz.prog Rows.faultWrapsRow.laid W) (hsh : W.ShapedOpen Tryz.prog)
    (hk : Rows.uptoSmall H (ds ++ gs) = true) :
    Calls Tryz.prog 4 args W fun e W' => ∃ v, e = .returned v ∧ Rows.faultWrapsSpec.post enc Tryz.prog Tryz.f4 false true false false W args v W' := by
  have hW' := hW
  have hlt : ∀ x ∈ before, x.block < W.heap.size := fun x hx => hW'.lt x hx
  obtain ⟨p, q, hA0, hV, hbe, hfz, hnd⟩ := hW
  have hA : DataW.TrodAll enc Tryz.prog W 0 (fun _ => true) true Tryz.f4.params.toList args.toList ds p := hA0
  rw [Tryz.params4] at hA hval
  have hAk := hA
  obtain ⟨v0, vs0, d0, ds0, p0, q0, hargs, rfl, rfl, h0, r0⟩ := trodAll_cons hA
  obtain ⟨v1, vs1, d1, ds1, p1, q1, rfl, rfl, rfl, h1, r1⟩ := trodAll_cons r0
  obtain ⟨v2, vs2, d2, ds2, p2, q2, rfl, rfl, rfl, h2, r2⟩ := trodAll_cons r1
  obtain ⟨rfl, rfl, rfl⟩ := trodAll_nil r2
  obtain rfl : args = #[v0, v1, v2] := by cases args; simp_all
  obtain ⟨rfl, rfl⟩ := trodVars_none hV
  have hb : Rows.uptoBulkAll ([d0, d1, d2] ++ []) ≤ 1048576 := of_decide_eq_true hk
  simp only [List.append_nil, Rows.uptoBulkAll] at hb
  obtain ⟨c, a, rfl, hc, ha⟩ := flt_open (hval 0 _ v0 rfl rfl) h0
  obtain ⟨pa, len, cap, rfl⟩ := okWide_slice Tryz.underlying25 (hval 1 _ v1 rfl rfl)
  obtain ⟨ns, p', cap', hpc, hns, hsrc, hsum⟩ := strs_src h1 rfl
  obtain ⟨more, rfl, rfl, _, _⟩ := Go.ChangeMaps.open_string Tryz.underlying9 (hval 2 _ v2 rfl rfl) h2
  have hE := env_of_laid hL hsh
  have hT := errTy_of_laid hL
  have hl : (Fm.chainText c a (lns (more :: ns))).length ≤ 140737488355328 := by
    have := chain_len c a hc ha ns
    simp only [Rows.uptoBulk] at hb
    rw [chain_cons]
    simp only [List.length_append, List.length_cons, List.length_nil]
    omega
  rw [hpc] at hns hAk hW' ⊢
  refine (lawWraps_any c a hc ha ns _ _ more W hE hT hns hsrc hl).mono fun e W' ⟨he, hb⟩ => ?_
  subst he
  obtain ⟨D1, hD1⟩ : ∃ D, D = (DataW.lit (H := H) (.string more.data.toList)) := ⟨_, rfl⟩
  rw [← hD1] at hAk hW'
  have e1 : Rows.faultWrapsSpec.fn H ([d0, d1, D1] ++ []) = { results := [.lit (.bool true)], args := [d0, d1, D1] } := rfl
  refine ⟨_, rfl, [d0, d1, D1], [], before, [], p0 ++ (p1 ++ (p2 ++ [])), [], hW', ?_, ?_, ?_, hb.frame _, fun h => by cases h⟩
  · rw [e1]; exact trodAll_mk1 (shut_bool Tryz.underlying4 true)
  · rw [e1, Tryz.params4]
    exact args_kept laidOut hb _ _ _ _ (by
      intro t ht
      have : t = 24 ∨ t = 25 ∨ t = 9 := by simpa using ht
      rcases this with rfl | rfl | rfl
      all_goals exact ⟨by kernel_rfl, of_decide_eq_true (by kernel_rfl)⟩) hAk (fun x hx => hlt x (by rw [hbe]; exact List.mem_append_left _ hx))
  · rw [e1]; rfl

theorem wraps_laid_met (os : Os) : laidMetH Tryz.prog Rows.faultWrapsRow.laid ((World.doorLaid Tryz.prog 400 os).forCall (fun _ _ => 0) ⟨#[], #[.agg #[.int .i64 0, .int .i64 0], .slice none 0 0, .string ByteArray.empty], []⟩).memory :=
  laidMetH_of_parts (laidMet_of_run' 8 (by kernel_rfl) (by kernel_rfl)) (by kernel_rfl)
theorem wraps_reads (os : Os) {H : Type} (enc : TypeId × Value → H) : ∃ places, DataW.whole enc Tryz.prog ((World.doorLaid Tryz.prog 400 os).forCall (fun _ _ => 0) ⟨#[], #[.agg #[.int .i64 0, .int .i64 0], .slice none 0 0, .string ByteArray.empty], []⟩).memory Tryz.f4.params.toList Rows.faultWrapsSpec.vars false #[Value.agg #[.int .i64 0, .int .i64 0], .slice none 0 0, .string ByteArray.empty].toList 8 = some ([.agg [.lit (.int .i64 0), .lit (.int .i64 0)], .nil, .lit (.string [])], [], places) :=
  ⟨[], by kernel_rfl⟩

set_option maxRecDepth 100000 in
theorem wraps_lifted (os : Os) (started : os.Started) (H : Type) (enc : TypeId × Value → H) (F : Stop.Interp) :
    ReturnsInHanded {} Tryz.checked os 4 .any ((Rows.OpenSpec.upto Rows.faultWrapsSpec).preRow enc Tryz.prog Tryz.f4 Rows.faultWrapsUptoRow.domain false Rows.faultWrapsUptoRow.laid) (((Rows.OpenSpec.upto Rows.faultWrapsSpec).at F).post enc Tryz.prog Tryz.f4 false true false false) := by
  obtain ⟨places, hx⟩ := wraps_reads os enc
  refine returnsInHanded_of_row (C := Tryz.checked) (s := Rows.OpenSpec.upto Rows.faultWrapsSpec) own started (by kernel_rfl) Tryz.func4
    (witness_row_atRef (enc := enc) (C := Tryz.checked) false (World.doorLaid Tryz.prog 400 os) #[.agg #[.int .i64 0, .int .i64 0], .slice none 0 0, .string ByteArray.empty] rfl (by kernel_rfl) (by kernel_rfl) (by kernel_rfl)
      (OpenSpec.preRow_of_cond 8 hx (by kernel_rfl) (fun k hk => by cases hk; kernel_rfl) (by kernel_rfl) (wraps_laid_met os))) ?_
  intro W base args ds gs before hval hW _ hcond _ hL hsh _
  exact wraps_contract H enc W base args ds gs before hval hW hL hsh (hcond _ rfl)

theorem wraps_said : Rows.FaultWrapsUptoSaid :=
  OpenClaim.holds_of_cond 4 Tryz.f4 rfl rfl rfl rfl rfl rfl rfl ⟨rfl, rfl, rfl, rfl, rfl⟩ rfl rfl rfl rfl rfl (by kernel_rfl) Tryz.func4 (by kernel_rfl)
    (of_decide_eq_true (by kernel_rfl)) (by unfold Func.isWrapper; first | (rw [if_pos (by decide +kernel)]; kernel_rfl) | (rw [if_neg (by decide +kernel)]; exact ⟨rfl, rfl⟩))
    (fun os started H enc _ F => by rw [OpenClaim.pre_eq_preRow]; exact wraps_lifted os started H enc F)

/-- No parameter wants a stand-in; what the program's own reckoning says of looks: what the card asks. -/
theorem wraps_plain (f : FuncId) (fn : Func) (hf : Tryz.pinned.checked.prog.funcNamed "variorum/variorumlaw01.FaultWraps" = some f) (hfn : Tryz.pinned.checked.prog.funcs[f]? = some fn) :
    true = Tryz.pinned.checked.prog.looks [] ∧ ∀ (j : Nat) t, fn.params[j]? = some t → Tryz.pinned.checked.prog.wantsStandIn t = false := by
  obtain rfl : f = 4 := Option.some.inj ((show Tryz.prog.funcNamed "variorum/variorumlaw01.FaultWraps" = some 4 by kernel_rfl).symm.trans hf) |>.symm
  obtain rfl : fn = Tryz.f4 := (Option.some.inj (Tryz.func4.symm.trans hfn)).symm
  refine ⟨by kernel_rfl, fun j t ht => ?_⟩
  rw [Tryz.params4] at ht
  have : t = 24 ∨ t = 25 ∨ t = 9 := by simpa using Array.mem_of_getElem? ht
  rcases this with rfl | rfl | rfl
  · exact (show Tryz.prog.wantsStandIn 24 = false by kernel_rfl)
  · exact (show Tryz.prog.wantsStandIn 25 = false by kernel_rfl)
  · exact (show Tryz.prog.wantsStandIn 9 = false by kernel_rfl)

/-- THE CARD. -/
theorem faultWraps_upto_card : Rows.FaultWrapsUptoCardSaid :=
  Claim7.holds_tied_plain_at .later [] _ _ _ _ wraps_said (fun _ h => by cases h) (by kernel_rfl) (fun _ h => by cases h) faultWrapsUpto_row_tie rfl ⟨rfl, rfl⟩ (by kernel_rfl) rfl wraps_plain (by kernel_rfl)
end Go.Proofs.YthiaeppaaahlgaaGreatDoor
