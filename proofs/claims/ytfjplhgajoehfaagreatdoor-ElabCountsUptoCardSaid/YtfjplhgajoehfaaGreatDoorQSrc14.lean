/-
  The landed make: a source visited, and finished.
-/
import Derived.Test.YtfjplhgajoehfaaGreatDoorQFin14
import Derived.Test.YtfjplhgajoehfaaGreatDoorQPres14
set_option linter.unusedVariables false
set_option linter.unusedSimpArgs false
namespace Go.Proofs.YtfjplhgajoehfaaGreatDoor
open Go.RowKit

theorem sideOp_grows {t : List (List UInt8)} {k : Nat} {s : El.St} {n : El.Nd} {s' : El.St} (hk : (El.args n).length = 1) (h : El.sideOp t k s n = .ok s') : El.sz s' ≤ El.sz s + El.sizeN n := by
  obtain ⟨s1, e1, e2⟩ := El.then_ok' h
  split at e2
  · cases e2
  · cases e2
    have h1 := El.visit_grows (sideTake_grows t k) _ _ _ e1
    have h2 := sz_side s
    have h3 := node_size n (i := 0) (by omega)
    have h4 : El.sz { s1 with sides := s1.sides ++ [⟨s1.chunks, s1.words, s1.notes⟩] } = El.sz s1 + 1 := by unfold El.sz; simp only [List.length_append, List.length_singleton]; omega
    omega
theorem sourceTake_grows (t : List (List UInt8)) (k : Nat) : Grows (El.sourceTake t k) := by
  refine take_grows (fun f hf => by cases hf) (fun x j f h s n s' hk e => ?_)
  unfold El.sourceRules at h
  split at h
  · cases h; exact sideOp_grows hk e
  · cases h
def sourceV (E : Env14) : Value := .agg #[.string (str nmSource), .nilFunc, .map (some E.bs)]
theorem enters_takeSide : Enters 51 := enters_of Tryz.func51 (by kernel_rfl) rfl
theorem sourceV_visit (E : Env14) (hL : LibEnv E.w0) : VisitC E 0 0 (sourceV E) (El.sourceTake (Sg.keys E.t) El.deepest) := by
  refine visit_any E 0 0 nmSource _ _ _ (sourceTake_grows _ _) ?_
  refine takeC_gen E 0 0 nmSource _ _ E.bs E.mSource _ _ (.inr ⟨rfl, fun S w1 hst => hst.ms⟩) rfl (fun x => ?_)
  unfold El.sourceRules Env14.mSource
  by_cases h1 : x = El.tText
  · rw [if_pos (.inl h1)]
    exact ⟨_, by unfold look; rw [if_pos h1], .inl ⟨_, rfl, enters_takeSide, takeSide_any E hL⟩⟩
  · by_cases h2 : x = El.tLeft
    · rw [if_pos (.inr (.inl h2))]
      exact ⟨_, by unfold look; rw [if_neg h1]; unfold look; rw [if_pos h2], .inl ⟨_, rfl, enters_takeSide, takeSide_any E hL⟩⟩
    · by_cases h3 : x = El.tRight
      · rw [if_pos (.inr (.inr h3))]
        exact ⟨_, by unfold look; rw [if_neg h1]; unfold look; rw [if_neg h2]; unfold look; rw [if_pos h3], .inl ⟨_, rfl, enters_takeSide, takeSide_any E hL⟩⟩
      · rw [if_neg (fun h => h.elim h1 (fun h => h.elim h2 h3))]
        simp [look, h1, h2, h3]
set_option maxHeartbeats 1000000 in
set_option maxRecDepth 100000 in
theorem make_any (E : Env14) (hL : LibEnv E.w0) (S : Nat → Prop) (w1 : World) (hst : Stat14 E S w1) (l : List El.Nd) (v : Value) (w : World) (hl : NodesAt E.w0 (fun _ => True) v l) (hsz : El.sizeL l ≤ lim14) (hmk : MK E S w1 0 0 El.St.none w) :
    Calls Tryz.prog 30 #[E.m, v] w (Out14 E S w1 0 0 (El.made (Sg.keys E.t) El.deepest l)) := by
  have HV := Lib.hid (sourceV_visit E hL S w1 hst l v El.St.none w hl (by show 0 + El.sizeL l ≤ lim14; omega) hmk)
  obtain ⟨K, y, h⟩ := hmk
  have c0 := h.c0
  have c1 := h.c1
  have c2 := h.c2
  have HN := Lib.hid hl
  obtain ⟨⟨pl, cl, rfl, _⟩, _, _⟩ := hl
  have HSD := Lib.hid (fun s' (e : El.visit (El.sourceTake (Sg.keys E.t) El.deepest) El.St.none l = .ok s') => (by have := El.source_sides l _ _ e; simpa [El.St.none] using this : s'.sides.length = l.length))
  unfold El.made
  obtain ⟨r, hr⟩ : ∃ r, r = El.visit (El.sourceTake (Sg.keys E.t) El.deepest) El.St.none l := ⟨_, rfl⟩
  rw [← hr] at HV HSD ⊢
  have q1 := err_nil
  have q2 := err_some
  generalize hln : l.length = ln at *
  have HLN := Lib.hid hln
  clear h hst hsz hr hln hL
  unfold sourceV at HV
  unfold Env14.m at *
  go_enter Tryz.func30, Tryz.ntmps30
  go_wp2_with fail
  refine HV.out.mono ?_
  intro e w2 ho
  clear HV c0 c1 c2
  cases r with
  | bad c a =>
    obtain ⟨ns, ev, s2, rfl, he, hm2⟩ := ho
    obtain ⟨T, x, rfl⟩ := he.iface
    have HE := Lib.hid he
    have HM := Lib.hid hm2
    clear he hm2
    go_wp2
    go_ret
    exact ⟨ns, _, s2, rfl, HE.out, HM.out⟩
  | ok s1 =>
    obtain ⟨rfl, hm⟩ := ho
    have HF := Lib.hid (finish_any E S w1 s1 l (.slice pl ln cl) w2 HN.out (by rw [HSD.out s1 rfl, HLN.out]) hm)
    unfold Env14.m at HF
    clear hm
    go_wp2_with fail
    refine HF.out.mono ?_
    intro e w3 ho
    obtain ⟨v9, rfl⟩ := ho.ret
    have HO := Lib.hid ho
    clear ho HF
    go_wp2
    go_ret
    exact HO.out
end Go.Proofs.YtfjplhgajoehfaaGreatDoor
