/-
  The landed notes of a lemma: which commands are notes, and their series.
-/
import Derived.Test.YtfjplhgajoehfaaGreatDoorQFoot14
set_option linter.unusedVariables false
set_option linter.unusedSimpArgs false
namespace Go.Proofs.YtfjplhgajoehfaaGreatDoor
open Go.RowKit

set_option maxHeartbeats 1000000 in
set_option maxRecDepth 100000 in
theorem footF_any (E : Env14) (lev i : Nat) (hi : i < 11) : OpA E lev 3 52 (fun v => #[v, .pointer (some ⟨E.pm, 0, none⟩), .pointer (some ⟨E.q i, 0, none⟩)]) (fun l => l = 1) (El.footOp (Sg.keys E.t) i) := by
  intro S w1 hst n va s w hva har hsz hmk
  have hva2 := hva
  obtain ⟨⟨pa, ca, rfl, _⟩, _, _⟩ := hva2
  have hb := below_alloc w (.cells #[.bool (El.isCmd n), .string (str (El.text n)), .slice pa (El.args n).length ca, .int .i64 (El.loc n)] 89)
  have HC := Lib.hid (takeNote_any E lev i hi S w1 hst n _ s _ hva har hsz (hmk.mono hb))
  have c1 := cell_below hb (mcell (hmk.kept hst.pm.2 hst.pm.1) 0 (v := E.m) rfl)
  have c2 := cell_below hb (mcell (hmk.kept (hst.q i hi).2 (hst.q i hi).1) 0 (v := .int .i64 i) rfl)
  show Calls _ _ #[ndV n (.slice pa (El.args n).length ca), _, _] _ (Out14 E S w1 lev 3 (El.footOp (Sg.keys E.t) i s n))
  obtain ⟨r, hr⟩ : ∃ r, r = El.footOp (Sg.keys E.t) i s n := ⟨_, rfl⟩
  rw [← hr] at HC ⊢
  have HR := Lib.hid (fun e w' (h : Out14 E S w1 lev 3 r e w') => h.ret)
  generalize (El.args n).length = la at *
  clear hb hst hmk hsz hva har hr hi
  unfold Env14.m ndV at *
  go_enter Tryz.func52, Tryz.ntmps52
  go_wp2_with fail
  refine HC.out.mono ?_
  intro e w2 ho
  obtain ⟨v7, rfl⟩ := HR.out _ _ ho
  have HO := Lib.hid ho
  clear ho HC
  go_wp2
  go_ret
  exact HO.out
theorem enters_footF : Enters 52 := enters_of Tryz.func52 (by kernel_rfl) rfl

def zipF : List (List UInt8) → (Nat → Value) → List (List UInt8 × Value)
  | [], _ => []
  | n :: r, f => (n, f 0) :: zipF r (fun i => f (i + 1))
theorem look_zipF (x : List UInt8) : ∀ (L : List (List UInt8)) (f : Nat → Value), look x (zipF L f) = (El.idx L x).map f
  | [], f => rfl
  | n :: r, f => by
    unfold zipF look El.idx
    by_cases h : x = n
    · rw [if_pos h, if_pos h.symm]; rfl
    · rw [if_neg h, if_neg (fun e => h e.symm), look_zipF x r]
      cases El.idx r x <;> rfl
theorem idx_lt {x : List UInt8} : ∀ {L : List (List UInt8)} {i : Nat}, El.idx L x = some i → i < L.length
  | [], i, h => by cases h
  | n :: r, i, h => by
    unfold El.idx at h
    split at h
    · cases h; simp
    · cases hr : El.idx r x with
      | none => rw [hr] at h; cases h
      | some j =>
        rw [hr] at h
        cases h
        have := idx_lt hr
        simp only [List.length_cons]
        omega
theorem mNotes_zip (E : Env14) : E.mNotes 11 = zipF El.seriesL E.foot := rfl
theorem look_notes (E : Env14) (x : List UInt8) : look x (E.mNotes 11) = (El.series x).map E.foot := by rw [mNotes_zip, look_zipF]; rfl
theorem series_lt {x : List UInt8} {i : Nat} (h : El.series x = some i) : i < 11 := idx_lt h

def notesV (E : Env14) : Value := .agg #[.string (str nmNotes), .nilFunc, .map (some E.bn)]
theorem footOp_grows {t : List (List UInt8)} {i : Nat} {s : El.St} {n : El.Nd} {s' : El.St} (hk : (El.args n).length = 1) (h : El.footOp t i s n = .ok s') : El.sz s' ≤ El.sz s + El.sizeN n := by
  unfold El.footOp at h
  cases hv : El.visit (El.noteTake t) { s with said := [] } (El.argN n 0) with
  | bad c a => rw [hv] at h; cases h
  | ok s1 =>
    rw [hv] at h
    cases h
    have h1 := El.visit_grows (noteTake_grows t) _ _ _ hv
    have h2 := node_size n (i := 0) (by omega)
    have h3 : El.sz { s with said := [] } ≤ El.sz s := by unfold El.sz; simp only [List.length_nil]; omega
    have h4 : El.sz { s1 with notes := s1.notes ++ [⟨i, s1.fr, s1.til, s1.said, El.loc n⟩] } = El.sz s1 + 1 := by unfold El.sz; simp only [List.length_append, List.length_singleton]; omega
    omega
theorem notesTake_grows (t : List (List UInt8)) : Grows (El.notesTake t) := by
  refine take_grows (fun f hf => by cases hf) (fun x k f h s n s' hk e => ?_)
  unfold El.notesRules at h
  cases hs : El.series x with
  | none => rw [hs] at h; cases h
  | some i =>
    rw [hs] at h
    cases h
    exact footOp_grows hk e
theorem notesV_visit (E : Env14) (lev : Nat) : VisitC E lev 3 (notesV E) (El.notesTake (Sg.keys E.t)) := by
  refine visit_any E lev 3 nmNotes _ _ _ (notesTake_grows _) ?_
  refine takeC_gen E lev 3 nmNotes _ _ E.bn (E.mNotes 11) _ _ (.inr ⟨rfl, fun S w1 hst => hst.mn⟩) rfl (fun x => ?_)
  unfold El.notesRules
  rw [look_notes]
  cases hs : El.series x with
  | none => rfl
  | some i => exact ⟨_, rfl, .inr (.inr ⟨_, _, _, rfl, enters_footF, footF_any E lev i (series_lt hs)⟩)⟩
end Go.Proofs.YtfjplhgajoehfaaGreatDoor
