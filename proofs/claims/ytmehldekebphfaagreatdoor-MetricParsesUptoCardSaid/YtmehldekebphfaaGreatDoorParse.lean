/-
  The program's Parse: it answers what the plain mathematics tells, for every text.
-/
import Derived.Test.YtmehldekebphfaaGreatDoorCuts
set_option linter.unusedVariables false
set_option linter.unusedSimpArgs false
namespace Go.Proofs.YtmehldekebphfaaGreatDoor
open Go.RowKit

def parseV (l : List UInt8) : Int := (Sc.parse l).getD 0
def parseB (l : List UInt8) : Bool := (Sc.parse l).isSome
theorem parse_none {l : List UInt8} (h : Sc.body (Sc.unsigned l) = none) : parseV l = 0 ∧ parseB l = false := by
  have : Sc.parse l = none := by unfold Sc.parse; rw [h]; rfl
  unfold parseV parseB
  rw [this]; exact ⟨rfl, rfl⟩
theorem parse_some {l : List UInt8} {m : Nat} (h : Sc.body (Sc.unsigned l) = some m) : Sc.fitV (Sc.sgn (Sc.neg l) m) = parseV l ∧ Sc.fits (Sc.sgn (Sc.neg l) m) = parseB l := by
  have : Sc.parse l = if Sc.fits (Sc.sgn (Sc.neg l) m) then some (Sc.sgn (Sc.neg l) m) else none := by unfold Sc.parse; rw [h]; rfl
  unfold parseV parseB Sc.fitV
  rw [this]
  cases Sc.fits (Sc.sgn (Sc.neg l) m) <;> exact ⟨rfl, rfl⟩
theorem body_bad {t : List UInt8} (h : Sc.digs (Lib.cut t [46]).1 = false) : Sc.body t = none := by unfold Sc.body; rw [h, if_neg (by decide)]
theorem body_plain {t : List UInt8} (h : Sc.digs (Lib.cut t [46]).1 = true) (hd : (Lib.cut t [46]).2.2 = false) : Sc.body t = some (65536 * min (Fm.spell 0 (Lib.cut t [46]).1) 16384) := by
  unfold Sc.body; rw [h, hd, if_pos rfl, if_neg (show ¬ (false = true) by decide)]
theorem body_no {t : List UInt8} (h : Sc.digs (Lib.cut t [46]).1 = true) (hd : (Lib.cut t [46]).2.2 = true) (hf : Sc.fracB (Lib.cut t [46]).2.1 = false) : Sc.body t = none := by
  unfold Sc.body; rw [h, hd, hf, if_pos rfl, if_pos rfl, if_neg (show ¬ (false = true) by decide)]
theorem body_yes {t : List UInt8} (h : Sc.digs (Lib.cut t [46]).1 = true) (hd : (Lib.cut t [46]).2.2 = true) (hf : Sc.fracB (Lib.cut t [46]).2.1 = true) :
    Sc.body t = some (65536 * min (Fm.spell 0 (Lib.cut t [46]).1) 16384 + (Sc.facc (Lib.cut t [46]).2.1 + 1) / 2) := by
  unfold Sc.body; rw [h, hd, hf, if_pos rfl, if_pos rfl, if_pos rfl]
theorem hasPrefix_neg (l : List UInt8) : Lib.hasPrefix l [45] = Sc.neg l := by
  cases l with
  | nil => rfl
  | cons c r =>
    show ((45 : UInt8) == c && true) = (some c == some 45)
    by_cases h : c = 45
    · rw [h]; rfl
    · have h1 : ((45 : UInt8) == c) = false := beq_eq_false_iff_ne.2 (Ne.symm h)
      have h2 : (some c == some (45 : UInt8)) = false := beq_eq_false_iff_ne.2 (fun e => h (Option.some.inj e))
      rw [h1, h2]; rfl
theorem trim_unsigned (l : List UInt8) : Lib.trimPrefix l [45] = Sc.unsigned l := by
  unfold Lib.trimPrefix Sc.unsigned
  rw [hasPrefix_neg]; rfl
theorem unsigned_le (l : List UInt8) : (Sc.unsigned l).length ≤ l.length := by
  unfold Sc.unsigned
  split
  · rw [List.length_drop]; omega
  · exact Nat.le_refl _
theorem cut_le (l sep : List UInt8) : (Lib.cut l sep).1.length ≤ l.length ∧ (Lib.cut l sep).2.1.length ≤ l.length := by
  unfold Lib.cut
  split
  · exact ⟨by rw [List.length_take]; omega, by rw [List.length_drop]; omega⟩
  · exact ⟨Nat.le_refl _, Nat.zero_le _⟩
theorem prefix_any (s : ByteArray) (w : World) : Calls Tryz.prog 121 #[.string s, .string ⟨#[45]⟩] w (Is (.tuple #[.string ⟨(Sc.unsigned s.data.toList).toArray⟩, .bool (Sc.neg s.data.toList)]) w) := by
  refine (Tryz.strings_CutPrefix s ⟨#[45]⟩ w).mono ?_
  rintro e w' ⟨he, rfl⟩
  refine ⟨?_, rfl⟩
  rw [he, ← hasPrefix_neg, ← trim_unsigned]
theorem small_points (l : List UInt8) : 65536 * min (Fm.spell 0 l) 16384 ≤ 1073741824 := by omega
theorem small_frac {l : List UInt8} (h : Sc.digs l = true) : (Sc.facc l + 1) / 2 ≤ 65536 := by
  have := Sc.facc_le l (Sc.digs_dig h)
  omega

set_option maxHeartbeats 4000000 in
set_option maxRecDepth 100000 in
theorem parse_any (s : ByteArray) (hs : s.size ≤ 9223372036854775807) (w : World) : Calls Tryz.prog 108 #[.string s] w (Ret (Two (parseV s.data.toList) (parseB s.data.toList)) w) := by
  have HPx : Hid (∀ w : World, Calls Tryz.prog 121 #[.string s, .string ⟨#[45]⟩] w (Is (.tuple #[.string ⟨(Sc.unsigned s.data.toList).toArray⟩, .bool (Sc.neg s.data.toList)]) w)) := prefix_any s
  obtain ⟨l, hl⟩ : ∃ l, l = s.data.toList := ⟨_, rfl⟩
  rw [← hl] at HPx ⊢
  obtain ⟨t, ht⟩ : ∃ t, t = Sc.unsigned l := ⟨_, rfl⟩
  have hts : t.length ≤ 9223372036854775807 := by
    have := unsigned_le l
    rw [ht]; rw [Lib.size_eq, ← hl] at hs; omega
  have hcl := cut_le t [46]
  have hcs : (⟨t.toArray⟩ : ByteArray).size ≤ 9223372036854775807 := hts
  have HCx : Hid (∀ w : World, Calls Tryz.prog 46 #[.string ⟨t.toArray⟩, .string ⟨#[46]⟩] w (fun e w' => e = .returned (.tuple #[.string ⟨(Lib.cut t [46]).1.toArray⟩, .string ⟨(Lib.cut t [46]).2.1.toArray⟩, .bool (Lib.cut t [46]).2.2]) ∧ ∃ n, w' = w.drewN n)) := cut_one ⟨t.toArray⟩ hcs 46
  have hb0 := @body_bad t
  have hb1 := @body_plain t
  have hb2 := @body_no t
  have hb3 := @body_yes t
  have hps : (⟨(Lib.cut t [46]).1.toArray⟩ : ByteArray).size ≤ 9223372036854775807 := by
    show (Lib.cut t [46]).1.length ≤ _
    omega
  have hfs : (⟨(Lib.cut t [46]).2.1.toArray⟩ : ByteArray).size ≤ 9223372036854775807 := by
    show (Lib.cut t [46]).2.1.length ≤ _
    omega
  clear hcl hcs
  obtain ⟨p, hp⟩ : ∃ p, p = (Lib.cut t [46]).1 := ⟨_, rfl⟩
  obtain ⟨f, hf⟩ : ∃ f, f = (Lib.cut t [46]).2.1 := ⟨_, rfl⟩
  obtain ⟨dot, hdot⟩ : ∃ dot, dot = (Lib.cut t [46]).2.2 := ⟨_, rfl⟩
  rw [← hp] at hb0 hb1 hb2 hb3 HCx hps
  rw [← hf] at hb2 hb3 HCx hfs
  rw [← hdot] at hb1 hb2 hb3 HCx
  rw [← ht] at HPx
  have hn := @parse_none l
  have hy := @parse_some l
  rw [← ht] at hn hy
  obtain ⟨ng, hng⟩ : ∃ ng, ng = Sc.neg l := ⟨_, rfl⟩
  rw [← hng] at HPx hy
  clear hp hf hdot ht hng hl
  cases hd : Sc.digs p with
  | false =>
    have HO := Lib.hid (hn (hb0 hd))
    have HPts := Lib.hid (points_no ⟨p.toArray⟩ hps hd)
    clear hn hy hb0 hb1 hb2 hb3 hd
    go_enter Tryz.func108, Tryz.ntmps108
    go_wp2_with fail
    refine (HPx.out _).mono ?_
    rintro e w' ⟨rfl, rfl⟩
    go_wp2_with fail
    refine (HCx.out _).mono ?_
    rintro e w' ⟨rfl, nd, rfl⟩
    go_wp2_with fail
    refine (HPts.out _).mono ?_
    rintro e w' ⟨rfl, rfl⟩
    go_wp2_with fail
    go_ret2
    exact ⟨ret_pair ⟨HO.out.1.symm, HO.out.2.symm⟩, below_drew _ _⟩
  | true =>
    have hP1 := small_points p
    have HPts0 := points_yes ⟨p.toArray⟩ hps hd
    obtain ⟨P, hP⟩ : ∃ P, P = 65536 * min (Fm.spell 0 p) 16384 := ⟨_, rfl⟩
    have HPts0 : ∀ w : World, Calls Tryz.prog 122 #[.string ⟨p.toArray⟩] w (Is (Two (P : Int) true) w) := by rw [hP]; exact HPts0
    rw [← hP] at hb1 hb3 hP1
    have HPts := Lib.hid HPts0
    clear HPts0 hP
    cases dot with
    | false =>
      cases ng
      all_goals
        have HO := Lib.hid (hy (hb1 hd rfl))
        clear hn hy hb0 hb1 hb2 hb3 hd
        go_enter Tryz.func108, Tryz.ntmps108
        go_wp2_with fail
        refine (HPx.out _).mono ?_
        rintro e w' ⟨rfl, rfl⟩
        go_wp2_with fail
        refine (HCx.out _).mono ?_
        rintro e w' ⟨rfl, nd, rfl⟩
        go_wp2_with fail
        refine (HPts.out _).mono ?_
        rintro e w' ⟨rfl, rfl⟩
        go_wp2_with fail
        refine (fitted_any _ _).mono ?_
        rintro e w' ⟨rfl, rfl⟩
        go_wp2_with fail
        go_ret2
        exact ⟨ret_pair HO.out, below_drew _ _⟩
    | true =>
      by_cases h17 : f.length ≤ 17
      · cases hfd : Sc.digs f with
        | false =>
          have hfb : Sc.fracB f = false := by unfold Sc.fracB; rw [hfd, Bool.and_false]
          have HO := Lib.hid (hn (hb2 hd rfl hfb))
          have HF := Lib.hid (fraction_no ⟨f.toArray⟩ h17 hfd)
          clear hn hy hb0 hb1 hb2 hb3 hd hfb hfd
          go_enter Tryz.func108, Tryz.ntmps108
          go_wp2_with fail
          refine (HPx.out _).mono ?_
          rintro e w' ⟨rfl, rfl⟩
          go_wp2_with fail
          refine (HCx.out _).mono ?_
          rintro e w' ⟨rfl, nd, rfl⟩
          go_wp2_with fail
          refine (HPts.out _).mono ?_
          rintro e w' ⟨rfl, rfl⟩
          go_wp2_with fail
          refine (HF.out _).mono ?_
          rintro e w' ⟨rfl, rfl⟩
          go_wp2_with fail
          go_ret2
          exact ⟨ret_pair ⟨HO.out.1.symm, HO.out.2.symm⟩, below_drew _ _⟩
        | true =>
          have hfb : Sc.fracB f = true := by unfold Sc.fracB; rw [hfd, decide_eq_true h17]; rfl
          have hF1 := small_frac hfd
          have HF0 := fraction_yes ⟨f.toArray⟩ h17 hfd
          obtain ⟨F, hF⟩ : ∃ F, F = (Sc.facc f + 1) / 2 := ⟨_, rfl⟩
          have HF0 : ∀ w : World, Calls Tryz.prog 123 #[.string ⟨f.toArray⟩] w (Is (Two (F : Int) true) w) := by rw [hF]; exact HF0
          rw [← hF] at hb3 hF1
          have HF := Lib.hid HF0
          clear HF0 hF
          cases ng
          all_goals
            have ho := hy (hb3 hd rfl hfb)
            unfold Sc.sgn at ho
            simp only [if_true, if_false, Bool.false_eq_true, Int.natCast_add] at ho
            have HO := Lib.hid ho
            clear hn hy hb0 hb1 hb2 hb3 hd hfb hfd ho
            go_enter Tryz.func108, Tryz.ntmps108
            go_wp2_with fail
            refine (HPx.out _).mono ?_
            rintro e w' ⟨rfl, rfl⟩
            go_wp2_with fail
            refine (HCx.out _).mono ?_
            rintro e w' ⟨rfl, nd, rfl⟩
            go_wp2_with fail
            refine (HPts.out _).mono ?_
            rintro e w' ⟨rfl, rfl⟩
            go_wp2_with fail
            refine (HF.out _).mono ?_
            rintro e w' ⟨rfl, rfl⟩
            go_wp2_with fail
            refine (fitted_any _ _).mono ?_
            rintro e w' ⟨rfl, rfl⟩
            go_wp2_with fail
            go_ret2
            exact ⟨ret_pair HO.out, below_drew _ _⟩
      · have hfb : Sc.fracB f = false := by unfold Sc.fracB; rw [decide_eq_false h17]; rfl
        have HO := Lib.hid (hn (hb2 hd rfl hfb))
        have HF := Lib.hid (fraction_long ⟨f.toArray⟩ hfs (show 17 < f.length by omega))
        clear hn hy hb0 hb1 hb2 hb3 hd hfb
        go_enter Tryz.func108, Tryz.ntmps108
        go_wp2_with fail
        refine (HPx.out _).mono ?_
        rintro e w' ⟨rfl, rfl⟩
        go_wp2_with fail
        refine (HCx.out _).mono ?_
        rintro e w' ⟨rfl, nd, rfl⟩
        go_wp2_with fail
        refine (HPts.out _).mono ?_
        rintro e w' ⟨rfl, rfl⟩
        go_wp2_with fail
        refine (HF.out _).mono ?_
        rintro e w' ⟨rfl, rfl⟩
        go_wp2_with fail
        go_ret2
        exact ⟨ret_pair ⟨HO.out.1.symm, HO.out.2.symm⟩, below_drew _ _⟩
end Go.Proofs.YtmehldekebphfaaGreatDoor
