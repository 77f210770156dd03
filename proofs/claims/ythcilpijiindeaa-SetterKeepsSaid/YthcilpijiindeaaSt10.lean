/-
  Where a line begins: the landed Start, and the reference's; is one of the items forced?
-/
import Derived.Test.YthcilpijiindeaaCut10
import Derived.Shelf.Abstract
set_option linter.unusedVariables false
set_option linter.unusedSimpArgs false
namespace Go.Proofs.Ythcilpijiindeaa
open Go.RowKit

theorem eg_starts : ∀ args w, (callFunc 49 args).run Try.prog w = .ok (.enter 49 args) w := enters_of Try.func49 (by kernel_rfl) rfl
theorem eg_forced : ∀ args w, (callFunc 65 args).run Try.prog w = .ok (.enter 65 args) w := enters_of Try.func65 (by kernel_rfl) rfl
theorem st_idx (l : List It.Itm) (s : Nat) (hs : s ≤ l.length) : (idxOf It.startsB (l.drop s) < 0 → It.st l s = l.length) ∧ (0 ≤ idxOf It.startsB (l.drop s) → (s : Int) + idxOf It.startsB (l.drop s) = It.st l s) := by
  have hl : (l.drop s).findIdx It.startsB ≤ (l.drop s).length := List.findIdx_le_length
  rw [List.length_drop] at hl
  unfold idxOf It.st
  rw [List.length_drop]
  split <;> constructor <;> intro h <;> omega
theorem st_bound (l : List It.Itm) (s : Nat) (hs : s ≤ l.length) : s ≤ It.st l s ∧ It.st l s ≤ l.length := by
  have hl : (l.drop s).findIdx It.startsB ≤ (l.drop s).length := List.findIdx_le_length
  rw [List.length_drop] at hl
  unfold It.st
  omega

set_option maxHeartbeats 2000000 in
set_option maxRecDepth 100000 in
theorem start_any (v : Value) (l : List It.Itm) (a : Int) (s : Nat) (hs : a + 1 = (s : Int)) (hl : s ≤ l.length) (w : World) (h : ItsAt w v l) : Calls Try.prog 29 #[v, .int .i64 a] w (Ret (.int .i64 (It.st l s : Int)) w) := by
  have HA := Lib.hid h
  obtain ⟨⟨p, cp, rfl, hcap⟩, hm, _⟩ := h
  have hza : l.length ≤ 9223372036854775807 := by unfold maxLen at hm; omega
  have HI := Lib.hid (fun w h => idx_any _ eg_starts It.startsB startsLine_any (.slice (tailA p s cp) (l.length - s) (cp - s)) (l.drop s) w h)
  have HT := Lib.hid (slc_tail HA.out s hl)
  have HD := Lib.hid (st_idx l s hl)
  have hs1 := fun wx => run_tail9 p l.length s cp hl wx
  have hs2 : ∀ wx, (Instr.sliceAt 22 (.slice p l.length cp) (some (.int .i64 (s : Int))) none none).run Try.prog wx = .ok (.slice (tailA p s cp) (l.length - s) (cp - s)) wx := fun wx => by rw [run_sliceAt_slice (h := by rw [elemIt]; exact Try.underlying22)]; exact hs1 wx
  obtain ⟨r, hr⟩ : ∃ r, r = It.st l s := ⟨_, rfl⟩
  have hrw : wrap64 (r : Int) = r := w64 (by omega) (by have := st_bound l s hl; omega)
  rw [← hr] at HD ⊢
  generalize idxOf It.startsB (l.drop s) = j at HI HD
  obtain ⟨n, hn⟩ : ∃ n, n = l.length := ⟨_, rfl⟩
  rw [← hn] at HI HT HD hs1 hs2 hza hl ⊢
  clear hm hcap hr hn
  have g1 : max a (-1) = a := by omega
  have g2 : min a ((n : Int) - 1) = a := by omega
  by_cases hj : j < 0
  · have HE := Lib.hid (HD.out.1 hj)
    go_enter Try.func29, Try.ntmps29
    go_wp2_with fail
    refine (HI.out _ HT.out).mono ?_
    rintro e w1 ⟨rfl, hb1⟩
    have HB1 := Lib.hid hb1
    clear hb1
    go_wp2
    go_ret
    rw [HE.out]
    exact ⟨rfl, HB1.out⟩
  · have HE := Lib.hid (HD.out.2 (by omega))
    have hj' : 0 ≤ j := by omega
    have hjr : (s : Int) + j = (r : Int) := HE.out
    go_enter Try.func29, Try.ntmps29
    go_wp2_with fail
    refine (HI.out _ HT.out).mono ?_
    rintro e w1 ⟨rfl, hb1⟩
    have HB1 := Lib.hid hb1
    clear hb1
    go_wp2
    go_ret
    exact ⟨ret_int (by first | exact hrw | rfl), HB1.out⟩

theorem any_idx (P : It.Itm → Bool) (l : List It.Itm) : l.any P = decide (0 ≤ idxOf P l) := by
  unfold idxOf
  cases h : l.any P with
  | true =>
    rw [List.any_eq_true] at h
    have := List.findIdx_lt_length.2 h
    rw [if_pos this]
    exact (decide_eq_true (by omega)).symm
  | false =>
    rw [List.any_eq_false] at h
    have : ¬ l.findIdx P < l.length := fun hh => by
      obtain ⟨x, hx, hp⟩ := List.findIdx_lt_length.1 hh
      exact h x hx hp
    rw [if_neg this]
    exact (decide_eq_false (by omega)).symm
set_option maxHeartbeats 2000000 in
set_option maxRecDepth 100000 in
theorem contains_any (v : Value) (l : List It.Itm) (w : World) (h : ItsAt w v l) : Calls Try.prog 64 #[v, .func (.func 65) #[] #[]] w (Ret (.bool (l.any It.forced)) w) := by
  have HI := Lib.hid (idx_any _ eg_forced It.forced isForced_any v l w h)
  have HE := Lib.hid (any_idx It.forced l)
  generalize idxOf It.forced l = j at HI HE
  go_enter Try.func64, Try.ntmps64
  go_wp2_with fail
  refine HI.out.mono ?_
  rintro e w1 ⟨rfl, hb1⟩
  have HB1 := Lib.hid hb1
  clear hb1
  go_wp2
  go_ret
  rw [HE.out]
  exact ⟨rfl, HB1.out⟩

theorem starts_box {x : It.Itm} (h : x.k = 0) : It.startsB x = true := by unfold It.startsB; rw [decide_eq_true h]; rfl
theorem starts_forced {x : It.Itm} (h : ¬ x.k = 0) : It.startsB x = It.forced x := by unfold It.startsB; rw [decide_eq_false h]; rfl
set_option maxHeartbeats 4000000 in
set_option maxRecDepth 100000 in
theorem refStart_any (v : Value) (l : List It.Itm) (a : Int) (s : Nat) (hs : a + 1 = (s : Int)) (hl : s ≤ l.length) (w : World) (h : ItsAt w v l) : Calls Try.prog 34 #[v, .int .i64 a] w (Ret (.int .i64 (It.st l s : Int)) w) := by
  have HA := Lib.hid h
  obtain ⟨⟨p, cp, rfl, hcap⟩, hm, _⟩ := h
  have hza : l.length ≤ 9223372036854775807 := by unfold maxLen at hm; omega
  obtain ⟨r, hr⟩ : ∃ r, r = It.st l s := ⟨_, rfl⟩
  have HR := Lib.hid hr
  rw [← hr]
  obtain ⟨n, hn⟩ : ∃ n, n = l.length := ⟨_, rfl⟩
  have Hn := Lib.hid hn
  rw [← hn] at hza hl ⊢
  clear hm hcap hr hn
  go_enter Try.func34, Try.ntmps34
  go_wp2_with fail
  go_loopw [5] (fun iv wr => ∃ k : Nat, k ≤ n ∧ iv = .int .i64 k ∧ Hid (Below w.heap.size w wr) ∧ Hid (s ≤ k → r = k + (l.drop k).findIdx It.startsB)) (fun iv _ => n - (intOf iv).toNat)
  case atStart => exact ⟨0, Nat.zero_le _, rfl, Lib.hid (Below.refl _ _), Lib.hid (fun h => by
    have h0 : s = 0 := by omega
    subst h0
    rw [HR.out]; rfl)⟩
  case round =>
    obtain ⟨k, hk, rfl, HB, HK⟩ := hrel
    by_cases hlt : k < n
    · have k0 : (0 : Int) ≤ (k : Int) := by omega
      have kl : (k : Int) < (n : Int) := by omega
      by_cases hsk : s ≤ k
      · obtain ⟨b1, o1, d1, e1, r1⟩ := HA.out.2.2 (by rw [← Hn.out]; omega)
        obtain ⟨rfl, rfl⟩ : p = some ⟨b1, o1, none⟩ ∧ cp = d1 := by injection e1 with a1 a2 a3; exact ⟨a1, a3⟩
        obtain ⟨x, hx⟩ : ∃ x, l[k]? = some x := ⟨_, List.getElem?_eq_getElem (by rw [← Hn.out]; exact hlt)⟩
        obtain ⟨y0, y1, y2, y3, y4, y5, y6, y7, y8⟩ := it_cells ((r1 k x hx).mono HB.out)
        have Hx := Lib.hid hx
        have HKs := Lib.hid (HK.out hsk)
        have Hsk := Lib.hid hsk
        have ga : a < (k : Int) := by omega
        have HF := Lib.hid (fun w1 => refForced_any x w1)
        unfold itV at HF
        clear r1 e1 hx HK hsk hs
        by_cases h0 : x.k = 0
        · have HE : Hid (r = k) := Lib.hid (by rw [HKs.out, findIdx_drop_here Hx.out (starts_box h0), Nat.add_zero])
          rw [h0] at y0
          go_wp2
          go_ret
          rw [HE.out]
          exact ⟨rfl, HB.out⟩
        · cases hq : It.forced x with
          | true =>
            have HE : Hid (r = k) := Lib.hid (by rw [HKs.out, findIdx_drop_here Hx.out ((starts_forced h0).trans hq), Nat.add_zero])
            rw [hq] at HF
            clear hq
            go_wp2_with fail
            refine (HF.out _).mono ?_
            rintro e w1 ⟨rfl, hb1⟩
            have HB1 := Lib.hid (below_step HB.out hb1)
            clear hb1 y0 y1 y2 y3 y4 y5 y6 y7 y8 HF
            go_wp2
            go_ret
            rw [HE.out]
            exact ⟨rfl, HB1.out⟩
          | false =>
            have HN := Lib.hid (findIdx_drop_next Hx.out ((starts_forced h0).trans hq))
            rw [hq] at HF
            clear hq
            go_wp2_with fail
            refine (HF.out _).mono ?_
            rintro e w1 ⟨rfl, hb1⟩
            have HB1 := Lib.hid (below_step HB.out hb1)
            clear hb1 y0 y1 y2 y3 y4 y5 y6 y7 y8 HF
            go_wp2
            go_roundw
            case rel => exact ⟨k + 1, by omega, by go_num, HB1, Lib.hid (fun _ => by rw [HKs.out, HN.out]; omega)⟩
            case measure => simp [intOf]; omega
      · have ga : ¬ (a < (k : Int)) := by omega
        have HS : Hid (s ≤ k + 1 → r = (k + 1) + (l.drop (k + 1)).findIdx It.startsB) := Lib.hid (fun h => by
          have h0 : s = k + 1 := by omega
          subst h0
          rw [HR.out]; rfl)
        clear hs hsk
        go_wp2
        go_roundw
        case rel => exact ⟨k + 1, by omega, by go_num, HB, HS⟩
        case measure => simp [intOf]; omega
    · have HE : Hid (r = n) := Lib.hid (by
        have := HK.out (by omega)
        rw [It.drop_end (by rw [← Hn.out]; omega)] at this
        simp at this
        omega)
      clear hs
      go_wp2
      go_ret
      rw [HE.out]
      exact ⟨rfl, HB.out⟩
end Go.Proofs.Ythcilpijiindeaa
