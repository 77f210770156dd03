/-
  The reference's Print: a length's text.
-/
import Derived.Test.YtjaaajlghlcioaaDoorPrint
import Derived.Test.YtjaaajlghlcioaaDoorDigits
set_option linter.unusedVariables false
set_option linter.unusedSimpArgs false
namespace Go.Proofs.YtjaaajlghlcioaaDoor
open Go.RowKit

theorem digits_is (x : Int) (h0 : 0 ≤ x) (h1 : x ≤ 18446744073709551615) (w : World) : Calls Tryd.prog 35 #[.int .u64 x] w (Is (.string ⟨(Lib.decDigits x.toNat).toArray⟩) w) :=
  (digits_int x h0 h1 w).mono fun _ _ h => ⟨h.1, h.2.symm⟩
/-- what is written so far: what stands ahead of the digits, and the digits 'done' -/
structure Out (pre : List UInt8) (done : List Nat) (u : ByteArray) : Prop where
  text : u.data.toList = pre ++ Sc.bytesOf done
  short : pre.length ≤ 7
  few : done.length ≤ 5
theorem out_size {pre : List UInt8} {done : List Nat} {u : ByteArray} (h : Out pre done u) : u.size ≤ 12 := by
  rw [Lib.size_eq, h.text, List.length_append]
  have := h.short
  have := h.few
  unfold Sc.bytesOf
  rw [List.length_map]
  omega
theorem out_snoc {pre : List UInt8} {done : List Nat} {u : ByteArray} {q : Int} (h : Out pre done u) (q0 : 0 ≤ q) (q9 : q ≤ 9) : (u ++ ⟨(Lib.decDigits q.toNat).toArray⟩ : ByteArray).data.toList = pre ++ Sc.bytesOf (done ++ [q.toNat]) := by
  rw [ByteArray.data_append, Array.toList_append, h.text, Lib.decDigits_one (by omega), Sc.bytesOf_append, List.append_assoc]
  rfl
theorem out_next {pre : List UInt8} {done : List Nat} {u : ByteArray} (hl : done.length < 5) {q : Int} (h : Out pre done u) (q0 : 0 ≤ q) (q9 : q ≤ 9) : Out pre (done ++ [q.toNat]) (u ++ ⟨(Lib.decDigits q.toNat).toArray⟩) :=
  ⟨out_snoc h q0 q9, h.short, by rw [List.length_append, List.length_cons, List.length_nil]; omega⟩

set_option maxHeartbeats 600000 in
set_option maxRecDepth 100000 in
theorem refPrint_minus (m : Int) (hf : Sc.fits (-m) = true) (hm0 : 0 < m) (w : World) : Calls Tryd.prog 24 #[.int .i64 (-m)] w (Ret (.string ⟨(Sc.print (-m)).toArray⟩) w) := by
  have ⟨b0, b1⟩ := Sc.fits_yes hf
  have a0 : m ≤ 1073741823 := by omega
  have hneg : -m < 0 := by omega
  have es : Sc.size (-m) = m := by unfold Sc.size; rw [if_pos hneg]; omega
  have hp := print_yes hf
  rw [es, if_pos hneg] at hp
  have q0' : 0 ≤ (m) / 65536 := by omega
  have q1' : (m) / 65536 ≤ 16383 := by omega
  have m0' : 0 ≤ (m) % 65536 := by omega
  have m1' : (m) % 65536 < 65536 := by omega
  have l1 := dec_short ((m) / 65536).toNat (by omega)
  obtain ⟨all, hall⟩ : ∃ all, all = Sc.fracDs ((m) % 65536).toNat := ⟨_, rfl⟩
  obtain ⟨_, _, h9, _, _⟩ := Sc.fracDs_ok ((m) % 65536).toNat (by omega)
  have hst := stand_start m0' m1'
  obtain ⟨pre, hpre⟩ : ∃ pre, pre = [45] ++ (Lib.decDigits ((m) / 65536).toNat ++ [46]) := ⟨_, rfl⟩
  have hpl : pre.length ≤ 7 := by rw [hpre]; simp; omega
  rw [← hall] at h9 hst hp
  have HP : Hid (Sc.print (-m) = pre ++ Sc.bytesOf all) := Lib.hid (by rw [hp, hpre]; simp)
  have H9 := Lib.hid h9
  have HST := Lib.hid hst
  have HPre := Lib.hid hpre
  have HPL := Lib.hid hpl
  have HF := Lib.hid hf
  have n0 : ¬ 9223372036854775807 < (Lib.decDigits ((m) / 65536).toNat).length + 1 := by omega
  have n1 : ¬ 9223372036854775807 < 0 + ((Lib.decDigits ((m) / 65536).toNat).length + 1) := by omega
  have n2 : ¬ 9223372036854775807 < 1 + ((Lib.decDigits ((m) / 65536).toNat).length + 1) := by omega
  clear h9 hst hall hp hpre hpl hf es hneg b0 b1
  go_enter Tryd.func24, Tryd.ntmps24
  go_wp2_with fail
  refine (refFits_any _ _ HF.out _).mono ?_
  rintro e w' ⟨rfl, rfl⟩
  go_wp2_with fail
  refine (digits_is _ q0' (by omega) _).mono ?_
  rintro e w' ⟨rfl, rfl⟩
  go_wp2_with fail
  clear q0' q1' l1 n0 n1 n2
  go_loopg [3, 4, 5] 5 (fun k ov sv dv wr => ∃ (u : ByteArray) (s d : Int) (done : List Nat), ov = .string u ∧ sv = .int .i64 s ∧ dv = .int .i64 d ∧ Hid (Stand all k s d done) ∧ Hid (Out pre done u) ∧ Hid (Below w.heap.size w wr))
  case atStart => exact ⟨_, 10 * ((m) % 65536) + 5, 10, [], rfl, rfl, rfl, HST, Lib.hid ⟨by rw [HPre.out]; simp [Sc.bytesOf], HPL.out, by simp⟩, Lib.hid (Below.refl _ _)⟩
  case round =>
    obtain ⟨u, s, d, done, rfl, rfl, rfl, HS, HO, HB⟩ := hrel
    clear m0' m1'
    by_cases hD : 65536 < d
    · have NX := HS.out.next (s' := s - 17232) H9.out (by rw [if_pos hD])
      obtain ⟨hlow, hs0, HNX0⟩ := NX
      have HNX := Lib.hid HNX0
      have hs1 : s - 17232 ≤ 655360 := by have := HS.out.s1; omega
      have hd0 := HS.out.d0
      have hd1 := HS.out.d1
      have hlow := hlow hD
      have hsm := HS.out.s1
      have q0 : 0 ≤ (s - 17232) / 65536 := by omega
      have q9 : (s - 17232) / 65536 ≤ 9 := by have := HNX0.dig; omega
      have m0 : 0 ≤ (s - 17232) % 65536 := by omega
      have m1 : (s - 17232) % 65536 < 65536 := by omega
      have HO3 := Lib.hid (out_next HNX0.len (q := (s - 17232) / 65536) HO.out q0 q9)
      have l1 : (Lib.decDigits ((s - 17232) / 65536).toNat).length = 1 := by rw [Lib.decDigits_one (by omega)]; rfl
      have n1 : ¬ 9223372036854775807 < u.size + (Lib.decDigits ((s - 17232) / 65536).toNat).length := by have := HNX0.len; have := out_size HO.out; omega

      clear HNX0 l1
      by_cases hle : 10 * ((s - 17232) % 65536) ≤ 10 * d
      · go_wp2_with fail
        refine (digits_is _ q0 (by omega) _).mono ?_
        rintro e w1 ⟨rfl, rfl⟩
        go_wp2_with fail
        go_ret
        refine ⟨ret_strL ?_, HB.out⟩
        have hx := HO3.out.text
        rw [HNX.out.last hle] at hx
        rw [hx, HP.out]
      · exfalso; omega
    · have NX := HS.out.next (s' := s) H9.out (by rw [if_neg hD])
      obtain ⟨hlow, hs0, HNX0⟩ := NX
      have HNX := Lib.hid HNX0
      have hs1 : s ≤ 655360 := by have := HS.out.s1; omega
      have hd0 := HS.out.d0
      have hd1 := HS.out.d1
      clear hlow
      have hD1 : d ≤ 65536 := by omega
      have q0 : 0 ≤ (s) / 65536 := by omega
      have q9 : (s) / 65536 ≤ 9 := by have := HNX0.dig; omega
      have m0 : 0 ≤ (s) % 65536 := by omega
      have m1 : (s) % 65536 < 65536 := by omega
      have HO3 := Lib.hid (out_next HNX0.len (q := (s) / 65536) HO.out q0 q9)
      have l1 : (Lib.decDigits ((s) / 65536).toNat).length = 1 := by rw [Lib.decDigits_one (by omega)]; rfl
      have n1 : ¬ 9223372036854775807 < u.size + (Lib.decDigits ((s) / 65536).toNat).length := by have := HNX0.len; have := out_size HO.out; omega
      clear hD
      clear HNX0 l1
      by_cases hle : 10 * ((s) % 65536) ≤ 10 * d
      · go_wp2_with fail
        refine (digits_is _ q0 (by omega) _).mono ?_
        rintro e w1 ⟨rfl, rfl⟩
        go_wp2_with fail
        go_ret
        refine ⟨ret_strL ?_, HB.out⟩
        have hx := HO3.out.text
        rw [HNX.out.last hle] at hx
        rw [hx, HP.out]
      · obtain ⟨f', hf', hst'⟩ := HNX.out.more (by omega)
        have HF := Lib.hid hf'
        have HST' := Lib.hid hst'
        have hle2 : 10 * d < 10 * ((s) % 65536) := by omega
        clear hf' hst' hle
        go_wp2_with fail
        refine (digits_is _ q0 (by omega) _).mono ?_
        rintro e w1 ⟨rfl, rfl⟩
        go_wp2_with fail
        go_roundg f'
        case measure => have := HF.out; omega
        case rel => exact ⟨_, _, _, _, rfl, rfl, rfl, HST', HO3, HB⟩

set_option maxHeartbeats 600000 in
set_option maxRecDepth 100000 in
theorem refPrint_pos (n : Int) (hf : Sc.fits n = true) (hneg : 0 ≤ n) (w : World) : Calls Tryd.prog 24 #[.int .i64 n] w (Ret (.string ⟨(Sc.print n).toArray⟩) w) := by
  have ⟨a0, a1⟩ := Sc.fits_yes hf
  have es : Sc.size n = n := by unfold Sc.size; rw [if_neg (by omega)]
  have hp := print_yes hf
  rw [es, if_neg (show ¬ n < 0 by omega)] at hp
  have q0' : 0 ≤ (n) / 65536 := by omega
  have q1' : (n) / 65536 ≤ 16383 := by omega
  have m0' : 0 ≤ (n) % 65536 := by omega
  have m1' : (n) % 65536 < 65536 := by omega
  have l1 := dec_short ((n) / 65536).toNat (by omega)
  obtain ⟨all, hall⟩ : ∃ all, all = Sc.fracDs ((n) % 65536).toNat := ⟨_, rfl⟩
  obtain ⟨_, _, h9, _, _⟩ := Sc.fracDs_ok ((n) % 65536).toNat (by omega)
  have hst := stand_start m0' m1'
  obtain ⟨pre, hpre⟩ : ∃ pre, pre = (Lib.decDigits ((n) / 65536).toNat ++ [46]) := ⟨_, rfl⟩
  have hpl : pre.length ≤ 7 := by rw [hpre]; simp; omega
  rw [← hall] at h9 hst hp
  have HP : Hid (Sc.print n = pre ++ Sc.bytesOf all) := Lib.hid (by rw [hp, hpre]; simp)
  have H9 := Lib.hid h9
  have HST := Lib.hid hst
  have HPre := Lib.hid hpre
  have HPL := Lib.hid hpl
  have HF := Lib.hid hf
  have n0 : ¬ 9223372036854775807 < (Lib.decDigits ((n) / 65536).toNat).length + 1 := by omega
  have n1 : ¬ 9223372036854775807 < 0 + ((Lib.decDigits ((n) / 65536).toNat).length + 1) := by omega
  have n2 : ¬ 9223372036854775807 < 1 + ((Lib.decDigits ((n) / 65536).toNat).length + 1) := by omega
  clear h9 hst hall hp hpre hpl hf es
  go_enter Tryd.func24, Tryd.ntmps24
  go_wp2_with fail
  refine (refFits_any _ _ HF.out _).mono ?_
  rintro e w' ⟨rfl, rfl⟩
  go_wp2_with fail
  refine (digits_is _ q0' (by omega) _).mono ?_
  rintro e w' ⟨rfl, rfl⟩
  go_wp2_with fail
  clear q0' q1' l1 n0 n1 n2
  go_loopg [3, 4, 5] 5 (fun k ov sv dv wr => ∃ (u : ByteArray) (s d : Int) (done : List Nat), ov = .string u ∧ sv = .int .i64 s ∧ dv = .int .i64 d ∧ Hid (Stand all k s d done) ∧ Hid (Out pre done u) ∧ Hid (Below w.heap.size w wr))
  case atStart => exact ⟨_, 10 * ((n) % 65536) + 5, 10, [], rfl, rfl, rfl, HST, Lib.hid ⟨by rw [HPre.out]; simp [Sc.bytesOf], HPL.out, by simp⟩, Lib.hid (Below.refl _ _)⟩
  case round =>
    obtain ⟨u, s, d, done, rfl, rfl, rfl, HS, HO, HB⟩ := hrel
    clear m0' m1'
    by_cases hD : 65536 < d
    · have NX := HS.out.next (s' := s - 17232) H9.out (by rw [if_pos hD])
      obtain ⟨hlow, hs0, HNX0⟩ := NX
      have HNX := Lib.hid HNX0
      have hs1 : s - 17232 ≤ 655360 := by have := HS.out.s1; omega
      have hd0 := HS.out.d0
      have hd1 := HS.out.d1
      have hlow := hlow hD
      have hsm := HS.out.s1
      have q0 : 0 ≤ (s - 17232) / 65536 := by omega
      have q9 : (s - 17232) / 65536 ≤ 9 := by have := HNX0.dig; omega
      have m0 : 0 ≤ (s - 17232) % 65536 := by omega
      have m1 : (s - 17232) % 65536 < 65536 := by omega
      have HO3 := Lib.hid (out_next HNX0.len (q := (s - 17232) / 65536) HO.out q0 q9)
      have l1 : (Lib.decDigits ((s - 17232) / 65536).toNat).length = 1 := by rw [Lib.decDigits_one (by omega)]; rfl
      have n1 : ¬ 9223372036854775807 < u.size + (Lib.decDigits ((s - 17232) / 65536).toNat).length := by have := HNX0.len; have := out_size HO.out; omega

      clear HNX0 l1
      by_cases hle : 10 * ((s - 17232) % 65536) ≤ 10 * d
      · go_wp2_with fail
        refine (digits_is _ q0 (by omega) _).mono ?_
        rintro e w1 ⟨rfl, rfl⟩
        go_wp2_with fail
        go_ret
        refine ⟨ret_strL ?_, HB.out⟩
        have hx := HO3.out.text
        rw [HNX.out.last hle] at hx
        rw [hx, HP.out]
      · exfalso; omega
    · have NX := HS.out.next (s' := s) H9.out (by rw [if_neg hD])
      obtain ⟨hlow, hs0, HNX0⟩ := NX
      have HNX := Lib.hid HNX0
      have hs1 : s ≤ 655360 := by have := HS.out.s1; omega
      have hd0 := HS.out.d0
      have hd1 := HS.out.d1
      clear hlow
      have hD1 : d ≤ 65536 := by omega
      have q0 : 0 ≤ (s) / 65536 := by omega
      have q9 : (s) / 65536 ≤ 9 := by have := HNX0.dig; omega
      have m0 : 0 ≤ (s) % 65536 := by omega
      have m1 : (s) % 65536 < 65536 := by omega
      have HO3 := Lib.hid (out_next HNX0.len (q := (s) / 65536) HO.out q0 q9)
      have l1 : (Lib.decDigits ((s) / 65536).toNat).length = 1 := by rw [Lib.decDigits_one (by omega)]; rfl
      have n1 : ¬ 9223372036854775807 < u.size + (Lib.decDigits ((s) / 65536).toNat).length := by have := HNX0.len; have := out_size HO.out; omega
      clear hD
      clear HNX0 l1
      by_cases hle : 10 * ((s) % 65536) ≤ 10 * d
      · go_wp2_with fail
        refine (digits_is _ q0 (by omega) _).mono ?_
        rintro e w1 ⟨rfl, rfl⟩
        go_wp2_with fail
        go_ret
        refine ⟨ret_strL ?_, HB.out⟩
        have hx := HO3.out.text
        rw [HNX.out.last hle] at hx
        rw [hx, HP.out]
      · obtain ⟨f', hf', hst'⟩ := HNX.out.more (by omega)
        have HF := Lib.hid hf'
        have HST' := Lib.hid hst'
        have hle2 : 10 * d < 10 * ((s) % 65536) := by omega
        clear hf' hst' hle
        go_wp2_with fail
        refine (digits_is _ q0 (by omega) _).mono ?_
        rintro e w1 ⟨rfl, rfl⟩
        go_wp2_with fail
        go_roundg f'
        case measure => have := HF.out; omega
        case rel => exact ⟨_, _, _, _, rfl, rfl, rfl, HST', HO3, HB⟩

set_option maxHeartbeats 1000000 in
set_option maxRecDepth 100000 in
theorem refPrint_no (n : Int) (hf : Sc.fits n = false) (w : World) : Calls Tryd.prog 24 #[.int .i64 n] w (Ret (.string ⟨(Sc.print n).toArray⟩) w) := by
  rw [Sc.print_no hf]
  have HF := Lib.hid hf
  clear hf
  go_enter Tryd.func24, Tryd.ntmps24
  go_wp2_with fail
  refine (refFits_any _ _ HF.out _).mono ?_
  rintro e w' ⟨rfl, rfl⟩
  go_wp2_with fail
  go_ret
  exact ⟨rfl, Below.refl _ _⟩
theorem refPrint_any (n : Int) (w : World) : Calls Tryd.prog 24 #[.int .i64 n] w (Ret (.string ⟨(Sc.print n).toArray⟩) w) := by
  cases hf : Sc.fits n with
  | false => exact refPrint_no n hf w
  | true =>
    by_cases h : n < 0
    · have h1 : Sc.fits (-(-n)) = true := by rw [Int.neg_neg]; exact hf
      have h2 := refPrint_minus (-n) h1 (by omega) w
      rw [Int.neg_neg] at h2
      exact h2
    · exact refPrint_pos n hf (by omega) w
end Go.Proofs.YtjaaajlghlcioaaDoor
