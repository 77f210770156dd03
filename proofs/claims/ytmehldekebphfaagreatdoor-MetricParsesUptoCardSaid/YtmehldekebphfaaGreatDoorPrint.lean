/-
  The program's Print: a length's text.
-/
import Derived.Test.YtmehldekebphfaaGreatDoorBase
import Derived.Test.YtmehldekebphfaaGreatDoorFraction
import Derived.WalkSmall
set_option linter.unusedVariables false
set_option linter.unusedSimpArgs false
namespace Go.Proofs.YtmehldekebphfaaGreatDoor
open Go.RowKit

/-- what the walks ask of the package-level variables -/
def TabE (w : World) : Prop := Lib.TabIs Tryz.prog w "internal/strconv.uint64pow10" .u64 Lib.pow10Tab
theorem var_below {w w' : World} (hb : Below w.heap.size w w') {n : String} {cs : Array Value} (h : w.var? Tryz.prog n = some cs) : w'.var? Tryz.prog n = some cs := by
  have h0 := h
  unfold World.var? at h
  cases hg : Tryz.prog.globalNamed n with
  | none => rw [hg] at h; cases h
  | some g =>
    rw [hg] at h
    simp only [Option.bind_some] at h
    have hlt : g < w.heap.size := by
      rcases Nat.lt_or_ge g w.heap.size with h' | h'
      · exact h'
      · rw [Array.getElem?_eq_none h'] at h; cases h
    exact var?_below hb hg hlt h0
theorem TabE.mono {w w' : World} (h : TabE w) (hb : Below w.heap.size w w') : TabE w' := var_below hb h
theorem below_growN (w : World) (k : Nat) (os : Array Obj) : Below w.heap.size w (Go.Sort.grow (w.drewN k) os) :=
  ⟨rfl, rfl, rfl, by simp [Go.Sort.grow, World.drewN], fun i hi => by simp [Go.Sort.grow, World.drewN, Array.getElem?_append, hi]⟩
theorem format_any (n : Int) (h0 : 0 ≤ n) (h1 : n ≤ 9223372036854775807) (w : World) (hE : TabE w) :
    Calls Tryz.prog 90 #[.int .i64 n, .int .i64 10] w (Ret (.string ⟨(Lib.decDigits n.toNat).toArray⟩) w) := by
  refine (Tryz.strconv_FormatInt_10 n (by omega) h1 w hE).mono ?_
  rintro e w' ⟨he, k, os, rfl⟩
  refine ⟨?_, below_growN _ _ _⟩
  rw [he]
  unfold Lib.itoa
  rw [if_neg (by omega)]
theorem dec_short (k : Nat) (h : k < 100000) : (Lib.decDigits k).length ≤ 5 := by
  rw [Lib.decDigits_length]
  exact nDigits_le 5 k (by omega) (by have : (10 : Nat) ^ 5 = 100000 := by decide
                                      omega)
theorem bytes_short (r : Nat) (h : r < 65536) : (Sc.bytesOf (Sc.fracDs r)).length ≤ 5 := by
  unfold Sc.bytesOf; rw [List.length_map]; exact (Sc.fracDs_ok r h).2.2.2.2
theorem print_yes {n : Int} (h : Sc.fits n = true) : Sc.print n = (if n < 0 then [45] else []) ++ (Lib.decDigits (Sc.size n / 65536).toNat ++ ([46] ++ Sc.bytesOf (Sc.fracDs (Sc.size n % 65536).toNat))) := by
  have e1 : n.natAbs / 65536 = (Sc.size n / 65536).toNat := by unfold Sc.size; split <;> omega
  have e2 : n.natAbs % 65536 = (Sc.size n % 65536).toNat := by unfold Sc.size; split <;> omega
  unfold Sc.print
  rw [if_pos h, e1, e2]

set_option maxHeartbeats 4000000 in
set_option maxRecDepth 100000 in
theorem print_any (n : Int) (w : World) (hE : TabE w) : Calls Tryz.prog 75 #[.int .i64 n] w (Ret (.string ⟨(Sc.print n).toArray⟩) w) := by
  cases hf : Sc.fits n with
  | false =>
    rw [Sc.print_no hf]
    have HF := Lib.hid hf
    clear hf
    go_enter Tryz.func75, Tryz.ntmps75
    go_wp2_with fail
    refine (fits_any _ _ HF.out _).mono ?_
    rintro e w' ⟨rfl, rfl⟩
    go_wp2_with fail
    go_ret
    exact ⟨rfl, Below.refl _ _⟩
  | true =>
    have ⟨a0, a1⟩ := Sc.fits_yes hf
    have ⟨s0, s1⟩ := Sc.size_range ⟨a0, a1⟩
    have HP := Lib.hid (print_yes hf)
    have HF := Lib.hid hf
    clear hf
    have q0 : 0 ≤ Sc.size n / 65536 := by omega
    have q1 : Sc.size n / 65536 ≤ 16383 := by omega
    have m0 : 0 ≤ Sc.size n % 65536 := by omega
    have m1 : Sc.size n % 65536 < 65536 := by omega
    have l1 := dec_short (Sc.size n / 65536).toNat (by omega)
    have l2 := bytes_short (Sc.size n % 65536).toNat (by omega)
    have n1 : ¬ 9223372036854775807 < (Lib.decDigits (Sc.size n / 65536).toNat).length + 1 := by omega
    have n2 : ¬ 9223372036854775807 < (Lib.decDigits (Sc.size n / 65536).toNat).length + 1 + (Sc.bytesOf (Sc.fracDs (Sc.size n % 65536).toNat)).length := by omega
    have n3 : ¬ 9223372036854775807 < 1 + ((Lib.decDigits (Sc.size n / 65536).toNat).length + 1 + (Sc.bytesOf (Sc.fracDs (Sc.size n % 65536).toNat)).length) := by omega
    by_cases hneg : n < 0
    all_goals
      go_enter Tryz.func75, Tryz.ntmps75
      go_wp2_with fail
      refine (fits_any _ _ HF.out _).mono ?_
      rintro e w' ⟨rfl, rfl⟩
      go_wp2_with fail
      refine (size_any _ a0 a1 _).mono ?_
      rintro e w' ⟨rfl, rfl⟩
      go_wp2_with fail
      refine (size_any _ a0 a1 _).mono ?_
      rintro e w' ⟨rfl, rfl⟩
      go_wp2_with fail
      refine (format_any _ q0 (by omega) _ hE).mono ?_
      rintro e w1 ⟨rfl, hb1⟩
      have HB1 := Lib.hid hb1
      clear hb1
      go_wp2_with fail
      refine (fraction_print _ m0 m1 _).mono ?_
      rintro e w2 ⟨rfl, hb2⟩
      have HB2 := Lib.hid (below_step HB1.out hb2)
      clear hb2
      go_wp2_with fail
      go_ret
      refine ⟨ret_strL ?_, HB2.out⟩
      rw [HP.out]
      first | rw [if_pos hneg] | rw [if_neg (by omega)]
      simp
end Go.Proofs.YtmehldekebphfaaGreatDoor
