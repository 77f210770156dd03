/-
  The program's walk over a text: it visits each letter with its place, up to where none begins; and the two closures that Decode and Starts hand it.
-/
import Derived.Test.YtjlnffdklhmonaaDoorShelf
import Derived.Test.YtjlnffdklhmonaaDoorDefs
import Derived.Test.YtjlnffdklhmonaaDoorDecGo
set_option linter.unusedVariables false
set_option linter.unusedSimpArgs false
namespace Go.Proofs.YtjlnffdklhmonaaDoor
open Go.RowKit

/-- the two tables of the library's decoder lie as its own text lays them -/
def Tabs (w : World) : Prop := Lib.Utf8Tabs 0 1 w
theorem Tabs.mono {w w' : World} (h : Tabs w) (hb : Below w.heap.size w w') : Tabs w' := Utf8Tabs_below h hb

set_option maxHeartbeats 1000000 in
set_option maxRecDepth 100000 in
theorem invalid_yes (w : World) : Calls Tryd.prog 53 #[.int .i32 65533, .int .i64 1] w (Ret (.bool true) w) := by
  go_enter Tryd.func53, Tryd.ntmps53
  go_wp2
  go_ret
  exact ⟨rfl, Below.refl _ _⟩
set_option maxHeartbeats 1000000 in
set_option maxRecDepth 100000 in
theorem invalid_no (c n : Int) (h : ¬ (c = 65533 ∧ n = 1)) (w : World) : Calls Tryd.prog 53 #[.int .i32 c, .int .i64 n] w (Ret (.bool false) w) := by
  by_cases hc : c = 65533
  · have e1 : (n == 1) = false := beq_eq_false_iff_ne.2 (fun e => h ⟨hc, e⟩)
    subst hc
    clear h
    go_enter Tryd.func53, Tryd.ntmps53
    go_wp2
    go_ret
    exact ⟨rfl, Below.refl _ _⟩
  · have e1 : (c == 65533) = false := beq_eq_false_iff_ne.2 hc
    clear h hc
    go_enter Tryd.func53, Tryd.ntmps53
    go_wp2
    go_ret
    exact ⟨rfl, Below.refl _ _⟩

theorem rune_some (s : ByteArray) (a c n : Nat) (hf : Ut.first (s.data.toList.drop a) = some (c, n)) (w : World) (hT : Tabs w) :
    Calls Tryd.prog 52 #[.string (s.extract a s.size)] w (Ret (.tuple #[.int .i32 (c : Int), .int .i64 (n : Int)]) w) := by
  have h := Tryd.utf8_DecodeRuneInString (s.extract a s.size) w hT
  have hp := (Ut.first_some hf)
  rw [Ut.go_is _ (by rw [Lib.size_eq, drop_text]; omega), drop_text, (Ut.go_some hf).1] at h
  exact h
theorem rune_none (s : ByteArray) (a : Nat) (ha : a < s.size) (hf : Ut.first (s.data.toList.drop a) = none) (w : World) (hT : Tabs w) :
    Calls Tryd.prog 52 #[.string (s.extract a s.size)] w (Ret (.tuple #[.int .i32 65533, .int .i64 1]) w) := by
  have h := Tryd.utf8_DecodeRuneInString (s.extract a s.size) w hT
  have hl : 0 < (s.data.toList.drop a).length := by rw [List.length_drop, ← Lib.size_eq]; omega
  rw [Ut.go_is _ (by rw [Lib.size_eq, drop_text]; exact hl), drop_text, Ut.go_none (List.ne_nil_of_length_pos hl) hf] at h
  exact h

/-- what the walk leaves -/
def WalkedPost (p : Nat) (I : List Nat → World → Prop) (s : List UInt8) (w : World) (e : Ending) (w' : World) : Prop :=
  e = .returned (.int .i64 (Ut.stop s : Int)) ∧ I (Ut.dec s).1 w' ∧ Below p w w'
def VisitPost (p : Nat) (I : List Nat → World → Prop) (l : List Nat) (w : World) (e : Ending) (w' : World) : Prop :=
  e = .returned (.tuple #[]) ∧ I l w' ∧ Below p w w'

set_option maxHeartbeats 4000000 in
set_option maxRecDepth 100000 in
theorem walk_any (g : Nat) (eg : ∀ args w, (callFunc g args).run Tryd.prog w = .ok (.enter g args) w) (p : Nat) (s : ByteArray) (hs : s.size * 8 ≤ 140737488355328) (w0 w : World) (hT : Tabs w0) (hb0 : Below w0.heap.size w0 w) (hp : w0.heap.size ≤ p) (hpw : p ≤ w.heap.size)
    (I : List Nat → World → Prop) (hI0 : I [] w) (hmono : ∀ l w1 w2, I l w1 → Below w1.heap.size w1 w2 → I l w2)
    (hclo : ∀ (l : List Nat) (a c : Nat) (w1 : World), I l w1 → l.length < s.size → (Ut.encs l).length = a → a < s.size →
      Calls Tryd.prog g #[.int .i64 (a : Int), .int .i32 (c : Int), .pointer (some ⟨p, 0, none⟩)] w1 (VisitPost p I (l ++ [c]) w1)) :
    Calls Tryd.prog 41 #[.string s, .func (.func g) #[] #[.pointer (some ⟨p, 0, none⟩)]] w (WalkedPost p I s.data.toList w) := by
  have hlen : s.data.toList.length = s.size := (Lib.size_eq s).symm
  have HLen := Lib.hid hlen
  have HT : Hid (∀ wr, Below p w wr → Tabs wr) := Lib.hid (fun wr hb => hT.mono (hb0.trans (hb.mono hp)))
  have HPW := Lib.hid hpw
  have HI0 := Lib.hid hI0
  have HM := Lib.hid hmono
  have HC := Lib.hid hclo
  clear hlen hT hb0 hp hpw hI0 hmono hclo
  go_enter Tryd.func41, Tryd.ntmps41
  go_wp2_with fail
  go_loopw [5] (fun iv wr => ∃ (l : List Nat) (a : Nat), iv = .int .i64 a ∧ a ≤ s.size ∧ Hid ((Ut.encs l).length = a) ∧ Hid (Got s.data.toList l) ∧ Hid (I l wr) ∧ Hid (Below p w wr)) (fun iv _ => s.size - (intOf iv).toNat)
  case atStart => exact ⟨[], 0, rfl, Nat.zero_le _, Lib.hid rfl, Lib.hid (got_nil _), HI0, Lib.hid (Below.refl _ _)⟩
  case round =>
    obtain ⟨l, a, rfl, ha, HA, HG, HI, HB⟩ := hrel
    clear HI0
    by_cases hlt : a < s.size
    · cases hf : Ut.first (s.data.toList.drop a) with
      | none =>
        have HO := Lib.hid (walk_stop HG.out (by rw [HA.out]; exact hf) (by rw [HA.out, HLen.out]; exact hlt))
        have HFa := Lib.hid (fun w hT => rune_none s a hlt hf w hT)
        clear hf
        go_wp2_with fail
        refine (HFa.out _ (HT.out _ HB.out)).mono ?_
        rintro e w1 ⟨rfl, hb1⟩
        have HB1 := Lib.hid (HB.out.trans (hb1.mono (Nat.le_trans HPW.out HB.out.size)))
        have HI1 := Lib.hid (HM.out _ _ _ HI.out hb1)
        clear hb1
        go_wp2_with fail
        refine (invalid_yes _).mono ?_
        rintro e w2 ⟨rfl, hb2⟩
        have HB2 := Lib.hid (HB1.out.trans (hb2.mono (Nat.le_trans HPW.out HB1.out.size)))
        have HI2 := Lib.hid (HM.out _ _ _ HI1.out hb2)
        clear hb2
        go_wp2_with fail
        go_ret
        refine ⟨ret_int ?_, ?_, HB2.out⟩
        · unfold Ut.stop; rw [HO.out.1, HA.out]
        · rw [HO.out.1]; exact HI2.out
      | some x =>
        obtain ⟨c, n⟩ := x
        obtain ⟨g1, g2, g3, g4, g5, g6, g7⟩ := HG.out.next (c := c) (n := n) (by rw [HA.out]; exact hf)
        have HFa := Lib.hid (fun w hT => rune_some s a c n hf w hT)
        have HNo := Lib.hid (fun w => invalid_no (c : Int) (n : Int) (fun h => (Ut.go_some hf).2 ⟨by omega, by omega⟩) w)
        have HCa := Lib.hid (fun w1 h => HC.out l a c w1 h (by rw [← HLen.out]; exact g7) HA.out hlt)
        have hsum : a + n ≤ s.size := by
          have := (Got.few g1).2
          rw [g2, HA.out, HLen.out] at this
          exact this
        have HA' : Hid ((Ut.encs (l ++ [c])).length = a + n) := Lib.hid (by rw [g2, HA.out])
        have HG' := Lib.hid g1
        clear hf g1 g2 g5 g7
        go_wp2_with fail
        refine (HFa.out _ (HT.out _ HB.out)).mono ?_
        rintro e w1 ⟨rfl, hb1⟩
        have HB1 := Lib.hid (HB.out.trans (hb1.mono (Nat.le_trans HPW.out HB.out.size)))
        have HI1 := Lib.hid (HM.out _ _ _ HI.out hb1)
        clear hb1
        go_wp2_with fail
        refine (HNo.out _).mono ?_
        rintro e w2 ⟨rfl, hb2⟩
        have HB2 := Lib.hid (HB1.out.trans (hb2.mono (Nat.le_trans HPW.out HB1.out.size)))
        have HI2 := Lib.hid (HM.out _ _ _ HI1.out hb2)
        clear hb2
        go_wp2_with (go_at_fn g; refine (HCa.out _ HI2.out).mono ?_; rintro e w3 ⟨rfl, hi3, hb3⟩; have HB3 := Lib.hid (HB2.out.trans hb3); have HI3 := Lib.hid hi3; clear hi3 hb3)
        go_roundw
        case rel => exact ⟨l ++ [c], a + n, by go_num, hsum, HA', HG', HI3, HB3⟩
        case measure => simp [intOf]; omega
    · have HO := Lib.hid (walk_end HG.out (by rw [HA.out, HLen.out]; omega))
      go_wp2_with fail
      go_ret
      refine ⟨ret_int ?_, ?_, HB.out⟩
      · unfold Ut.stop; rw [HO.out.1, HA.out]
      · rw [HO.out.1]; exact HI.out
end Go.Proofs.YtjlnffdklhmonaaDoor
