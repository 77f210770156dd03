/-
  The reference's Text: the text of the chain.
-/
import Derived.Test.YthiaeppaaahlgaaDoorText
import Derived.Test.YthiaeppaaahlgaaDoorRefCut
set_option linter.unusedVariables false
set_option linter.unusedSimpArgs false
namespace Go.Proofs.YthiaeppaaahlgaaDoor
open Go.RowKit Go.Extern.Stop Go.Stop Go.Extern

theorem stages_next {ns : List ByteArray} {k : Nat} {s : ByteArray} (h : ns[k]? = some s) : Fm.stagesText (lns (ns.take (k + 1))) = Fm.stagesText (lns (ns.take k)) ++ (s.data.toList ++ [58, 32]) := by
  rw [List.take_add_one, h]
  simp [lns, Fm.stagesText, Fm.colon]
theorem stages_append (x y : List ByteArray) : Fm.stagesText (lns (x ++ y)) = Fm.stagesText (lns x) ++ Fm.stagesText (lns y) := by
  simp [lns, Fm.stagesText]
theorem stages_le {ns : List ByteArray} {k : Nat} : (Fm.stagesText (lns (ns.take k))).length ≤ (Fm.stagesText (lns ns)).length := by
  have h := congrArg List.length (stages_append (ns.take k) (ns.drop k))
  rw [List.take_append_drop, List.length_append] at h
  omega

set_option maxHeartbeats 8000000 in
set_option maxRecDepth 100000 in
theorem refText_some (c a : Int) (hc : -9223372036854775808 ≤ c ∧ c ≤ 9223372036854775807) (ha : -9223372036854775808 ≤ a ∧ a ≤ 9223372036854775807) (ns : List ByteArray) (hn : ns.length ≤ 9223372036854775807) (b o cap : Nat) (w : World)
    (hcl : ∀ i s, ns[i]? = some s → w.cell? ⟨b, o + i, none⟩ = some (.string s)) (hl : (Fm.chainText c a (lns ns)).length ≤ 140737488355328) :
    Calls Tryd.prog 10 #[.agg #[.int .i64 c, .int .i64 a], .slice (some ⟨b, o, none⟩) ns.length cap] w (StrPost w.heap.size (Fm.chainText c a (lns ns)) w) := by
  have HC := Lib.hid hcl
  have HL : Hid ((Fm.stagesText (lns ns)).length + (Fm.faultText c a).length ≤ 140737488355328) := by
    unfold Fm.chainText at hl; rw [List.length_append] at hl; exact hl
  clear hcl hl
  have hb0 : Hid (Below w.heap.size w (w.alloc (.cells #[.int .i64 c, .int .i64 a] 24))) := (Below.refl _ _).alloc (Nat.le_refl _) _
  have l1 := itoa_len c hc.1 hc.2
  have l2 := itoa_len a ha.1 ha.2
  go_enter Tryd.func10, Tryd.ntmps10
  go_wp2_with fail
  go_loop [5, 6] (fun v i => ∃ (k : Nat) (u : ByteArray), k ≤ ns.length ∧ i = .int .i64 k ∧ v = .string u ∧ Hid (u.data.toList = Fm.stagesText (lns (ns.take k)))) (fun _ i => ns.length - (intOf i).toNat)
  case atStart => exact ⟨0, ByteArray.empty, Nat.zero_le _, rfl, rfl, by show _ = _; simp [lns, Fm.stagesText]⟩
  case round =>
    obtain ⟨k, u, hk, rfl, rfl, HU⟩ := hrel
    have husz : u.size ≤ 140737488355328 := by
      have h1 := HL.out
      have h2 := stages_le (ns := ns) (k := k)
      rw [Lib.size_eq, HU.out]; omega
    by_cases hlt : k < ns.length
    · obtain ⟨s, hs⟩ : ∃ s, ns[k]? = some s := ⟨_, List.getElem?_eq_getElem hlt⟩
      have hcell := cell_below hb0.out (HC.out k s hs)
      have HS := Lib.hid (stages_next hs)
      have hssz : u.size + s.size + 2 ≤ 140737488355328 := by
        have h1 := HL.out
        have h2 := stages_le (ns := ns) (k := k + 1)
        have h3 := congrArg List.length HS.out
        simp only [List.length_append, List.length_cons, List.length_nil] at h3
        rw [Lib.size_eq, Lib.size_eq, HU.out]; omega
      clear hs
      go_wp2
      go_round
      case rel =>
        refine ⟨k + 1, _, by omega, by go_num, rfl, ?_⟩
        show _ = _
        rw [HS.out, ← HU.out]
        simp
      case measure => simp [intOf]; omega
    · have HK : Hid (ns.take k = ns) := by show _ = _; exact List.take_of_length_le (by omega)
      by_cases hneg : a < 0
      · go_wp2_with fail
        refine (signed_any c hc.1 hc.2 _).mono ?_
        rintro e w1 ⟨rfl, rfl⟩
        go_wp2_with fail
        go_ret
        refine ⟨ret_strL ?_, hb0.out⟩
        unfold Fm.chainText Fm.faultText
        rw [if_pos hneg, ← HK.out, ← HU.out]
        simp [Fm.faultB]
      · go_wp2_with fail
        refine (signed_any c hc.1 hc.2 _).mono ?_
        rintro e w1 ⟨rfl, rfl⟩
        go_wp2_with fail
        refine (signed_any a ha.1 ha.2 _).mono ?_
        rintro e w1 ⟨rfl, rfl⟩
        go_wp2_with fail
        go_ret
        refine ⟨ret_strL ?_, hb0.out⟩
        unfold Fm.chainText Fm.faultText
        rw [if_neg (by omega), ← HK.out, ← HU.out]
        simp [Fm.faultB, Fm.atB]

set_option maxHeartbeats 4000000 in
set_option maxRecDepth 100000 in
theorem refText_nil (c a : Int) (hc : -9223372036854775808 ≤ c ∧ c ≤ 9223372036854775807) (ha : -9223372036854775808 ≤ a ∧ a ≤ 9223372036854775807) (p : Option Addr) (cap : Nat) (w : World) :
    Calls Tryd.prog 10 #[.agg #[.int .i64 c, .int .i64 a], .slice p 0 cap] w (StrPost w.heap.size (Fm.chainText c a (lns [])) w) := by
  have hb0 : Hid (Below w.heap.size w (w.alloc (.cells #[.int .i64 c, .int .i64 a] 24))) := (Below.refl _ _).alloc (Nat.le_refl _) _
  have l1 := itoa_len c hc.1 hc.2
  have l2 := itoa_len a ha.1 ha.2
  by_cases hneg : a < 0
  · go_enter Tryd.func10, Tryd.ntmps10
    go_wp2_with fail
    refine wp_loop_rounds 1 ?_
    rw [rounds_succ]
    go_wp2_with fail
    refine (signed_any c hc.1 hc.2 _).mono ?_
    rintro e w1 ⟨rfl, rfl⟩
    go_wp2_with fail
    go_ret
    refine ⟨ret_strL ?_, hb0.out⟩
    rw [chain_nil]
    unfold Fm.faultText
    rw [if_pos hneg]
    simp [Fm.faultB]
  · go_enter Tryd.func10, Tryd.ntmps10
    go_wp2_with fail
    refine wp_loop_rounds 1 ?_
    rw [rounds_succ]
    go_wp2_with fail
    refine (signed_any c hc.1 hc.2 _).mono ?_
    rintro e w1 ⟨rfl, rfl⟩
    go_wp2_with fail
    refine (signed_any a ha.1 ha.2 _).mono ?_
    rintro e w1 ⟨rfl, rfl⟩
    go_wp2_with fail
    go_ret
    refine ⟨ret_strL ?_, hb0.out⟩
    rw [chain_nil]
    unfold Fm.faultText
    rw [if_neg (by omega)]
    simp [Fm.faultB, Fm.atB]

/-- The reference's Text is the text of the chain, too. -/
theorem refText_any (c a : Int) (hc : -9223372036854775808 ≤ c ∧ c ≤ 9223372036854775807) (ha : -9223372036854775808 ≤ a ∧ a ≤ 9223372036854775807) (ns : List ByteArray) (v : Value) (w : World) (h : StrsAt w v ns)
    (hl : (Fm.chainText c a (lns ns)).length ≤ 140737488355328) :
    Calls Tryd.prog 10 #[.agg #[.int .i64 c, .int .i64 a], v] w (StrPost w.heap.size (Fm.chainText c a (lns ns)) w) := by
  obtain ⟨⟨p, cap, rfl⟩, hn, h2⟩ := h
  rcases Nat.eq_zero_or_pos ns.length with h0 | h0
  · obtain rfl : ns = [] := List.eq_nil_of_length_eq_zero h0
    exact refText_nil c a hc ha p cap w
  · obtain ⟨b, o, cap', e, hcl⟩ := h2 h0
    obtain ⟨rfl, rfl⟩ : p = some ⟨b, o, none⟩ ∧ cap = cap' := by injection e with e1 e2 e3; exact ⟨e1, e3⟩
    exact refText_some c a hc ha ns (by unfold maxLen at hn; omega) b o _ w hcl hl
end Go.Proofs.YthiaeppaaahlgaaDoor
