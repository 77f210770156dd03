/-
  What the program's package fault makes of a fault and its stages: the chain that wrap lays in memory, and the methods of its links.
-/
import Derived.Test.YthiaeppaaahlgaaGreatDoorCut
import Derived.Test.YthiaeppaaahlgaaGreatDoorBuilder
import Derived.Test.YthiaeppaaahlgaaGreatDoorShelf
import Derived.Lib.QuietBelow
import Derived.WalkSmall
import Derived.LaidEql
import Derived.Stop.Asserts
import Derived.RowKitTokens
import Derived.Deep.DeepCutAuto
set_option linter.unusedVariables false
set_option linter.unusedSimpArgs false
namespace Go.Proofs.YthiaeppaaahlgaaGreatDoor
open Go.RowKit Go.Extern.Stop Go.Stop Go.Extern

/-- v is an error: a fault of code c at a, in the stages ns, the outermost one first. -/
def ChainAt (w : World) (c a : Int) : List ByteArray → Value → Prop
  | [], v => v = .iface 42 (.agg #[.int .i64 c, .int .i64 a])
  | n :: r, v => ∃ (b : Nat) (inner : Value), v = .iface 53 (.pointer (some ⟨b, 0, none⟩)) ∧ w.cell? ⟨b, 0, none⟩ = some (.string n) ∧ w.cell? ⟨b, 1, none⟩ = some inner ∧ ChainAt w c a r inner
theorem ChainAt.zero (w : World) (c a : Int) : ChainAt w c a [] (.iface 42 (.agg #[.int .i64 c, .int .i64 a])) := by unfold ChainAt; rfl
theorem ChainAt.succ {w : World} {c a : Int} {n : ByteArray} {r : List ByteArray} {b : Nat} {inner : Value} (h1 : w.cell? ⟨b, 0, none⟩ = some (.string n)) (h2 : w.cell? ⟨b, 1, none⟩ = some inner) (h3 : ChainAt w c a r inner) :
    ChainAt w c a (n :: r) (.iface 53 (.pointer (some ⟨b, 0, none⟩))) := by unfold ChainAt; exact ⟨b, inner, rfl, h1, h2, h3⟩
theorem ChainAt.isIface {w : World} {c a : Int} : ∀ {ns : List ByteArray} {v : Value}, ChainAt w c a ns v → ∃ t x, v = .iface t x
  | [], _, h => ⟨_, _, h⟩
  | _ :: _, _, ⟨b, _, h1, _⟩ => ⟨_, _, h1⟩
theorem cell_below {w w' : World} (hb : Below w.heap.size w w') {p : Addr} {v : Value} (h : w.cell? p = some v) : w'.cell? p = some v := by
  rw [hb.cell (block_lt_of_cell h)]; exact h
theorem ChainAt.mono {w w' : World} {c a : Int} (hb : Below w.heap.size w w') : ∀ {ns : List ByteArray} {v : Value}, ChainAt w c a ns v → ChainAt w' c a ns v
  | [], _, h => h
  | _ :: _, _, ⟨b, inner, h1, h2, h3, h4⟩ => ⟨b, inner, h1, cell_below hb h2, cell_below hb h3, ChainAt.mono hb h4⟩

/-- v is a slice of the strings ns. -/
def StrsAt (w : World) (v : Value) (ns : List ByteArray) : Prop :=
  (∃ a cap, v = .slice a ns.length cap) ∧ ns.length ≤ maxLen ∧ (0 < ns.length → ∃ b o cap, v = .slice (some ⟨b, o, none⟩) ns.length cap ∧ ∀ i s, ns[i]? = some s → w.cell? ⟨b, o + i, none⟩ = some (.string s))
theorem StrsAt.mono {w w' : World} {v : Value} {ns : List ByteArray} (hb : Below w.heap.size w w') (h : StrsAt w v ns) : StrsAt w' v ns := by
  obtain ⟨h1, h2, h3⟩ := h
  refine ⟨h1, h2, fun hp => ?_⟩
  obtain ⟨b, o, cap, e, hc⟩ := h3 hp
  exact ⟨b, o, cap, e, fun i s hs => cell_below hb (hc i s hs)⟩

def WrapPost (c a : Int) (ns : List ByteArray) (w : World) (e : Ending) (w' : World) : Prop := ∃ v, e = .returned v ∧ ChainAt w' c a ns v ∧ Below w.heap.size w w'

set_option maxHeartbeats 2000000 in
set_option maxRecDepth 100000 in
theorem wrap_nil (c a : Int) (p : Option Addr) (cap : Nat) (w : World) :
    Calls Tryz.prog 12 #[.agg #[.int .i64 c, .int .i64 a], .slice p 0 cap] w (WrapPost c a [] w) := by
  go_enter Tryz.func12, Tryz.ntmps12
  go_wp2
  refine wp_loop_rounds 1 ?_
  rw [rounds_succ]
  go_wp2
  go_ret
  refine ⟨_, rfl, ChainAt.zero _ _ _, ?_⟩
  exact (Below.refl _ _).alloc (Nat.le_refl _) _

theorem drop_at {ns : List ByteArray} {j : Nat} {s : ByteArray} (h : ns[j]? = some s) : ns.drop j = s :: ns.drop (j + 1) := by
  obtain ⟨hj, e⟩ := List.getElem?_eq_some_iff.1 h
  rw [← e]; exact List.drop_eq_getElem_cons hj

set_option maxHeartbeats 4000000 in
set_option maxRecDepth 100000 in
theorem wrap_some (c a : Int) (ns : List ByteArray) (hn : ns.length ≤ 9223372036854775807) (b o cap : Nat) (w : World) (hc : ∀ i s, ns[i]? = some s → w.cell? ⟨b, o + i, none⟩ = some (.string s)) :
    Calls Tryz.prog 12 #[.agg #[.int .i64 c, .int .i64 a], .slice (some ⟨b, o, none⟩) ns.length cap] w (WrapPost c a ns w) := by
  have HC := Lib.hid hc
  clear hc
  go_enter Tryz.func12, Tryz.ntmps12
  go_wp2
  go_loopw [5, 6] (fun v i wr => ∃ k : Nat, k ≤ ns.length ∧ i = .int .i64 ((k : Int) - 1) ∧ ChainAt wr c a (ns.drop k) v ∧ Below w.heap.size w wr) (fun _ i _ => (intOf i + 1).toNat)
  case atStart => exact ⟨ns.length, Nat.le_refl _, rfl, by rw [List.drop_length]; exact ChainAt.zero _ _ _, (Below.refl _ _).alloc (Nat.le_refl _) _⟩
  case round =>
    obtain ⟨k, hk, rfl, hch, hb⟩ := hrel
    obtain ⟨ty, x, rfl⟩ := hch.isIface
    have HCH := Lib.hid hch
    have HB := Lib.hid hb
    clear hch hb
    rcases k with _ | j
    · go_wp2
      go_ret
      exact ⟨_, rfl, HCH.out, HB.out⟩
    · have hj : j < ns.length := by omega
      obtain ⟨s, hs⟩ : ∃ s, ns[j]? = some s := ⟨_, List.getElem?_eq_getElem hj⟩
      have hcell := cell_below HB.out (HC.out j s hs)
      have e : (((j + 1 : Nat) : Int) - 1) = (j : Int) := by omega
      rw [e]
      clear e
      have HS := Lib.hid hs
      clear hs
      go_wp2
      go_roundw
      case rel =>
        have hb2 : Below wr.heap.size wr (wr.alloc (.cells #[.string s, .iface ty x] 55)) := (Below.refl _ _).alloc (Nat.le_refl _) _
        refine ⟨j, by omega, rfl, ?_, HB.out.trans (hb2.mono HB.out.size)⟩
        rw [drop_at HS.out]
        exact ChainAt.succ (by simp) (by simp) (HCH.out.mono hb2)
      case measure => simp [intOf]

theorem wrap_any (c a : Int) (v : Value) (ns : List ByteArray) (w : World) (h : StrsAt w v ns) :
    Calls Tryz.prog 12 #[.agg #[.int .i64 c, .int .i64 a], v] w (WrapPost c a ns w) := by
  obtain ⟨⟨p, cap, rfl⟩, hl, h2⟩ := h
  rcases Nat.eq_zero_or_pos ns.length with h0 | h0
  · obtain rfl : ns = [] := List.eq_nil_of_length_eq_zero h0
    exact wrap_nil c a p cap w
  · obtain ⟨b, o, cap', e, hc⟩ := h2 h0
    obtain ⟨rfl, rfl⟩ : p = some ⟨b, o, none⟩ ∧ cap = cap' := by injection e with e1 e2 e3; exact ⟨e1, e3⟩
    exact wrap_some c a ns (by unfold maxLen at hl; omega) b o _ w hc

/-! ### what the walks ask of the package-level variables -/
structure Env (w : World) : Prop where
  cut : ∃ m, w.cell? ⟨1, 0, none⟩ = some (.int .i64 m)
  syn : ∃ tp p, w.var? Tryz.prog "strconv.ErrSyntax" = some #[.iface tp p]
  rng : ∃ tp p, w.var? Tryz.prog "strconv.ErrRange" = some #[.iface tp p]
  tab : Lib.TabIs Tryz.prog w "internal/strconv.uint64pow10" .u64 Lib.pow10Tab
theorem var_below {w w' : World} (hb : Below w.heap.size w w') {n : String} {cs : Array Value} (h : w.var? Tryz.prog n = some cs) : w'.var? Tryz.prog n = some cs := by
  have h0 := h
  unfold World.var? at h
  cases hg : Tryz.prog.globalNamed n with
  | none => rw [hg] at h; cases h
  | some g =>
    rw [hg] at h
    simp only [Option.bind_some] at h
    have hlt : g < w.heap.size := by
      rcases Nat.lt_or_ge g w.heap.size with h' | h'
      · exact h'
      · rw [Array.getElem?_eq_none h'] at h; cases h
    exact var?_below hb hg hlt h0
theorem Env.mono {w w' : World} (h : Env w) (hb : Below w.heap.size w w') : Env w' := by
  obtain ⟨⟨m, h1⟩, ⟨t2, p2, h2⟩, ⟨t3, p3, h3⟩, h4⟩ := h
  exact ⟨⟨m, cell_below hb h1⟩, ⟨t2, p2, var_below hb h2⟩, ⟨t3, p3, var_below hb h3⟩, var_below hb h4⟩

theorem below_growN (w : World) (k : Nat) (os : Array Obj) : Below w.heap.size w (Go.Sort.grow (w.drewN k) os) :=
  ⟨rfl, rfl, rfl, by simp [Go.Sort.grow, World.drewN], fun i hi => by simp [Go.Sort.grow, World.drewN, Array.getElem?_append, hi]⟩
/-- strconv.Itoa -/
theorem itoa_any (n : Int) (h0 : -9223372036854775808 ≤ n) (h1 : n ≤ 9223372036854775807) (w : World) (hE : Env w) :
    Calls Tryz.prog 34 #[.int .i64 n] w fun e w' => e = .returned (.string ⟨(Lib.itoa n).toArray⟩) ∧ Below w.heap.size w w' := by
  refine (Tryz.strconv_Itoa n h0 h1 w hE.tab).mono ?_
  rintro e w' ⟨he, k, os, rfl⟩
  exact ⟨he, below_growN _ _ _⟩

theorem itoa_len (n : Int) (h0 : -9223372036854775808 ≤ n) (h1 : n ≤ 9223372036854775807) : (Lib.itoa n).length ≤ 20 := by
  have := num_len (Fm.num_itoa n h0 h1)
  exact this
theorem fault_len (c a : Int) (hc : -9223372036854775808 ≤ c ∧ c ≤ 9223372036854775807) (ha : -9223372036854775808 ≤ a ∧ a ≤ 9223372036854775807) : (Fm.faultText c a).length ≤ 50 := by
  have h1 := itoa_len c hc.1 hc.2
  have h2 := itoa_len a ha.1 ha.2
  unfold Fm.faultText
  split <;> simp [Fm.faultB, Fm.atB] <;> omega
theorem str_cat3 (x y z : List UInt8) (u : ByteArray) (h : u.data.toList = x ++ y ++ z) : u = ⟨(x ++ y ++ z).toArray⟩ := by
  obtain ⟨⟨u⟩⟩ := u
  simp at h
  rw [h]
  simp

set_option maxHeartbeats 2000000 in
set_option maxRecDepth 100000 in
theorem fail_error (c a : Int) (hc : -9223372036854775808 ≤ c ∧ c ≤ 9223372036854775807) (ha : -9223372036854775808 ≤ a ∧ a ≤ 9223372036854775807) (w : World) (hE : Env w) :
    Calls Tryz.prog 84 #[.agg #[.int .i64 c, .int .i64 a]] w fun e w' => e = .returned (.string ⟨(Fm.faultText c a).toArray⟩) ∧ Below w.heap.size w w' := by
  have l1 := itoa_len c hc.1 hc.2
  have l2 := itoa_len a ha.1 ha.2
  have n1 : ¬ 9223372036854775807 < 6 + (Lib.itoa c).length := by omega
  have n2 : ¬ 9223372036854775807 < 6 + (Lib.itoa c).length + 4 := by omega
  have n3 : ¬ 9223372036854775807 < 6 + (Lib.itoa c).length + 4 + (Lib.itoa a).length := by omega
  have hb0 : Below w.heap.size w (w.alloc (.cells #[.int .i64 c, .int .i64 a] 42)) := (Below.refl _ _).alloc (Nat.le_refl _) _
  by_cases hn : a < 0
  · go_enter Tryz.func84, Tryz.ntmps84
    go_wp2_with (go_at_call 34; refine (itoa_any c hc.1 hc.2 _ (hE.mono hb0)).mono ?_; rintro e w1 ⟨rfl, hb1⟩; obtain ⟨hcl, hfr⟩ : w1.cell? ⟨w.heap.size, 0, none⟩ = some (.int .i64 c) ∧ w1.cell? ⟨w.heap.size, 1, none⟩ = some (.int .i64 a) := ⟨cell_below hb1 (by simp), cell_below hb1 (by simp)⟩)
    go_ret
    refine ⟨ret_str ?_, hb0.trans (hb1.mono (by simp))⟩
    show _ = Fm.faultText c a
    unfold Fm.faultText
    rw [if_pos hn, ByteArray.data_append, Array.toList_append, List.append_nil]
    rfl
  · go_enter Tryz.func84, Tryz.ntmps84
    go_wp2_with (first | (go_at_call 34; refine (itoa_any c hc.1 hc.2 _ (hE.mono hb0)).mono ?_; rintro e w1 ⟨rfl, hb1⟩; obtain ⟨hcl, hfr⟩ : w1.cell? ⟨w.heap.size, 0, none⟩ = some (.int .i64 c) ∧ w1.cell? ⟨w.heap.size, 1, none⟩ = some (.int .i64 a) := ⟨cell_below hb1 (by simp), cell_below hb1 (by simp)⟩) | (go_at_call 34; refine (itoa_any a ha.1 ha.2 _ ((hE.mono hb0).mono hb1)).mono ?_; rintro e w2 ⟨rfl, hb2⟩))
    go_ret
    refine ⟨ret_str ?_, (hb0.trans (hb1.mono (by simp))).trans (hb2.mono ?_)⟩
    · show _ = Fm.faultText c a
      unfold Fm.faultText
      rw [if_neg (by omega)]
      simp only [ByteArray.data_append, Array.toList_append]
      rw [List.append_assoc]
      rfl
    · have := hb1.size; simp at this; omega
end Go.Proofs.YthiaeppaaahlgaaGreatDoor
