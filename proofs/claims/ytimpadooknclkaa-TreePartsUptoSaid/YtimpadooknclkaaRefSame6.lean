/-
  The reference's Texts, Same and Places (layer 6), at lists that are the same, wherever each lies.
-/
import Derived.Test.YtimpadooknclkaaNodes
set_option linter.unusedVariables false
set_option linter.unusedSimpArgs false
namespace Go.Proofs.Ytimpadooknclkaa
open Go.RowKit

/-- v is a slice of the texts ns -/
def StrsAt (w : World) (v : Value) (ns : List (List UInt8)) : Prop :=
  (∃ a cap, v = .slice a ns.length cap ∧ ns.length ≤ cap) ∧ ns.length ≤ maxLen ∧ (0 < ns.length → ∃ b o cap, v = .slice (some ⟨b, o, none⟩) ns.length cap ∧ ∀ i s, ns[i]? = some s → w.cell? ⟨b, o + i, none⟩ = some (.string (str s)))
theorem StrsAt.mono {w w' : World} {v : Value} {ns : List (List UInt8)} (h : StrsAt w v ns) (hb : Below w.heap.size w w') : StrsAt w' v ns := by
  obtain ⟨h1, h2, h3⟩ := h
  refine ⟨h1, h2, fun hp => ?_⟩
  obtain ⟨b, o, cap, e, hc⟩ := h3 hp
  exact ⟨b, o, cap, e, fun i s hs => cell_below hb (hc i s hs)⟩
theorem drew_cell (w : World) (n : Nat) (p : Addr) : (w.drewN n).cell? p = w.cell? p := rfl
theorem drew_add (w : World) (n m : Nat) : (w.drewN n).drewN m = w.drewN (n + m) := by simp [World.drewN, Nat.add_assoc]
theorem NodesAt.drew {w : World} {K : Nat → Prop} {v : Value} {l : List Nd} (h : NodesAt w K v l) (n : Nat) : NodesAt (w.drewN n) K v l := NodesAt.move (w := w) (w' := w.drewN n) (fun _ _ _ _ h => h) (fun _ h => h) h

set_option maxHeartbeats 4000000 in
set_option maxRecDepth 100000 in
theorem texts_self (v1 v2 : Value) (xs : List (List UInt8)) (w : World) (h1 : StrsAt w v1 xs) (h2 : StrsAt w v2 xs) : Calls Try.prog 19 #[v1, v2] w (BoolD true w) := by
  obtain ⟨⟨p1, c1, rfl, _⟩, m1, k1⟩ := h1
  obtain ⟨⟨p2, c2, rfl, _⟩, m2, k2⟩ := h2
  have hn : xs.length ≤ 9223372036854775807 := by unfold maxLen at m1; omega
  have HK1 := Lib.hid k1
  have HK2 := Lib.hid k2
  clear k1 k2 m1 m2
  go_enter Try.func19, Try.ntmps19
  go_wp2
  go_loopw [5] (fun i wr => ∃ k m : Nat, k ≤ xs.length ∧ i = .int .i64 k ∧ wr = w.drewN m) (fun i _ => xs.length - (intOf i).toNat)
  case atStart => exact ⟨0, 0, Nat.zero_le _, rfl, rfl⟩
  case round =>
    obtain ⟨k, m, hk, rfl, rfl⟩ := hrel
    by_cases hlt : k < xs.length
    · obtain ⟨b1, o1, d1, e1, q1⟩ := HK1.out (by omega)
      obtain ⟨b2, o2, d2, e2, q2⟩ := HK2.out (by omega)
      obtain ⟨rfl, rfl⟩ : p1 = some ⟨b1, o1, none⟩ ∧ c1 = d1 := by injection e1 with a1 a2 a3; exact ⟨a1, a3⟩
      obtain ⟨rfl, rfl⟩ : p2 = some ⟨b2, o2, none⟩ ∧ c2 = d2 := by injection e2 with a1 a2 a3; exact ⟨a1, a3⟩
      obtain ⟨s, hs⟩ : ∃ s, xs[k]? = some s := ⟨_, List.getElem?_eq_getElem hlt⟩
      have y1 := q1 k s hs
      have y2 := q2 k s hs
      have k0 : (0 : Int) ≤ (k : Int) := by omega
      have kl : (k : Int) < (xs.length : Int) := by omega
      clear q1 q2 e1 e2 hs
      go_wp2_with fail
      go_quiet (fail)
      go_wp2
      go_roundw
      case rel => exact ⟨k + 1, m + nq, by omega, by go_num, rfl⟩
      case measure => simp [intOf]; omega
    · go_wp2
      go_ret
      exact ⟨rfl, m, rfl⟩

theorem boolD_quiet {f : FuncId} {args : Array Value} {w : World} {m q : Nat} {b : Bool} (h : Calls Try.prog f args (w.drewN (m + q)) (BoolD b (w.drewN (m + q)))) : Calls Try.prog f args (w.drewN (m + q)) fun e w'' => e = .returned (.bool b) ∧ ∃ n, w'' = w.drewN (m + n) :=
  h.mono fun _ _ ⟨he, n, hn⟩ => ⟨he, q + n, by rw [hn, drew_add, Nat.add_assoc]⟩
theorem args_of {w : World} {K : Nat → Prop} {n : Nd} {b o : Nat} (h : NdAt w K n b o) : ∃ c x args a va, n = .mk c x args a ∧ w.cell? ⟨b, o, none⟩ = some (.bool c) ∧ w.cell? ⟨b, o + 1, none⟩ = some (.string (str x)) ∧ w.cell? ⟨b, o + 2, none⟩ = some va ∧ w.cell? ⟨b, o + 3, none⟩ = some (.int .i64 a) ∧ ArgsAt w K va args := by
  obtain ⟨c, x, args, a⟩ := n
  unfold NdAt at h
  obtain ⟨va, h1, h2, h3, h4, h5⟩ := h
  exact ⟨c, x, args, a, va, rfl, h1, h2, h3, h4, h5⟩

set_option maxHeartbeats 8000000 in
set_option maxRecDepth 100000 in
theorem same_ind : ∀ (n : Nat) (xs : List Nd), Tr.sizeL xs ≤ n → ∀ (v1 v2 : Value) (K1 K2 : Nat → Prop) (w : World), NodesAt w K1 v1 xs → NodesAt w K2 v2 xs → Calls Try.prog 27 #[v1, v2] w (BoolD true w) := by
  intro n
  induction n with
  | zero =>
    intro xs hsz v1 v2 K1 K2 w h1 h2
    cases xs with
    | nil =>
      obtain ⟨⟨p1, c1, rfl, _⟩, m1, k1⟩ := h1
      obtain ⟨⟨p2, c2, rfl, _⟩, m2, k2⟩ := h2
      clear hsz m1 m2 k1 k2
      go_enter Try.func27, Try.ntmps27
      go_wp2
      refine wp_loop_rounds 1 ?_
      rw [rounds_succ]
      go_wp2
      go_ret
      exact ⟨rfl, 0, rfl⟩
    | cons n r => exfalso; obtain ⟨c, x, args, a⟩ := n; simp [Tr.sizeL, Tr.sizeN] at hsz
  | succ n ih =>
    intro xs hsz v1 v2 K1 K2 w h1 h2
    obtain ⟨⟨p1, c1, rfl, _⟩, m1, k1⟩ := h1
    obtain ⟨⟨p2, c2, rfl, _⟩, m2, k2⟩ := h2
    have hn : xs.length ≤ 9223372036854775807 := by unfold maxLen at m1; omega
    have HK1 := Lib.hid k1
    have HK2 := Lib.hid k2
    have HSz := Lib.hid hsz
    have HI := Lib.hid ih
    clear k1 k2 m1 m2 hsz ih
    go_enter Try.func27, Try.ntmps27
    go_wp2
    go_loopw [5] (fun i wr => ∃ k m : Nat, k ≤ xs.length ∧ i = .int .i64 k ∧ wr = w.drewN m) (fun i _ => xs.length - (intOf i).toNat)
    case atStart => exact ⟨0, 0, Nat.zero_le _, rfl, rfl⟩
    case round =>
      obtain ⟨k, m, hk, rfl, rfl⟩ := hrel
      by_cases hlt : k < xs.length
      · obtain ⟨b1, o1, d1, e1, _, q1⟩ := HK1.out (by omega)
        obtain ⟨b2, o2, d2, e2, _, q2⟩ := HK2.out (by omega)
        obtain ⟨rfl, rfl⟩ : p1 = some ⟨b1, o1, none⟩ ∧ c1 = d1 := by injection e1 with a1 a2 a3; exact ⟨a1, a3⟩
        obtain ⟨rfl, rfl⟩ : p2 = some ⟨b2, o2, none⟩ ∧ c2 = d2 := by injection e2 with a1 a2 a3; exact ⟨a1, a3⟩
        obtain ⟨⟨c, x, args, a⟩, hs⟩ : ∃ s, xs[k]? = some s := ⟨_, List.getElem?_eq_getElem hlt⟩
        have y1 := q1.at hs
        have y2 := q2.at hs
        unfold NdAt at y1 y2
        obtain ⟨va1, y10, y11, y12, y13, ⟨⟨pa1, ca1, rfl, _⟩, ma1, ka1⟩⟩ := y1
        obtain ⟨va2, y20, y21, y22, y23, ⟨⟨pa2, ca2, rfl, _⟩, ma2, ka2⟩⟩ := y2
        have k0 : (0 : Int) ≤ (k : Int) := by omega
        have kl : (k : Int) < (xs.length : Int) := by omega
        have hna : args.length ≤ 9223372036854775807 := by unfold maxLen at ma1; omega
        have HA1 := Lib.hid ka1
        have HA2 := Lib.hid ka2
        have HMem := Lib.hid (List.mem_of_getElem? hs)
        clear q1 q2 e1 e2 hs ka1 ka2 ma1 ma2
        go_wp2_with fail
        go_quiet (fail)
        go_wp2
        go_loopw [6] (fun i wr => ∃ j m2 : Nat, j ≤ args.length ∧ i = .int .i64 j ∧ wr = w.drewN m2) (fun i _ => args.length - (intOf i).toNat)
        case atStart => exact ⟨0, m + nq, Nat.zero_le _, rfl, drew_add _ _ _⟩
        case round =>
          obtain ⟨j, m2, hj, rfl, rfl⟩ := hrel
          by_cases hjl : j < args.length
          · obtain ⟨ab1, ao1, ad1, ae1, _, aq1⟩ := HA1.out (by omega)
            obtain ⟨ab2, ao2, ad2, ae2, _, aq2⟩ := HA2.out (by omega)
            obtain ⟨rfl, rfl⟩ : pa1 = some ⟨ab1, ao1, none⟩ ∧ ca1 = ad1 := by injection ae1 with a1 a2 a3; exact ⟨a1, a3⟩
            obtain ⟨rfl, rfl⟩ : pa2 = some ⟨ab2, ao2, none⟩ ∧ ca2 = ad2 := by injection ae2 with a1 a2 a3; exact ⟨a1, a3⟩
            obtain ⟨g, hg⟩ : ∃ g, args[j]? = some g := ⟨_, List.getElem?_eq_getElem hjl⟩
            obtain ⟨vg1, z1, w1⟩ := aq1.at hg
            obtain ⟨vg2, z2, w2⟩ := aq2.at hg
            have j0 : (0 : Int) ≤ (j : Int) := by omega
            have jl : (j : Int) < (args.length : Int) := by omega
            have hsm := Tr.size_arg HMem.out (List.mem_of_getElem? hg)
            have cQ := Lib.hid (fun q => HI.out g (by have := HSz.out; omega) vg1 vg2 K1 K2 (w.drewN q) (w1.drew q) (w2.drew q))
            clear aq1 aq2 ae1 ae2 hg hsm w1 w2
            go_wp2_with fail
            go_quiet ((go_at_call 27; exact boolD_quiet (cQ.out _)))
            go_wp2
            go_roundw
            case rel => exact ⟨j + 1, m2 + nq, by omega, by go_num, by first | rfl | exact drew_add _ _ _⟩
            case measure => simp [intOf]; omega
          · go_wp2
            go_roundw
            case rel => exact ⟨k + 1, m2, by omega, by go_num, rfl⟩
            case measure => simp [intOf]; omega
      · go_wp2
        go_ret
        exact ⟨rfl, m, rfl⟩
theorem same_self (v1 v2 : Value) (xs : List Nd) (K1 K2 : Nat → Prop) (w : World) (h1 : NodesAt w K1 v1 xs) (h2 : NodesAt w K2 v2 xs) : Calls Try.prog 27 #[v1, v2] w (BoolD true w) := same_ind _ xs (Nat.le_refl _) v1 v2 K1 K2 w h1 h2

set_option maxHeartbeats 8000000 in
set_option maxRecDepth 100000 in
theorem places_ind : ∀ (n : Nat) (xs : List Nd), Tr.sizeL xs < n → ∀ (v1 v2 : Value) (K1 K2 : Nat → Prop) (w : World), NodesAt w K1 v1 xs → NodesAt w K2 v2 xs → Calls Try.prog 10 #[v1, v2] w (BoolD true w) := by
  intro n
  induction n with
  | zero => intro xs h; omega
  | succ n ih =>
    intro xs hsz v1 v2 K1 K2 w h1 h2
    have cS := Lib.hid (same_self v1 v2 xs K1 K2 w h1 h2)
    obtain ⟨⟨p1, c1, rfl, _⟩, m1, k1⟩ := h1
    obtain ⟨⟨p2, c2, rfl, _⟩, m2, k2⟩ := h2
    have hn : xs.length ≤ 9223372036854775807 := by unfold maxLen at m1; omega
    have HK1 := Lib.hid k1
    have HK2 := Lib.hid k2
    have HSz := Lib.hid hsz
    have HI := Lib.hid ih
    clear k1 k2 m1 m2 hsz ih
    go_enter Try.func10, Try.ntmps10
    go_wp2_with fail
    refine cS.out.mono ?_
    rintro e w1 ⟨rfl, q0, rfl⟩
    go_wp2_with fail
    go_loopw [5] (fun i wr => ∃ k m : Nat, k ≤ xs.length ∧ i = .int .i64 k ∧ wr = w.drewN m) (fun i _ => xs.length - (intOf i).toNat)
    case atStart => exact ⟨0, q0, Nat.zero_le _, rfl, rfl⟩
    case round =>
      obtain ⟨k, m, hk, rfl, rfl⟩ := hrel
      by_cases hlt : k < xs.length
      · obtain ⟨b1, o1, d1, e1, _, q1⟩ := HK1.out (by omega)
        obtain ⟨b2, o2, d2, e2, _, q2⟩ := HK2.out (by omega)
        obtain ⟨rfl, rfl⟩ : p1 = some ⟨b1, o1, none⟩ ∧ c1 = d1 := by injection e1 with a1 a2 a3; exact ⟨a1, a3⟩
        obtain ⟨rfl, rfl⟩ : p2 = some ⟨b2, o2, none⟩ ∧ c2 = d2 := by injection e2 with a1 a2 a3; exact ⟨a1, a3⟩
        obtain ⟨⟨c, x, args, a⟩, hs⟩ : ∃ s, xs[k]? = some s := ⟨_, List.getElem?_eq_getElem hlt⟩
        have y1 := q1.at hs
        have y2 := q2.at hs
        unfold NdAt at y1 y2
        obtain ⟨va1, y10, y11, y12, y13, ⟨⟨pa1, ca1, rfl, _⟩, ma1, ka1⟩⟩ := y1
        obtain ⟨va2, y20, y21, y22, y23, ⟨⟨pa2, ca2, rfl, _⟩, ma2, ka2⟩⟩ := y2
        have k0 : (0 : Int) ≤ (k : Int) := by omega
        have kl : (k : Int) < (xs.length : Int) := by omega
        have hna : args.length ≤ 9223372036854775807 := by unfold maxLen at ma1; omega
        have HA1 := Lib.hid ka1
        have HA2 := Lib.hid ka2
        have HMem := Lib.hid (List.mem_of_getElem? hs)
        clear q1 q2 e1 e2 hs ka1 ka2 ma1 ma2
        go_wp2_with fail
        go_quiet (fail)
        go_wp2
        go_loopw [6] (fun i wr => ∃ j m2 : Nat, j ≤ args.length ∧ i = .int .i64 j ∧ wr = w.drewN m2) (fun i _ => args.length - (intOf i).toNat)
        case atStart => exact ⟨0, m + nq, Nat.zero_le _, rfl, drew_add _ _ _⟩
        case round =>
          obtain ⟨j, m2, hj, rfl, rfl⟩ := hrel
          by_cases hjl : j < args.length
          · obtain ⟨ab1, ao1, ad1, ae1, _, aq1⟩ := HA1.out (by omega)
            obtain ⟨ab2, ao2, ad2, ae2, _, aq2⟩ := HA2.out (by omega)
            obtain ⟨rfl, rfl⟩ : pa1 = some ⟨ab1, ao1, none⟩ ∧ ca1 = ad1 := by injection ae1 with a1 a2 a3; exact ⟨a1, a3⟩
            obtain ⟨rfl, rfl⟩ : pa2 = some ⟨ab2, ao2, none⟩ ∧ ca2 = ad2 := by injection ae2 with a1 a2 a3; exact ⟨a1, a3⟩
            obtain ⟨g, hg⟩ : ∃ g, args[j]? = some g := ⟨_, List.getElem?_eq_getElem hjl⟩
            obtain ⟨vg1, z1, w1⟩ := aq1.at hg
            obtain ⟨vg2, z2, w2⟩ := aq2.at hg
            have j0 : (0 : Int) ≤ (j : Int) := by omega
            have jl : (j : Int) < (args.length : Int) := by omega
            have hsm := Tr.size_arg HMem.out (List.mem_of_getElem? hg)
            have cQ := Lib.hid (fun q => HI.out g (by have := HSz.out; omega) vg1 vg2 K1 K2 (w.drewN q) (w1.drew q) (w2.drew q))
            clear aq1 aq2 ae1 ae2 hg hsm w1 w2
            go_wp2_with fail
            go_quiet ((go_at_call 10; exact boolD_quiet (cQ.out _)))
            go_wp2
            go_roundw
            case rel => exact ⟨j + 1, m2 + nq, by omega, by go_num, by first | rfl | exact drew_add _ _ _⟩
            case measure => simp [intOf]; omega
          · go_wp2
            go_roundw
            case rel => exact ⟨k + 1, m2, by omega, by go_num, rfl⟩
            case measure => simp [intOf]; omega
      · go_wp2
        go_ret
        exact ⟨rfl, m, rfl⟩
theorem places_self (v1 v2 : Value) (xs : List Nd) (K1 K2 : Nat → Prop) (w : World) (h1 : NodesAt w K1 v1 xs) (h2 : NodesAt w K2 v2 xs) : Calls Try.prog 10 #[v1, v2] w (BoolD true w) := places_ind _ xs (Nat.lt_succ_self _) v1 v2 K1 K2 w h1 h2
end Go.Proofs.Ytimpadooknclkaa
