/-
  The landed Parse's stack of groups: how many are open, the innermost one, and the command that a group would belong to.
-/
import Derived.Test.YtimpadooknclkaaStk6
import Derived.Test.YtimpadooknclkaaRefSame6
import Derived.Deep.RegionLaw
import Derived.Deep.RegionHeld3
set_option linter.unusedVariables false
set_option linter.unusedSimpArgs false
namespace Go.Proofs.Ytimpadooknclkaa
open Go.RowKit

def PtrD (p : Option Addr) (w : World) (e : Ending) (w' : World) : Prop := e = .returned (.pointer p) ∧ ∃ m, w' = w.drewN m
theorem inside_any (Bo k cap : Nat) (p : Option Addr) (w : World) (hc : w.cell? ⟨Bo, 0, none⟩ = some (.slice p (k + 1) cap)) (hk : k ≤ 1099511627776) :
    Calls Try.prog 21 #[.pointer (some ⟨Bo, 0, none⟩)] w (fun e w' => e = .returned (.int .i64 (k : Int)) ∧ w' = w) := by
  have hw1 : IntKind.i64.wrap ((k : Int) + 1 - 1) = (k : Int) := by rw [Int.add_sub_cancel]; exact IntWalk.i64_in _ (by omega)
  have hw2 : IntKind.i64.wrap (k : Int) = (k : Int) := IntWalk.i64_in _ (by omega)
  go_enter Try.func21, Try.ntmps21
  go_wp2
  go_ret
  exact ⟨rfl, rfl⟩

set_option maxHeartbeats 1000000 in
theorem innermost_any (Bo gb k cap : Nat) (w : World) (hc : w.cell? ⟨Bo, 0, none⟩ = some (.slice (some ⟨gb, 0, none⟩) (k + 1) cap)) (hk : k ≤ 1099511627776) :
    Calls Try.prog 22 #[.pointer (some ⟨Bo, 0, none⟩)] w (PtrD (some ⟨gb, k * 2, none⟩) w) := by
  have cI := Lib.hid (fun q => inside_any Bo k cap _ (w.drewN q) hc hk)
  have k0 : (0 : Int) ≤ (k : Int) := by omega
  have k1 : (k : Int) < (k : Int) + 1 := by omega
  go_enter Try.func22, Try.ntmps22
  go_wp2_with fail
  go_quiet ((go_at_call 21; refine Calls.quiet_of_same ((cI.out _).mono fun _ _ h => ⟨h.1, h.2⟩)))
  go_wp2
  go_ret
  exact ⟨rfl, _, rfl⟩

theorem Stk.c0 {B Bo : Nat} {w : World} {gb gc : Nat} {M : List MF} {f : List Nd × Int} {R : Tr.Frames} (h : Stk B Bo w gb gc M (f :: R)) : w.cell? ⟨Bo, 0, none⟩ = some (.slice (some ⟨gb, 0, none⟩) (R.length + 1) gc) := by
  rw [Lib.cell_of_heap h.var]; rfl
theorem Stk.ctop {B Bo : Nat} {w : World} {gb gc : Nat} {M : List MF} {nv : Value} {D : Nat → Prop} {pre : List Nd} {a : Int} {R : Tr.Frames} (h : Stk B Bo w gb gc ((nv, D) :: M) ((pre, a) :: R)) : w.cell? ⟨gb, R.length * 2, none⟩ = some nv ∧ w.cell? ⟨gb, R.length * 2 + 1, none⟩ = some (.int .i64 a) := by
  have hl := gcells_len M R h.frs.2.len
  have c1 := World.ownsRow.cells h.row (g := gb) rfl (R.length * 2) nv (by simp only [gcells]; rw [List.getElem?_append_right (by omega), hl, Nat.sub_self]; rfl)
  have c2 := World.ownsRow.cells h.row (g := gb) rfl (R.length * 2 + 1) (.int .i64 a) (by simp only [gcells]; rw [List.getElem?_append_right (by omega), hl, Nat.add_sub_cancel_left]; rfl)
  rw [add_none] at c1 c2
  exact ⟨by simpa using c1, by simpa using c2⟩
/-- what the innermost group's last node is in memory -/
theorem Fr.last {B : Nat} {w : World} {D : Nat → Prop} {v : Value} {init : List Nd} {n : Nd} (h : Fr B w D v (init ++ [n])) : ∃ p cap c x args a va cs K Ka, n = .mk c x args a ∧ v = .slice (some ⟨p, 0, none⟩) (init.length + 1) cap ∧ init.length + 1 ≤ cap ∧ FrLast B w D v (init ++ [n]) init c x args a va cs K Ka ∧
    w.cell? ⟨p, init.length * 4, none⟩ = some (.bool c) ∧ w.cell? ⟨p, init.length * 4 + 2, none⟩ = some va := by
  rcases h.main with ⟨_, h0⟩ | ⟨init', c, x, args, a, va, cs, K, Ka, hm⟩
  · simp at h0
  · obtain ⟨e, h1, h2, h3, h4, h5, h6⟩ := hm
    obtain ⟨rfl, e2⟩ := List.append_inj' e rfl
    obtain rfl : n = .mk c x args a := by simpa using e2
    have hl : cs.length = init.length * 4 := h2.len
    have h1' := h1
    rcases h1.2 with ⟨_, h7⟩ | ⟨g, cap, cur, rfl, hg, hh, hc, _⟩
    · simp at h7
    · have c0 := World.ownsRow.cells h1' (g := g) rfl (init.length * 4) (.bool c) (by rw [List.getElem?_append_right (by omega), hl, Nat.sub_self]; rfl)
      have c2 := World.ownsRow.cells h1' (g := g) rfl (init.length * 4 + 2) va (by rw [List.getElem?_append_right (by omega), hl, Nat.add_sub_cancel_left]; rfl)
      rw [add_none] at c0 c2
      exact ⟨g, cap, c, x, args, a, va, cs, K, Ka, rfl, by simp, by simpa using hc, ⟨rfl, h1', h2, h3, h4, h5, h6⟩, by simpa using c0, by simpa using c2⟩

set_option maxHeartbeats 1000000 in
/-- no nodes: no command -/
theorem owner_nil (Bo gb k gc : Nat) (p : Option Addr) (cap : Nat) (w : World) (hc : w.cell? ⟨Bo, 0, none⟩ = some (.slice (some ⟨gb, 0, none⟩) (k + 1) gc)) (hk : k ≤ 1099511627776) (ht : w.cell? ⟨gb, k * 2, none⟩ = some (.slice p 0 cap)) :
    Calls Try.prog 41 #[.pointer (some ⟨Bo, 0, none⟩)] w (PtrD none w) := by
  have cI := Lib.hid (innermost_any Bo gb k gc w hc hk)
  go_enter Try.func41, Try.ntmps41
  go_wp2_with fail
  refine cI.out.mono ?_
  rintro e w1 ⟨rfl, m, rfl⟩
  have h1 : (w.drewN m).cell? ⟨gb, k * 2, none⟩ = some (.slice p 0 cap) := ht
  go_wp2
  go_ret
  exact ⟨rfl, _, rfl⟩
set_option maxHeartbeats 1000000 in
/-- the last node, where it is a command -/
theorem owner_some (Bo gb k gc q n cap : Nat) (c : Bool) (w : World) (hc : w.cell? ⟨Bo, 0, none⟩ = some (.slice (some ⟨gb, 0, none⟩) (k + 1) gc)) (hk : k ≤ 1099511627776) (ht : w.cell? ⟨gb, k * 2, none⟩ = some (.slice (some ⟨q, 0, none⟩) (n + 1) cap)) (hn : n ≤ 1099511627776)
    (hq : w.cell? ⟨q, n * 4, none⟩ = some (.bool c)) : Calls Try.prog 41 #[.pointer (some ⟨Bo, 0, none⟩)] w (PtrD (if c then some ⟨q, n * 4, none⟩ else none) w) := by
  have cI := Lib.hid (innermost_any Bo gb k gc w hc hk)
  have hw1 : IntKind.i64.wrap ((n : Int) + 1 - 1) = (n : Int) := by rw [Int.add_sub_cancel]; exact IntWalk.i64_in _ (by omega)
  have hw2 : IntKind.i64.wrap (n : Int) = (n : Int) := IntWalk.i64_in _ (by omega)
  have n0 : (0 : Int) ≤ (n : Int) := by omega
  have n1 : (n : Int) < (n : Int) + 1 := by omega
  have nz : ((n : Int) + 1 == 0) = false := by rw [beq_eq_false_iff_ne]; omega
  cases c
  all_goals
    simp only [if_true, Bool.false_eq_true, if_false]
    go_enter Try.func41, Try.ntmps41
    go_wp2_with fail
    refine cI.out.mono ?_
    rintro e w1 ⟨rfl, m, rfl⟩
    have h1 : (w.drewN m).cell? ⟨gb, k * 2, none⟩ = some (.slice (some ⟨q, 0, none⟩) (n + 1) cap) := ht
    have h2 := drew_cell w m ⟨q, n * 4, none⟩
    rw [hq] at h2
    go_wp2
    go_ret
    exact ⟨rfl, _, rfl⟩
/-- The command that a group would belong to. -/
theorem owner_any {B Bo : Nat} {w : World} {gb gc : Nat} {M : List MF} {nv : Value} {D : Nat → Prop} {pre : List Nd} {a : Int} {R : Tr.Frames} (h : Stk B Bo w gb gc ((nv, D) :: M) ((pre, a) :: R)) (hk : R.length ≤ 1099511627776) (hn : pre.length ≤ 1099511627776) :
    Calls Try.prog 41 #[.pointer (some ⟨Bo, 0, none⟩)] w (fun e w' => (∃ m, w' = w.drewN m) ∧ ((Tr.lastCmd pre = false ∧ e = .returned (.pointer none)) ∨
      (∃ init x args l p cap va cs K Ka, pre = init ++ [.mk true x args l] ∧ nv = .slice (some ⟨p, 0, none⟩) (init.length + 1) cap ∧ FrLast B w D nv pre init true x args l va cs K Ka ∧ w.cell? ⟨p, init.length * 4 + 2, none⟩ = some va ∧ e = .returned (.pointer (some ⟨p, init.length * 4, none⟩))))) := by
  rcases List.eq_nil_or_concat pre with rfl | ⟨init, n, rfl⟩
  · have h1 := h.ctop.1
    obtain ⟨⟨p, cap, rfl, _⟩, _, _⟩ := h.frs.1.at
    exact (owner_nil Bo gb R.length gc p cap w h.c0 hk h1).mono fun e w' ⟨he, hw⟩ => ⟨hw, .inl ⟨rfl, he⟩⟩
  · rw [List.concat_eq_append] at h hn ⊢
    obtain ⟨p, cap, c, x, args, l, va, cs, K, Ka, rfl, rfl, hcap, hm, hc, hv⟩ := h.frs.1.last
    have hn' : init.length ≤ 1099511627776 := by simp at hn; omega
    refine (owner_some Bo gb R.length gc p init.length cap c w h.c0 hk h.ctop.1 hn' hc).mono fun e w' ⟨he, hw⟩ => ⟨hw, ?_⟩
    cases c
    · exact .inl ⟨by rw [Tr.lastCmd_snoc]; rfl, he⟩
    · exact .inr ⟨init, x, args, l, p, cap, va, cs, K, Ka, rfl, rfl, hm, hv, he⟩
end Go.Proofs.Ytimpadooknclkaa
