/-
  The landed Depth.
-/
import Derived.Test.YtimpadooknclkaaLevels6
import Derived.OneCell
import Derived.Shelf.Abstract
set_option linter.unusedVariables false
set_option linter.unusedSimpArgs false
namespace Go.Proofs.Ytimpadooknclkaa
open Go.RowKit

theorem depthA_top : ∀ (l : List (List Nd)), 1 ≤ Tr.depthA l → ∃ g ∈ l, Tr.depthL g + 1 = Tr.depthA l
  | [], h => by simp [Tr.depthA] at h
  | g :: gs, h => by
    by_cases h1 : Tr.depthA gs ≤ 1 + Tr.depthL g
    · exact ⟨g, List.mem_cons_self .., by simp only [Tr.depthA]; omega⟩
    · obtain ⟨g', h2, h3⟩ := depthA_top gs (by omega)
      exact ⟨g', List.mem_cons_of_mem _ h2, by simp only [Tr.depthA]; omega⟩
theorem depthL_top : ∀ (l : List Nd), 1 ≤ Tr.depthL l → ∃ n ∈ l, Tr.depthN n = Tr.depthL l
  | [], h => by simp [Tr.depthL] at h
  | n :: r, h => by
    by_cases h1 : Tr.depthL r ≤ Tr.depthN n
    · exact ⟨n, List.mem_cons_self .., by simp only [Tr.depthL]; omega⟩
    · obtain ⟨g', h2, h3⟩ := depthL_top r (by omega)
      exact ⟨g', List.mem_cons_of_mem _ h2, by simp only [Tr.depthL]; omega⟩
theorem args_top {l : List Nd} (h : 1 ≤ Tr.depthL l) : ∃ n ∈ l, ∃ g ∈ ndArgs n, Tr.depthL g + 1 = Tr.depthL l := by
  obtain ⟨⟨c, x, args, a⟩, hn, h2⟩ := depthL_top l h
  simp only [Tr.depthN] at h2
  obtain ⟨g, hg, h3⟩ := depthA_top args (by omega)
  exact ⟨_, hn, g, hg, by omega⟩
theorem lv_top : ∀ (k : Nat) (l : List Nd), k ≤ Tr.depthL l → ∃ g ∈ Lv k l, Tr.depthL g + k = Tr.depthL l
  | 0, l, _ => ⟨l, List.mem_singleton.2 rfl, rfl⟩
  | k + 1, l, h => by
    obtain ⟨g, hg, h2⟩ := lv_top k l (by omega)
    obtain ⟨n, hn, g', hg', h3⟩ := args_top (l := g) (by omega)
    exact ⟨g', mem_argsOf.2 ⟨g, hg, mem_nodesArgs.2 ⟨n, hn, hg'⟩⟩, by omega⟩
theorem lv_args {k : Nat} {l : List Nd} (h : k + 1 ≤ Tr.depthL l) : ∃ n ∈ lvNodes k l, ndArgs n ≠ [] := by
  obtain ⟨g, hg, h2⟩ := lv_top k l (by omega)
  obtain ⟨n, hn, g', hg', _⟩ := args_top (l := g) (by omega)
  exact ⟨n, List.mem_flatten.2 ⟨g, hg, hn⟩, fun e => by rw [e] at hg'; cases hg'⟩
theorem args_lv {k : Nat} {l : List Nd} {n : Nd} (hn : n ∈ lvNodes k l) (ha : ndArgs n ≠ []) : k + 1 ≤ Tr.depthL l := by
  obtain ⟨g, hg, h2⟩ := List.mem_flatten.1 hn
  obtain ⟨x, hx⟩ := List.exists_mem_of_ne_nil _ ha
  have h3 := nodesArgs_depth (mem_nodesArgs.2 ⟨n, h2, hx⟩)
  have h4 := lv_depth k l g hg
  omega

def CapI (p : Nat) (r : Nat) (w : World) : Prop := w.heap[p]? = some (.cells #[.int .i64 (r : Int)] 3 (0, 0))
def depN (r n k : Nat) : Nat × Bool := (if n = 0 then r else k + 1, decide ((if n = 0 then r else k + 1) ≤ 100))
def depStep (r : Nat) (n : Nd) (k : Nat) : Nat × Bool := depN r (ndArgs n).length k

set_option maxHeartbeats 2000000 in
set_option maxRecDepth 100000 in
theorem depCloN (p : Nat) (r : Nat) (c : Bool) (x : List UInt8) (pa : Option Addr) (n : Nat) (ca : Nat) (a : Int) (k : Nat) (w : World) (h : CapI p r w) (hk : k ≤ 4294967296) (hal : n ≤ 4294967296) :
    Calls Try.prog 36 #[.agg #[.bool c, .string (str x), .slice pa n ca, .int .i64 a], .int .i64 (k : Int), .pointer (some ⟨p, 0, none⟩)] w
      (fun e w' => e = .returned (.bool (depN r n k).2) ∧ CapI p (depN r n k).1 w' ∧ w.grownBy w' (some p)) := by
  have hb := below_alloc w (.cells #[.bool c, .string (str x), .slice pa n ca, .int .i64 a] 43)
  have hlt := lt_of_block h
  have h1 : (w.alloc (.cells #[.bool c, .string (str x), .slice pa n ca, .int .i64 a] 43)).heap[p]? = _ := (hb.block p hlt).trans h
  have c0 := cell_of_one h1
  have f0 : (w.alloc (.cells #[.bool c, .string (str x), .slice pa n ca, .int .i64 a] 43)).frozen? ⟨p, 0, none⟩ = false := Lib.frozen_of_heap h1 0
  have H1 := Lib.hid h1
  have H00 : Hid (w.heap[p]? = some (.cells #[.int .i64 (r : Int)] 3 (0, 0))) := Lib.hid h
  have HB := Lib.hid hb
  have hne : p ≠ w.heap.size := by omega
  have hw1 : IntKind.i64.wrap ((k : Int) + 1) = (k : Int) + 1 := IntWalk.i64_in _ (by omega)
  have HD : Hid (depN r n k = (if n = 0 then r else k + 1, decide ((if n = 0 then r else k + 1) ≤ 100))) := Lib.hid rfl
  clear h h1 hb hal
  rcases Nat.eq_zero_or_pos n with h0 | h0
  · subst h0
    rw [if_pos rfl] at HD
    by_cases hr : r ≤ 100
    · have g1 : (r : Int) ≤ 100 := by omega
      rw [decide_eq_true hr] at HD
      go_enter Try.func36, Try.ntmps36
      go_wp2
      go_ret
      rw [HD.out]
      exact ⟨rfl, H1.out, grown_below HB.out⟩
    · have g1 : ¬ (r : Int) ≤ 100 := by omega
      rw [decide_eq_false hr] at HD
      go_enter Try.func36, Try.ntmps36
      go_wp2
      go_ret
      rw [HD.out]
      exact ⟨rfl, H1.out, grown_below HB.out⟩
  · rw [if_neg (by omega)] at HD
    have g0 : (0 : Int) < (n : Int) := by omega
    have hE0 := one_setCell (u := .int .i64 ((k : Int) + 1)) H00.out
    have hE : ((w.setCell ⟨p, 0, none⟩ (.int .i64 ((k : Int) + 1))).alloc (.cells #[.bool c, .string (str x), .slice pa n ca, .int .i64 a] 43)).heap[p]? = _ := ((below_alloc _ _).block p (by simpa using hlt)).trans hE0
    have HE := Lib.hid hE
    have e0 := cell_of_one hE
    clear hE0 hE
    by_cases hr : k + 1 ≤ 100
    · have g1 : (k : Int) + 1 ≤ 100 := by omega
      have g2 : (k : Int) < 100 := by omega
      have g3 : (k : Int) ≤ 99 := by omega
      rw [decide_eq_true hr] at HD
      go_enter Try.func36, Try.ntmps36
      go_wp2
      go_ret
      rw [HD.out]
      exact ⟨rfl, HE.out, grown_trans (set_grown w p 0 _) (grown_below (below_alloc _ _))⟩
    · have g1 : ¬ (k : Int) + 1 ≤ 100 := by omega
      have g2 : ¬ (k : Int) < 100 := by omega
      have g3 : ¬ (k : Int) ≤ 99 := by omega
      rw [decide_eq_false hr] at HD
      go_enter Try.func36, Try.ntmps36
      go_wp2
      go_ret
      rw [HD.out]
      exact ⟨rfl, HE.out, grown_trans (set_grown w p 0 _) (grown_below (below_alloc _ _))⟩
theorem depClo (p : Nat) (r : Nat) (c : Bool) (x : List UInt8) (pa : Option Addr) (args : List (List Nd)) (ca : Nat) (a : Int) (k : Nat) (w : World) (h : CapI p r w) (hk : k ≤ 4294967296) (hal : args.length ≤ 4294967296) :
    Calls Try.prog 36 #[.agg #[.bool c, .string (str x), .slice pa args.length ca, .int .i64 a], .int .i64 (k : Int), .pointer (some ⟨p, 0, none⟩)] w
      (fun e w' => e = .returned (.bool (depStep r (.mk c x args a) k).2) ∧ CapI p (depStep r (.mk c x args a) k).1 w' ∧ w.grownBy w' (some p)) := depCloN p r c x pa args.length ca a k w h hk hal
theorem eg_dep : ∀ args w, (callFunc 36 args).run Try.prog w = .ok (.enter 36 args) w := enters_of Try.func36 (by kernel_rfl) rfl

theorem depStep_none {r : Nat} {n : Nd} {k : Nat} (h : ndArgs n = []) : depStep r n k = (r, decide (r ≤ 100)) := by unfold depStep depN; rw [h]; rfl
theorem depStep_some {r : Nat} {n : Nd} {k : Nat} (h : ndArgs n ≠ []) : depStep r n k = (k + 1, decide (k + 1 ≤ 100)) := by
  unfold depStep depN
  have : (ndArgs n).length ≠ 0 := fun e => h (List.eq_nil_of_length_eq_zero e)
  rw [if_neg this]
def depJ (l : List Nd) (k r : Nat) : Prop := r = min k (Tr.depthL l) ∧ r ≤ 100
def depQ (l : List Nd) (k : Nat) (V : List Nd) (r : Nat) : Prop := r ≤ 100 ∧ ((r = k + 1 ∧ k + 1 ≤ Tr.depthL l) ∨ (r = min k (Tr.depthL l) ∧ ∀ n ∈ V, ndArgs n = []))

set_option maxHeartbeats 2000000 in
set_option maxRecDepth 100000 in
/-- The program's Depth, where no block that it reads bears a frozen cell. -/
theorem depth_any6 (v : Value) (l : List Nd) (K : Nat → Prop) (w : World) (hn : Tr.sizeL l ≤ 1073741824) (h : NodesC w K v l) : Calls Try.prog 18 #[v] w (Ret (.int .i64 (Tr.deep l 101 : Int)) w) := by
  have hmf : ∀ (fn : Fn) (first cap : Array Value) (w : World), (Instr.makeFunc fn first cap).run Try.prog w = .ok (.func fn first cap) w := fun _ _ _ _ => rfl
  have hb := below_alloc w (.cells #[.int .i64 0] 3)
  have HB0 := Lib.hid hb
  have HW := Lib.hid (levels_any (σ := Nat) 36 eg_dep w.heap.size (CapI w.heap.size) depStep (fun s w1 w2 h hb => (hb.block _ (lt_of_block h)).trans h) (fun s w h => lt_of_block h)
    (fun s c x pa args ca a k w hi hk hal => depClo _ s c x pa args ca a k w hi hk hal) l (depJ l) (depQ l) (fun r => r = Tr.deep l 101)
    (fun k r hj => ⟨hj.2, .inr ⟨hj.1, fun n hn => by cases hn⟩⟩)
    (fun k V r n hq hm hs => by
      by_cases ha : ndArgs n = []
      · rw [depStep_none ha] at hs ⊢
        refine ⟨hq.1, hq.2.imp id fun h => ⟨h.1, fun m hm => ?_⟩⟩
        rcases List.mem_append.1 hm with hm | hm
        · exact h.2 m hm
        · rw [List.mem_singleton.1 hm]; exact ha
      · rw [depStep_some ha] at hs ⊢
        exact ⟨of_decide_eq_true hs, .inl ⟨rfl, args_lv hm ha⟩⟩)
    (fun k V r n hq hm hs => by
      by_cases ha : ndArgs n = []
      · rw [depStep_none ha] at hs
        exact absurd hq.1 (of_decide_eq_false hs)
      · rw [depStep_some ha] at hs ⊢
        have h1 := of_decide_eq_false hs
        have h2 := args_lv hm ha
        have h3 := hq.1
        show k + 1 = min (Tr.depthL l) 101
        rcases hq.2 with h4 | h4
        · omega
        · have := h4.1; omega)
    (fun k V r hq hV => by
      refine ⟨?_, hq.1⟩
      rcases hq.2 with h4 | h4
      · omega
      · by_cases h5 : k + 1 ≤ Tr.depthL l
        · obtain ⟨n, h6, h7⟩ := lv_args h5
          exact absurd (h4.2 n ((hV n).2 h6)) h7
        · have := h4.1; omega)
    (fun k r hj he => by
      have h1 : ¬ k ≤ Tr.depthL l := fun h => by
        obtain ⟨g, hg, _⟩ := lv_top k l h
        rw [he] at hg
        cases hg
      show r = min (Tr.depthL l) 101
      have := hj.1
      have := hj.2
      omega)
    v K 0 (w.alloc (.cells #[.int .i64 0] 3)) hn (h.nodes.mono hb) (fun b hb' => ⟨((h.clear b hb').mono hb).lt, (h.clear b hb').mono hb, by have := (h.clear b hb').lt; omega⟩) (heap_alloc_new _ _) ⟨by simp, by omega⟩)
  obtain ⟨R, hR⟩ : ∃ R, R = Tr.deep l 101 := ⟨_, rfl⟩
  rw [← hR] at HW ⊢
  clear h hb hR
  go_enter Try.func18, Try.ntmps18
  go_wp2_with fail
  refine HW.out.mono ?_
  rintro e w1 ⟨rfl, s, rfl, h1, hg⟩
  have c0 := cell_of_one h1
  have HG := Lib.hid hg
  clear h1 hg
  go_wp2
  go_ret
  exact ⟨rfl, HB0.out.grown HG.out (by simp) (fun q hq => by have := Option.some.inj hq; omega)⟩
end Go.Proofs.Ytimpadooknclkaa
