/-
  The landed Find: slices.IndexFunc with the closure that compares keys.
-/
import Derived.Test.YtlgfmkmpopcciaaDoorRefKey13
import Derived.Shelf.Abstract
set_option linter.unusedVariables false
set_option linter.unusedSimpArgs false
namespace Go.Proofs.YtlgfmkmpopcciaaDoor
open Go.RowKit

theorem lay_one13 (w : World) (p : Nat) (hp : w.heap.size = p) (v : Value) (T : TypeId) : (w.alloc (.cells #[v] T)).cell? ⟨p, 0, none⟩ = some v := by subst hp; exact cell_lay w #[v] T 0 v rfl
theorem mkf13 (fn : Fn) (first cap : Array Value) (w : World) : (Instr.makeFunc fn first cap).run Tryd.prog w = .ok (.func fn first cap) w := rfl
set_option maxHeartbeats 1000000 in
set_option maxRecDepth 100000 in
theorem cloFind_any (p : Nat) (key : List UInt8) (x : Sg.Sig) (w : World) (h : w.cell? ⟨p, 0, none⟩ = some (.string (str key))) :
    Calls Tryd.prog 38 #[.agg #[.string (str x.k), .string (str x.n)], .pointer (some ⟨p, 0, none⟩)] w (Ret (.bool (decide (x.k = key))) w) := by
  have hlt := block_lt_of_cell h
  by_cases he : x.k = key
  · rw [decide_eq_true he, he]
    clear he
    go_enter Tryd.func38, Tryd.ntmps38
    go_wp2
    go_ret
    exact ⟨rfl, below_alloc _ _⟩
  · have hb := toL_no13 he
    rw [decide_eq_false he]
    clear he
    go_enter Tryd.func38, Tryd.ntmps38
    go_wp2
    go_ret
    exact ⟨rfl, below_alloc _ _⟩
theorem egFind13 : ∀ args w, (callFunc 38 args).run Tryd.prog w = .ok (.enter 38 args) w := enters_of Tryd.func38 (by kernel_rfl) rfl

set_option maxHeartbeats 4000000 in
set_option maxRecDepth 100000 in
theorem idxFind_any (p : Nat) (key : List UInt8) (v : Value) (t : List Sg.Sig) (w0 w : World) (hb0 : Below w0.heap.size w0 w) (h : SgsAt w v t)
    (hclo : ∀ x : Sg.Sig, ∀ w1, Below w0.heap.size w0 w1 → Calls Tryd.prog 38 #[.agg #[.string (str x.k), .string (str x.n)], .pointer (some ⟨p, 0, none⟩)] w1 (Ret (.bool (decide (x.k = key))) w1)) :
    Calls Tryd.prog 37 #[v, .func (.func 38) #[] #[.pointer (some ⟨p, 0, none⟩)]] w (Ret (.int .i64 (Sg.find t key)) w) := by
  have HA := Lib.hid h
  obtain ⟨⟨a, cp, rfl, _⟩, hm, _⟩ := h
  have hza : t.length ≤ 9223372036854775807 := by unfold maxLen at hm; omega
  obtain ⟨na, hna⟩ : ∃ n, n = t.length := ⟨_, rfl⟩
  have Hna := Lib.hid hna
  obtain ⟨q, hq⟩ : ∃ q, q = Sg.find t key := ⟨_, rfl⟩
  have HQ := Lib.hid hq
  rw [← hna] at hza ⊢
  rw [← hq]
  have eg := egFind13
  have HM : Hid (∀ y ∈ t.take 0, y.k ≠ key) := Lib.hid (by simp)
  have HC := Lib.hid hclo
  have HB0 := Lib.hid hb0
  clear hm hna hq hclo hb0
  go_enter Tryd.func37, Tryd.ntmps37
  go_wp2_with fail
  go_loopw [8] (fun iv wr => ∃ k : Nat, k ≤ na ∧ iv = .int .i64 k ∧ Hid (Below w.heap.size w wr) ∧ Hid (∀ y ∈ t.take k, y.k ≠ key)) (fun iv _ => na - (intOf iv).toNat)
  case atStart => exact ⟨0, Nat.zero_le _, rfl, Lib.hid (Below.refl _ _), HM⟩
  case round =>
    obtain ⟨k, hk, rfl, HB, HT⟩ := hrel
    clear HM
    by_cases hlt : k < na
    · obtain ⟨b1, o1, d1, e1, r1⟩ := HA.out.2.2 (by rw [← Hna.out]; omega)
      obtain ⟨rfl, rfl⟩ : a = some ⟨b1, o1, none⟩ ∧ cp = d1 := by injection e1 with a1 a2 a3; exact ⟨a1, a3⟩
      obtain ⟨x, hx⟩ : ∃ x, t[k]? = some x := ⟨_, List.getElem?_eq_getElem (by rw [← Hna.out]; exact hlt)⟩
      obtain ⟨y0, y1⟩ := sg_cells ((r1 k x hx).mono HB.out)
      have k0 : (0 : Int) ≤ (k : Int) := by omega
      have kl : (k : Int) < (na : Int) := by omega
      have HCx := Lib.hid (fun w1 h => HC.out x w1 h)
      by_cases he : x.k = key
      · have HE : Hid (q = (k : Int)) := Lib.hid (HQ.out.trans (find_here hx HT.out he))
        rw [decide_eq_true he] at HCx
        clear r1 e1 hx he
        go_wp2_with fail
        refine (HCx.out _ (below_step HB0.out HB.out)).mono ?_
        rintro e w1 ⟨rfl, hb1⟩
        have HB1 := Lib.hid (below_step HB.out hb1)
        clear hb1 y0 y1 HCx
        go_wp2
        go_ret
        rw [HE.out]
        exact ⟨rfl, HB1.out⟩
      · have HN : Hid (∀ y ∈ t.take (k + 1), y.k ≠ key) := Lib.hid (fun y hy => by
          rw [It.take_snoc hx] at hy
          rcases List.mem_append.1 hy with hy | hy
          · exact HT.out y hy
          · simp at hy; subst hy; exact he)
        rw [decide_eq_false he] at HCx
        clear r1 e1 hx he
        go_wp2_with fail
        refine (HCx.out _ (below_step HB0.out HB.out)).mono ?_
        rintro e w1 ⟨rfl, hb1⟩
        have HB1 := Lib.hid (below_step HB.out hb1)
        clear hb1 y0 y1 HCx
        go_wp2
        go_roundw
        case rel => exact ⟨k + 1, by omega, by go_num, HB1, HN⟩
        case measure => simp [intOf]; omega
    · have HE : Hid (q = -1) := Lib.hid (HQ.out.trans (find_miss (by have := HT.out; rwa [List.take_of_length_le (by rw [← Hna.out]; omega)] at this)))
      go_wp2
      go_ret
      rw [HE.out]
      exact ⟨rfl, HB.out⟩

set_option maxHeartbeats 4000000 in
set_option maxRecDepth 100000 in
theorem find_any (v : Value) (t : List Sg.Sig) (key : List UInt8) (w : World) (h : SgsAt w v t) : Calls Tryd.prog 17 #[v, .string (str key)] w (Ret (.int .i64 (Sg.find t key)) w) := by
  have hb1 := below_alloc w (.cells #[.string (str key)] 9)
  have hc1 := lay_one13 w w.heap.size rfl (.string (str key)) 9
  have HG := Lib.hid (idxFind_any w.heap.size key v t _ _ (Below.refl _ (w.alloc (.cells #[.string (str key)] 9))) (h.mono hb1) (fun x w1 hw1 => cloFind_any w.heap.size key x w1 (cell_below hw1 hc1)))
  obtain ⟨⟨a, cp, rfl, _⟩, hm, _⟩ := h
  generalize t.length = n at *
  have HB := Lib.hid hb1
  have hmf := mkf13
  generalize Sg.find t key = q at *
  clear hb1 hc1 hm
  go_enter Tryd.func17, Tryd.ntmps17
  go_wp2_with fail
  refine HG.out.mono ?_
  rintro e w1 ⟨rfl, hb1⟩
  have HB1 := Lib.hid (below_step HB.out hb1)
  clear hb1 HG HB
  go_wp2
  go_ret
  exact ⟨rfl, HB1.out⟩
end Go.Proofs.YtlgfmkmpopcciaaDoor
