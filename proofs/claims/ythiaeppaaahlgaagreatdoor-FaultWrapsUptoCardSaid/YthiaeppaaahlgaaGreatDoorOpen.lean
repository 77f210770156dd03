/-
  What the laws of this seat are handed: a fault, stages, a text: their values, and what the bound on the bulk gives.
-/
import Derived.Test.YthiaeppaaahlgaaGreatDoorFrame
set_option linter.unusedVariables false
set_option linter.unusedSimpArgs false
namespace Go.Proofs.YthiaeppaaahlgaaGreatDoor
open Go.ChangeShapes Go.WideShapes Go.ChangeAt Go.RowKit

theorem cellsFlt : Tryz.prog.cellsOf 24 = 2 := by kernel_rfl
theorem cellsErrno : Tryz.prog.cellsOf 22 = 1 := by kernel_rfl
theorem cellsInt : Tryz.prog.cellsOf 3 = 1 := by kernel_rfl

/-! ### how much is handed -/
def lenSum (ns : List ByteArray) : Nat := (ns.map fun s => s.data.toList.length + 1).sum
theorem bulkAll_append {H : Type} (l r : List (DataW H)) : Rows.uptoBulkAll (l ++ r) = Rows.uptoBulkAll l + Rows.uptoBulkAll r := by
  induction l with
  | nil => simp [Rows.uptoBulkAll]
  | cons x l ih => simp only [List.cons_append, Rows.uptoBulkAll, ih]; omega
theorem bulkAll_strs {H : Type} (ss : List ByteArray) : Rows.uptoBulkAll (strs (H := H) ss) = lenSum ss := by
  induction ss with
  | nil => rfl
  | cons s r ih =>
    have h : strs (H := H) (s :: r) = .lit (.string s.data.toList) :: strs r := rfl
    rw [h]
    simp only [Rows.uptoBulkAll, Rows.uptoBulk, ih]
    simp [lenSum]
theorem chain_len (c a : Int) (hc : -9223372036854775808 ≤ c ∧ c ≤ 9223372036854775807) (ha : -9223372036854775808 ≤ a ∧ a ≤ 9223372036854775807) (ns : List ByteArray) : (Fm.chainText c a (lns ns)).length ≤ 2 * lenSum ns + 60 := by
  induction ns with
  | nil => rw [chain_nil]; have := fault_len c a hc ha; omega
  | cons n r ih =>
    rw [chain_cons]
    have h : lenSum (n :: r) = n.data.toList.length + 1 + lenSum r := by simp [lenSum]
    rw [h]
    simp only [List.length_append, List.length_cons, List.length_nil]
    omega
theorem lenSum_le (ns : List ByteArray) : ns.length ≤ lenSum ns := by
  induction ns with
  | nil => simp
  | cons n r ih =>
    have h : lenSum (n :: r) = n.data.toList.length + 1 + lenSum r := by simp [lenSum]
    rw [h, List.length_cons]; omega

/-! ### what is handed -/
theorem int_range {n : Int} (h : (Lit.int .i64 n).wf = true) : -9223372036854775808 ≤ n ∧ n ≤ 9223372036854775807 := by
  have h1 : IntKind.i64.min = -9223372036854775808 := rfl
  have h2 : IntKind.i64.max = 9223372036854775807 := rfl
  simp only [Lit.wf, Bool.and_eq_true, decide_eq_true_eq] at h
  rw [h1, h2] at h
  exact h
set_option maxRecDepth 100000 in
/-- a fault, as it comes in -/
theorem flt_open {H : Type} {enc : TypeId × Value → H} {W : World} {r : Reach} {base b0 : Nat} {held : Bool} {spare : Nat → Bool} {v : Value} {d : DataW H} {p : List MemPlace} (hv : Value.okWide Tryz.prog W r b0 24 v)
    (h : DataW.Trod enc Tryz.prog W base spare held 24 v d p) :
    ∃ c a : Int, v = .agg #[.int .i64 c, .int .i64 a] ∧ (-9223372036854775808 ≤ c ∧ c ≤ 9223372036854775807) ∧ (-9223372036854775808 ≤ a ∧ a ≤ 9223372036854775807) := by
  obtain ⟨v0, v1, y0, y1, n, rfl, _, _, h0, h1⟩ := Joins.open_agg2 Tryz.underlying24 (by kernel_rfl) cellsFlt hv h
  obtain ⟨z0, e0, _, w0⟩ := DataW.trod_int Tryz.underlying22 h0
  obtain ⟨z1, e1, _, w1⟩ := DataW.trod_int Tryz.underlying3 h1
  injection e0 with e0 _
  injection e1 with e1 _
  exact ⟨z0, z1, by rw [e0, e1], int_range w0, int_range w1⟩
/-- stages, as they come in; their letters are part of the bulk -/
theorem strs_in {H : Type} {enc : TypeId × Value → H} {W : World} {base : Nat} {held : Bool} {spare : Nat → Bool} {v : Value} {d : DataW H} {p : List MemPlace}
    (h : DataW.Trod enc Tryz.prog W base spare held 25 v d p) (hs : v.cells.toList = [v]) :
    ∃ ns : List ByteArray, StrsAt W v ns ∧ lenSum ns ≤ Rows.uptoBulk d ∧ ∀ s ∈ ns, s.size ≤ maxLen := by
  obtain ⟨fuel, hf⟩ := h
  rw [hs] at hf
  rcases open_strings Tryz.underlying25 Tryz.underlying9 cellsStr hf with ⟨hc, hx⟩ | ⟨a, len, cap, ss, hc, _, hl, hm, hlen, hx, hcell, hsz⟩
  · injection hc with hc _
    exact ⟨[], by rw [hc]; exact ⟨⟨none, 0, rfl⟩, Nat.zero_le _, fun h => absurd h (Nat.lt_irrefl 0)⟩, by simp [lenSum], fun s hs => by cases hs⟩
  · injection hc with hc _
    injection hx with hd _
    have hlm : len ≤ ss.length := by rw [hlen]; split <;> omega
    have hln : (ss.take len).length = len := by rw [List.length_take]; omega
    refine ⟨ss.take len, ⟨⟨some a, cap, by rw [hc, hln]⟩, by rw [hln]; omega, fun hp => ?_⟩, ?_, fun s hs => hsz s (List.mem_of_mem_take hs)⟩
    · rw [hln] at hp
      obtain ⟨b, off, spot⟩ := a
      have hspot : spot = none := by simpa [Addr.add] using World.cell?_spot (hcell 0 (by omega))
      subst hspot
      refine ⟨b, off, cap, by rw [hc, hln], fun i s hi => ?_⟩
      have hil : i < len := by
        rcases Nat.lt_or_ge i len with h' | h'
        · exact h'
        · rw [List.getElem?_eq_none (by rw [hln]; exact h')] at hi; cases hi
      have h1 := hcell i (by omega)
      rw [Go.WideShapes.add_plain] at h1
      rw [List.getElem?_take_of_lt hil] at hi
      rw [show ss.getD i ByteArray.empty = s by rw [List.getD_eq_getElem?_getD, hi]; rfl] at h1
      exact h1
    · rw [hd]
      simp only [Rows.uptoBulk, bulkAll_strs]
      omega
end Go.Proofs.YthiaeppaaahlgaaGreatDoor
