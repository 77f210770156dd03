/-
  What is asked of the program's package metric: the contracts of its six calls, as one statement (proved of the landed code elsewhere).
-/
import Derived.Test.YtmehldekebphfaaGreatDoorEq7
set_option linter.unusedVariables false
set_option linter.unusedSimpArgs false
namespace Go.Proofs.YtmehldekebphfaaGreatDoor
open Go.RowKit

structure Small (m : Mt.Tab) : Prop where
  chars : m.chars.length ≤ 1073741824
  kerns : m.kerns.length ≤ 1073741824
  ligs : m.ligs.length ≤ 1073741824
def fltV (c a : Int) : Value := .agg #[.int .i64 c, .int .i64 a]
/-- what Parse answers -/
def ParsePost (l : List UInt8) (w : World) (e : Ending) (w' : World) : Prop := match Mt.parse l with
  | .inl m => ∃ v, e = .returned (.tuple #[v, .agg #[.int .i64 0, .int .i64 0]]) ∧ MetAt w' v m ∧ Below w.heap.size w w'
  | .inr x => e = .returned (.tuple #[zeroM, .agg #[.int .i64 x.1, .int .i64 x.2]]) ∧ Below w.heap.size w w'
def findV : Option Mt.Ch → Value
  | some c => .tuple #[.agg #[.int .i32 c.code, .int .i64 c.w, .int .i64 c.h, .int .i64 c.d], .bool true]
  | none => .tuple #[.agg #[.int .i32 0, .int .i64 0, .int .i64 0, .int .i64 0], .bool false]
def ligV : Option Int → Value
  | some c => .tuple #[.int .i32 c, .bool true]
  | none => .tuple #[.int .i32 0, .bool false]
structure MetC : Prop where
  check : ∀ (v : Value) (m : Mt.Tab) (w : World), TabIn m → Small m → MetAt w v m → Calls Tryz.prog 16 #[v] w (Ret (.int .i64 (if Mt.may m then 0 else 71)) w)
  print : ∀ (v : Value) (m : Mt.Tab) (w : World), TabIn m → Small m → MetAt w v m → Calls Tryz.prog 18 #[v] w (Ret (.string (str (Mt.print m))) w)
  parse : ∀ (s : ByteArray) (w : World), s.size ≤ 1073741824 → Calls Tryz.prog 8 #[.string s] w (ParsePost s.data.toList w)
  find : ∀ (v : Value) (m : Mt.Tab) (c : Int) (w : World), MetAt w v m → Small m → Calls Tryz.prog 12 #[v, .int .i32 c] w (Ret (findV (Mt.find m c)) w)
  kern : ∀ (v : Value) (m : Mt.Tab) (a b : Int) (w : World), MetAt w v m → Small m → Calls Tryz.prog 20 #[v, .int .i32 a, .int .i32 b] w (Ret (.int .i64 (Mt.kern m a b)) w)
  lig : ∀ (v : Value) (m : Mt.Tab) (a b : Int) (w : World), MetAt w v m → Small m → Calls Tryz.prog 14 #[v, .int .i32 a, .int .i32 b] w (Ret (ligV (Mt.lig m a b)) w)

theorem parse_inl {l : List UInt8} {m : Mt.Tab} (h : Mt.parse l = .inl m) {w : World} {e : Ending} {w' : World} (k : ParsePost l w e w') : ∃ v, e = .returned (.tuple #[v, .agg #[.int .i64 0, .int .i64 0]]) ∧ MetAt w' v m ∧ Below w.heap.size w w' := by
  unfold ParsePost at k; rw [h] at k; exact k
theorem parse_inr {l : List UInt8} {x : Int × Int} (h : Mt.parse l = .inr x) {w : World} {e : Ending} {w' : World} (k : ParsePost l w e w') : e = .returned (.tuple #[zeroM, .agg #[.int .i64 x.1, .int .i64 x.2]]) ∧ Below w.heap.size w w' := by
  unfold ParsePost at k; rw [h] at k; exact k

/-! ### what may be, fits -/
theorem in64_fits {n : Int} (h : Sc.fits n = true) : In64 n := by
  have := Sc.fits_yes h
  unfold In64
  omega
theorem in32_letter {n : Int} (h : Ut.letter n = true) : In32 n := by
  have := Ut.letter_pos h
  unfold In32
  omega
theorem tabIn_may {m : Mt.Tab} (h : Mt.may m = true) : TabIn m := by
  obtain ⟨⟨_, _, _, h0⟩, ⟨h1, h2, h3, h4⟩, ⟨h5, _⟩, ⟨h6, _⟩, ⟨h7, _⟩⟩ := Mt.may_parts h
  have hc : ∀ {c : Int}, Mt.has m c = true → In32 c := fun {c} hc => by
    obtain ⟨x, hx, rfl⟩ := Mt.has_mem hc
    have := h5 x hx
    unfold Mt.chOk at this
    simp only [Bool.and_eq_true] at this
    exact in32_letter this.1.1.1
  refine ⟨in64_fits (Mt.amount_fits h1), in64_fits (Mt.amount_fits h2), in64_fits (Mt.amount_fits h3), by rw [h0]; unfold In64; omega, hc h4, fun c hx => ?_, fun k hx => ?_, fun l hx => ?_⟩
  · have := h5 c hx
    unfold Mt.chOk at this
    simp only [Bool.and_eq_true] at this
    exact ⟨in32_letter this.1.1.1, in64_fits (Mt.amount_fits this.1.1.2), in64_fits (Mt.amount_fits this.1.2), in64_fits (Mt.amount_fits this.2)⟩
  · have := h6 k hx
    unfold Mt.knOk at this
    simp only [Bool.and_eq_true] at this
    exact ⟨hc this.1.1, hc this.1.2, in64_fits this.2⟩
  · have := h7 l hx
    unfold Mt.lgOk at this
    simp only [Bool.and_eq_true] at this
    exact ⟨hc this.1.1, hc this.1.2, hc this.2⟩
theorem small_may {m : Mt.Tab} (h : Mt.may m = true) : Small m := by
  obtain ⟨⟨h1, h2, h3, _⟩, _⟩ := Mt.may_parts h
  exact ⟨by omega, by omega, by omega⟩
theorem may_of_parse {l : List UInt8} {m : Mt.Tab} (h : Mt.parse l = .inl m) : Mt.may m = true := (Mt.print_parse h).1
end Go.Proofs.YtmehldekebphfaaGreatDoor
