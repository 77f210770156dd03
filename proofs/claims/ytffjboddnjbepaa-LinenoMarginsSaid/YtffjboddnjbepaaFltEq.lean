/-
  Faults held against one another.
-/
import Derived.Test.YtffjboddnjbepaaBase
import Derived.LaidEql
set_option linter.unusedVariables false
set_option linter.unusedSimpArgs false
namespace Go.Proofs.Ytffjboddnjbepaa
open Go.RowKit Go.Extern.Stop Go.Stop Go.Extern

theorem p3 (c a : Int) (w : World) : (part 3 #[.int .i64 c, .int .i64 a] 1).run Try.prog w = .ok (.int .i64 a) w := by kernel_rfl
theorem eqFields_names (d : Nat) (xs ys : Array Value) (fs : List Field) (n : String) (t : TypeId) (o : Nat) (r : List (String × TypeId × Nat)) (h : fs.map (fun f => (f.name, f.type, f.offset)) = (n, t, o) :: r) (hn : n ≠ "_") :
    ∃ fs', fs'.map (fun f : Field => (f.name, f.type, f.offset)) = r ∧ Op.eqFields d xs ys fs = (do let a ← part t xs o; let b ← part t ys o; let q ← Op.equalIn d t a b; if (!q) = true then pure false else Op.eqFields d xs ys fs') := by
  cases fs with
  | nil => cases h
  | cons f fs' =>
    simp only [List.map_cons, List.cons.injEq, Prod.mk.injEq] at h
    obtain ⟨⟨rfl, rfl, rfl⟩, h2⟩ := h
    refine ⟨fs', h2, ?_⟩
    conv => lhs; unfold Op.eqFields
    rw [if_pos hn]
theorem mixedW : Try.prog.follows .mixedOrders = true := by kernel_rfl
end Go.Proofs.Ytffjboddnjbepaa
