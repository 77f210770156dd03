/-
  Faults held against one another.
-/
import Derived.Test.YtmehldekebphfaaGreatDoorBase
import Derived.LaidEql
set_option linter.unusedVariables false
set_option linter.unusedSimpArgs false
namespace Go.Proofs.YtmehldekebphfaaGreatDoor
open Go.RowKit Go.Extern.Stop Go.Stop Go.Extern

theorem f24 : (Tryz.prog.fieldsOf 31).toList.map (fun f => (f.name, f.type, f.offset)) = [("Code", 29, 0), ("At", 3, 1)] := by kernel_rfl
theorem u24 : Tryz.prog.underlying 31 = some (.struct (Tryz.prog.fieldsOf 31)) := by kernel_rfl
theorem s24 : Tryz.prog.stoodInHeld 31 = false := by kernel_rfl
theorem p22 (c a : Int) (w : World) : (part 29 #[.int .i64 c, .int .i64 a] 0).run Tryz.prog w = .ok (.int .i64 c) w := by kernel_rfl
theorem p3 (c a : Int) (w : World) : (part 3 #[.int .i64 c, .int .i64 a] 1).run Tryz.prog w = .ok (.int .i64 a) w := by kernel_rfl
theorem eqFields_names (d : Nat) (xs ys : Array Value) (fs : List Field) (n : String) (t : TypeId) (o : Nat) (r : List (String × TypeId × Nat)) (h : fs.map (fun f => (f.name, f.type, f.offset)) = (n, t, o) :: r) (hn : n ≠ "_") :
    ∃ fs', fs'.map (fun f : Field => (f.name, f.type, f.offset)) = r ∧ Op.eqFields d xs ys fs = (do let a ← part t xs o; let b ← part t ys o; let q ← Op.equalIn d t a b; if (!q) = true then pure false else Op.eqFields d xs ys fs') := by
  cases fs with
  | nil => cases h
  | cons f fs' =>
    simp only [List.map_cons, List.cons.injEq, Prod.mk.injEq] at h
    obtain ⟨⟨rfl, rfl, rfl⟩, h2⟩ := h
    refine ⟨fs', h2, ?_⟩
    conv => lhs; unfold Op.eqFields
    rw [if_pos hn]
theorem eqin24 (d : Nat) (c a code z : Int) (w : World) : (Op.equalIn (d + 2) 31 (.agg #[.int .i64 c, .int .i64 a]) (.agg #[.int .i64 code, .int .i64 z])).run Tryz.prog w = .ok ((c == code) && (a == z)) w := by
  rw [run_equalIn_agg w (d + 1) 31 _ _ u24 s24]
  obtain ⟨f1, h1, e1⟩ := eqFields_names (d + 1) #[.int .i64 c, .int .i64 a] #[.int .i64 code, .int .i64 z] _ _ _ _ _ f24 (by decide)
  obtain ⟨f2, h2, e2⟩ := eqFields_names (d + 1) #[.int .i64 c, .int .i64 a] #[.int .i64 code, .int .i64 z] _ _ _ _ _ h1 (by decide)
  obtain rfl : f2 = [] := by simpa using h2
  rw [e1]
  simp only [Sem.run_bind, p22, Result.andThen_ok]
  rw [run_equalIn_int w d 29 .i64 .i64 c code Tryz.underlying29]
  cases c == code <;> simp [e2, Op.eqFields, p3, run_equalIn_int w d 3 .i64 .i64 a z Tryz.underlying3]
  by_cases h : a = z <;> simp [h]
theorem eqFlt (c a code z : Int) (w : World) : (binOp .eql 31 (.agg #[.int .i64 c, .int .i64 a]) (.agg #[.int .i64 code, .int .i64 z])).run Tryz.prog w = .ok (.bool ((c == code) && (a == z))) w := by
  rw [run_eql_struct, eqin24 9998]
  rfl
theorem mixedW : Tryz.prog.follows .mixedOrders = true := by kernel_rfl
end Go.Proofs.YtmehldekebphfaaGreatDoor
