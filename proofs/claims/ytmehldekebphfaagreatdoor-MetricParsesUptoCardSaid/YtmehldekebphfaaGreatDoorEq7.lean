/-
  Records held against themselves.
-/
import Derived.Test.YtmehldekebphfaaGreatDoorMem7
import Derived.Test.YtmehldekebphfaaGreatDoorFltEq
set_option linter.unusedVariables false
set_option linter.unusedSimpArgs false
namespace Go.Proofs.YtmehldekebphfaaGreatDoor
open Go.RowKit

theorem self_fields (d : Nat) (cs : Array Value) (w : World) : ∀ (fs : List Field), (∀ f ∈ fs, f.name ≠ "_" ∧ ∃ q a, Tryz.prog.underlying f.type = some (.int q) ∧ (part f.type cs f.offset).run Tryz.prog w = .ok (.int q a) w) → (Op.eqFields (d + 1) cs cs fs).run Tryz.prog w = .ok true w
  | [], _ => by simp [Op.eqFields]
  | f :: fs, h => by
    obtain ⟨hn, q, a, hu, hp⟩ := h f (List.mem_cons_self ..)
    have ih := self_fields d cs w fs (fun g hg => h g (List.mem_cons_of_mem _ hg))
    unfold Op.eqFields
    rw [if_pos hn]
    simp only [Sem.run_bind, hp, Result.andThen_ok]
    rw [run_equalIn_int w d f.type q q a a hu]
    simp [ih]
theorem self_eq (T : TypeId) (cs : Array Value) (w : World) (hu : Tryz.prog.underlying T = some (.struct (Tryz.prog.fieldsOf T))) (hs : Tryz.prog.stoodInHeld T = false)
    (hf : ∀ f ∈ (Tryz.prog.fieldsOf T).toList, f.name ≠ "_" ∧ ∃ q a, Tryz.prog.underlying f.type = some (.int q) ∧ (part f.type cs f.offset).run Tryz.prog w = .ok (.int q a) w) :
    (binOp .eql T (.agg cs) (.agg cs)).run Tryz.prog w = .ok (.bool true) w ∧ (binOp .neq T (.agg cs) (.agg cs)).run Tryz.prog w = .ok (.bool false) w := by
  have h : (Op.equalIn 10000 T (.agg cs) (.agg cs)).run Tryz.prog w = .ok true w := by
    rw [run_equalIn_agg w 9999 T _ _ hu hs]
    exact self_fields 9998 cs w _ hf
  refine ⟨?_, ?_⟩
  · rw [run_eql_struct]
    simp [h]
  · rw [run_neq_struct]
    simp [h]
theorem fields_mem {fs : List Field} {l : List (String × TypeId × Nat)} (h : fs.map (fun f => (f.name, f.type, f.offset)) = l) {f : Field} (hf : f ∈ fs) : (f.name, f.type, f.offset) ∈ l := by
  rw [← h]; exact List.mem_map.2 ⟨f, hf, rfl⟩
theorem fCh : (Tryz.prog.fieldsOf 38).toList.map (fun f => (f.name, f.type, f.offset)) = [("Code", 21, 0), ("Width", 2, 1), ("Height", 2, 2), ("Depth", 2, 3)] := by kernel_rfl
theorem fKn : (Tryz.prog.fieldsOf 52).toList.map (fun f => (f.name, f.type, f.offset)) = [("A", 21, 0), ("B", 21, 1), ("Width", 2, 2)] := by kernel_rfl
theorem fLg : (Tryz.prog.fieldsOf 54).toList.map (fun f => (f.name, f.type, f.offset)) = [("A", 21, 0), ("B", 21, 1), ("To", 21, 2)] := by kernel_rfl
theorem fGl : (Tryz.prog.fieldsOf 23).toList.map (fun f => (f.name, f.type, f.offset)) = [("Width", 2, 0), ("Stretch", 2, 1), ("Shrink", 2, 2), ("Order", 3, 3)] := by kernel_rfl
theorem u32 : Tryz.prog.underlying 21 = some (.int .i32) := by kernel_rfl
theorem u64 : Tryz.prog.underlying 2 = some (.int .i64) := by kernel_rfl
theorem uI : Tryz.prog.underlying 3 = some (.int .i64) := by kernel_rfl
/-- a record's cells as a value -/
def chV (c : Mt.Ch) : Value := .agg #[.int .i32 c.code, .int .i64 c.w, .int .i64 c.h, .int .i64 c.d]
theorem same_ch (c : Mt.Ch) (w : World) : (binOp .eql 38 (chV c) (chV c)).run Tryz.prog w = .ok (.bool true) w ∧ (binOp .neq 38 (chV c) (chV c)).run Tryz.prog w = .ok (.bool false) w := by
  refine self_eq _ _ w (by kernel_rfl) (by kernel_rfl) fun f hf => ?_
  have h := fields_mem fCh hf
  simp only [List.mem_cons, Prod.mk.injEq, List.not_mem_nil, or_false] at h
  rcases h with ⟨h1, h2, h3⟩ | ⟨h1, h2, h3⟩ | ⟨h1, h2, h3⟩ | ⟨h1, h2, h3⟩ <;> rw [h1, h2, h3]
  · exact ⟨by decide, _, c.code, u32, by kernel_rfl⟩
  · exact ⟨by decide, _, c.w, u64, by kernel_rfl⟩
  · exact ⟨by decide, _, c.h, u64, by kernel_rfl⟩
  · exact ⟨by decide, _, c.d, u64, by kernel_rfl⟩
theorem same_kn (k : Mt.Kn) (w : World) : (binOp .eql 52 (.agg #[.int .i32 k.a, .int .i32 k.b, .int .i64 k.w]) (.agg #[.int .i32 k.a, .int .i32 k.b, .int .i64 k.w])).run Tryz.prog w = .ok (.bool true) w ∧ (binOp .neq 52 (.agg #[.int .i32 k.a, .int .i32 k.b, .int .i64 k.w]) (.agg #[.int .i32 k.a, .int .i32 k.b, .int .i64 k.w])).run Tryz.prog w = .ok (.bool false) w := by
  refine self_eq _ _ w (by kernel_rfl) (by kernel_rfl) fun f hf => ?_
  have h := fields_mem fKn hf
  simp only [List.mem_cons, Prod.mk.injEq, List.not_mem_nil, or_false] at h
  rcases h with ⟨h1, h2, h3⟩ | ⟨h1, h2, h3⟩ | ⟨h1, h2, h3⟩ <;> rw [h1, h2, h3]
  · exact ⟨by decide, _, k.a, u32, by kernel_rfl⟩
  · exact ⟨by decide, _, k.b, u32, by kernel_rfl⟩
  · exact ⟨by decide, _, k.w, u64, by kernel_rfl⟩
theorem same_lg (l : Mt.Lg) (w : World) : (binOp .eql 54 (.agg #[.int .i32 l.a, .int .i32 l.b, .int .i32 l.to]) (.agg #[.int .i32 l.a, .int .i32 l.b, .int .i32 l.to])).run Tryz.prog w = .ok (.bool true) w ∧ (binOp .neq 54 (.agg #[.int .i32 l.a, .int .i32 l.b, .int .i32 l.to]) (.agg #[.int .i32 l.a, .int .i32 l.b, .int .i32 l.to])).run Tryz.prog w = .ok (.bool false) w := by
  refine self_eq _ _ w (by kernel_rfl) (by kernel_rfl) fun f hf => ?_
  have h := fields_mem fLg hf
  simp only [List.mem_cons, Prod.mk.injEq, List.not_mem_nil, or_false] at h
  rcases h with ⟨h1, h2, h3⟩ | ⟨h1, h2, h3⟩ | ⟨h1, h2, h3⟩ <;> rw [h1, h2, h3]
  · exact ⟨by decide, _, l.a, u32, by kernel_rfl⟩
  · exact ⟨by decide, _, l.b, u32, by kernel_rfl⟩
  · exact ⟨by decide, _, l.to, u32, by kernel_rfl⟩
theorem same_gl (a b c o : Int) (w : World) : (binOp .eql 23 (.agg #[.int .i64 a, .int .i64 b, .int .i64 c, .int .i64 o]) (.agg #[.int .i64 a, .int .i64 b, .int .i64 c, .int .i64 o])).run Tryz.prog w = .ok (.bool true) w ∧ (binOp .neq 23 (.agg #[.int .i64 a, .int .i64 b, .int .i64 c, .int .i64 o]) (.agg #[.int .i64 a, .int .i64 b, .int .i64 c, .int .i64 o])).run Tryz.prog w = .ok (.bool false) w := by
  refine self_eq _ _ w (by kernel_rfl) (by kernel_rfl) fun f hf => ?_
  have h := fields_mem fGl hf
  simp only [List.mem_cons, Prod.mk.injEq, List.not_mem_nil, or_false] at h
  rcases h with ⟨h1, h2, h3⟩ | ⟨h1, h2, h3⟩ | ⟨h1, h2, h3⟩ | ⟨h1, h2, h3⟩ <;> rw [h1, h2, h3]
  · exact ⟨by decide, _, a, u64, by kernel_rfl⟩
  · exact ⟨by decide, _, b, u64, by kernel_rfl⟩
  · exact ⟨by decide, _, c, u64, by kernel_rfl⟩
  · exact ⟨by decide, _, o, uI, by kernel_rfl⟩
end Go.Proofs.YtmehldekebphfaaGreatDoor
