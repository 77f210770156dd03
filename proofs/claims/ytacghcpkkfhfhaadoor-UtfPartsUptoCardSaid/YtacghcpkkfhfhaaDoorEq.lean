/-
  Faults: how they are held against one another, how they lie in memory.
-/
import Derived.Test.YtacghcpkkfhfhaaDoorCallDecode
import Derived.LaidEql
set_option linter.unusedVariables false
set_option linter.unusedSimpArgs false
namespace Go.Proofs.YtacghcpkkfhfhaaDoor
open Go.RowKit Go.Extern.Stop Go.Stop Go.Extern

theorem f24 : (Tryd.prog.fieldsOf 25).toList.map (fun f => (f.name, f.type, f.offset)) = [("Code", 23, 0), ("At", 3, 1)] := by kernel_rfl
theorem u24 : Tryd.prog.underlying 25 = some (.struct (Tryd.prog.fieldsOf 25)) := by kernel_rfl
theorem s24 : Tryd.prog.stoodInHeld 25 = false := by kernel_rfl
theorem p22 (c a : Int) (w : World) : (part 23 #[.int .i64 c, .int .i64 a] 0).run Tryd.prog w = .ok (.int .i64 c) w := by kernel_rfl
theorem p3 (c a : Int) (w : World) : (part 3 #[.int .i64 c, .int .i64 a] 1).run Tryd.prog w = .ok (.int .i64 a) w := by kernel_rfl
theorem eqFields_names (d : Nat) (xs ys : Array Value) (fs : List Field) (n : String) (t : TypeId) (o : Nat) (r : List (String × TypeId × Nat)) (h : fs.map (fun f => (f.name, f.type, f.offset)) = (n, t, o) :: r) (hn : n ≠ "_") :
    ∃ fs', fs'.map (fun f : Field => (f.name, f.type, f.offset)) = r ∧ Op.eqFields d xs ys fs = (do let a ← part t xs o; let b ← part t ys o; let q ← Op.equalIn d t a b; if (!q) = true then pure false else Op.eqFields d xs ys fs') := by
  cases fs with
  | nil => cases h
  | cons f fs' =>
    simp only [List.map_cons, List.cons.injEq, Prod.mk.injEq] at h
    obtain ⟨⟨rfl, rfl, rfl⟩, h2⟩ := h
    refine ⟨fs', h2, ?_⟩
    conv => lhs; unfold Op.eqFields
    rw [if_pos hn]
theorem eqin24 (d : Nat) (c a code z : Int) (w : World) : (Op.equalIn (d + 2) 25 (.agg #[.int .i64 c, .int .i64 a]) (.agg #[.int .i64 code, .int .i64 z])).run Tryd.prog w = .ok ((c == code) && (a == z)) w := by
  rw [run_equalIn_agg w (d + 1) 25 _ _ u24 s24]
  obtain ⟨f1, h1, e1⟩ := eqFields_names (d + 1) #[.int .i64 c, .int .i64 a] #[.int .i64 code, .int .i64 z] _ _ _ _ _ f24 (by decide)
  obtain ⟨f2, h2, e2⟩ := eqFields_names (d + 1) #[.int .i64 c, .int .i64 a] #[.int .i64 code, .int .i64 z] _ _ _ _ _ h1 (by decide)
  obtain rfl : f2 = [] := by simpa using h2
  rw [e1]
  simp only [Sem.run_bind, p22, Result.andThen_ok]
  rw [run_equalIn_int w d 23 .i64 .i64 c code Tryd.underlying23]
  cases c == code <;> simp [e2, Op.eqFields, p3, run_equalIn_int w d 3 .i64 .i64 a z Tryd.underlying3]
  by_cases h : a = z <;> simp [h]
theorem eqFlt (c a code z : Int) (w : World) : (binOp .eql 25 (.agg #[.int .i64 c, .int .i64 a]) (.agg #[.int .i64 code, .int .i64 z])).run Tryd.prog w = .ok (.bool ((c == code) && (a == z))) w := by
  rw [run_eql_struct, eqin24 9998]
  rfl
theorem mixedW : Tryd.prog.follows .mixedOrders = true := by kernel_rfl
theorem dec_post {l l' : List UInt8} {w : World} {e : Ending} {w' : World} {xs : List Int} {c a : Int} (h : DecPost l w e w') (h1 : decL l = xs) (h2 : decC l = c) (h3 : decA l = a) :
    ∃ v, e = .returned (.tuple #[v, .agg #[.int .i64 c, .int .i64 a]]) ∧ OwnI .i32 21 w.heap.size v xs w' ∧ Below w.heap.size w w' := by
  obtain ⟨v, he, hv, hb⟩ := h
  exact ⟨v, by rw [he, h2, h3]; rfl, by rw [← h1]; exact hv, hb⟩
/-- what Decode answers, its parts by name -/
def DecIs (xs : List Int) (c a : Int) (w : World) (e : Ending) (w' : World) : Prop :=
  ∃ v, e = .returned (.tuple #[v, .agg #[.int .i64 c, .int .i64 a]]) ∧ OwnI .i32 21 w.heap.size v xs w' ∧ Below w.heap.size w w'
theorem decode_is (s : ByteArray) (hs : s.size * 8 ≤ 140737488355328) (xs : List Int) (c a : Int) (h1 : decL s.data.toList = xs) (h2 : decC s.data.toList = c) (h3 : decA s.data.toList = a) (w : World) (hT : Tabs w) :
    Calls Tryd.prog 8 #[.string s] w (DecIs xs c a w) := (decode_any s hs w hT).mono fun _ _ h => dec_post (l' := []) h h1 h2 h3
theorem ints_one (w : World) (c : Int) : IntsAt .i32 (w.alloc (.cells #[.int .i32 c] 21)) (.slice (some ⟨w.heap.size, 0, none⟩) 1 1) [c] := by
  refine ⟨⟨_, _, rfl, Nat.le_refl _⟩, by unfold maxLen; simp, fun _ => ⟨_, 0, 1, rfl, fun i x hx => ?_⟩⟩
  match i, hx with
  | 0, hx => simp at hx; subst hx; simp
theorem runes_same (v1 v2 : Value) (xs : List Int) (w : World) (h1 : IntsAt .i32 w v1 xs) (h2 : IntsAt .i32 w v2 xs) : Calls Tryd.prog 13 #[v1, v2] w (Ret (.bool true) w) := by
  have h := runes_any v1 v2 xs xs w h1 h2
  rw [decide_eq_true rfl] at h
  exact h
theorem ints_same (v1 v2 : Value) (xs : List Int) (w : World) (h1 : IntsAt .i64 w v1 xs) (h2 : IntsAt .i64 w v2 xs) : Calls Tryd.prog 14 #[v1, v2] w (Ret (.bool true) w) := by
  have h := ints_any v1 v2 xs xs w h1 h2
  rw [decide_eq_true rfl] at h
  exact h
theorem starts_yes (s : ByteArray) (hs : s.size * 8 ≤ 140737488355328) (hc : Ut.clean s.data.toList = true) (w : World) (hT : Tabs w) : Calls Tryd.prog 10 #[.string s] w (fun e w' => ∃ v, e = .returned (.tuple #[v, .bool true]) ∧ OwnI .i64 3 w.heap.size v (asInts (Ut.places 0 (Ut.dec s.data.toList).1)) w' ∧ Below w.heap.size w w') := by
  have h := starts_any s hs w hT
  unfold StPost stL at h
  rw [hc] at h
  exact h
theorem starts_no (s : ByteArray) (hs : s.size * 8 ≤ 140737488355328) (hc : Ut.clean s.data.toList = false) (w : World) (hT : Tabs w) : Calls Tryd.prog 10 #[.string s] w (fun e w' => ∃ v, e = .returned (.tuple #[v, .bool false]) ∧ OwnI .i64 3 w.heap.size v [] w' ∧ Below w.heap.size w w') := by
  have h := starts_any s hs w hT
  unfold StPost stL at h
  rw [hc] at h
  exact h
end Go.Proofs.YtacghcpkkfhfhaaDoor
