/-
  Glue and items held against one another.
-/
import Derived.Test.YthcilpijiindeaaMem9
import Derived.Test.YthcilpijiindeaaFltEq
set_option linter.unusedVariables false
set_option linter.unusedSimpArgs false
namespace Go.Proofs.Ythcilpijiindeaa
open Go.RowKit

theorem eq_step (d : Nat) (xs ys : Array Value) (fs : List Field) (n : String) (t : TypeId) (o : Nat) (r : List (String × TypeId × Nat)) (h : fs.map (fun f => (f.name, f.type, f.offset)) = (n, t, o) :: r) (hn : n ≠ "_") (w : World) (a b : Value) (q : Bool)
    (ha : (part t xs o).run Try.prog w = .ok a w) (hb : (part t ys o).run Try.prog w = .ok b w) (hq : (Op.equalIn d t a b).run Try.prog w = .ok q w) :
    ∃ fs', fs'.map (fun f : Field => (f.name, f.type, f.offset)) = r ∧ (Op.eqFields d xs ys fs).run Try.prog w = if q = true then (Op.eqFields d xs ys fs').run Try.prog w else .ok false w := by
  obtain ⟨fs', h1, e1⟩ := eqFields_names d xs ys fs n t o r h hn
  refine ⟨fs', h1, ?_⟩
  rw [e1]
  simp only [Sem.run_bind, ha, hb, hq, Result.andThen_ok]
  cases q <;> simp
theorem eq_done (d : Nat) (xs ys : Array Value) (fs : List Field) (h : fs.map (fun f : Field => (f.name, f.type, f.offset)) = []) (w : World) : (Op.eqFields d xs ys fs).run Try.prog w = .ok true w := by
  obtain rfl : fs = [] := by simpa using h
  simp [Op.eqFields]
theorem fGl9 : (Try.prog.fieldsOf 38).toList.map (fun f => (f.name, f.type, f.offset)) = [("Width", 2, 0), ("Stretch", 2, 1), ("Shrink", 2, 2), ("Order", 3, 3)] := by kernel_rfl
theorem uGl9 : Try.prog.underlying 38 = some (.struct (Try.prog.fieldsOf 38)) := by kernel_rfl
theorem hGl9 : Try.prog.stoodInHeld 38 = false := by kernel_rfl
theorem fIt9 : (Try.prog.fieldsOf 40).toList.map (fun f => (f.name, f.type, f.offset)) = [("Kind", 3, 0), ("Glue", 38, 1), ("Penalty", 3, 5), ("Flag", 4, 6), ("Word", 3, 7), ("Part", 3, 8)] := by kernel_rfl
theorem uIt9 : Try.prog.underlying 40 = some (.struct (Try.prog.fieldsOf 40)) := by kernel_rfl
theorem hIt9 : Try.prog.stoodInHeld 40 = false := by kernel_rfl
theorem gl_ext {g h : It.Gl} : (g = h) ↔ (g.w = h.w ∧ g.st = h.st ∧ g.sk = h.sk ∧ g.o = h.o) := by
  obtain ⟨a, b, c, d⟩ := g
  obtain ⟨e, f, i, j⟩ := h
  simp
theorem it_ext {g h : It.Itm} : (g = h) ↔ (g.k = h.k ∧ g.g = h.g ∧ g.p = h.p ∧ g.f = h.f ∧ g.n = h.n ∧ g.q = h.q) := by
  obtain ⟨a, b, c, d, e, f⟩ := g
  obtain ⟨a', b', c', d', e', f'⟩ := h
  simp

theorem eqin_gl (d : Nat) (g h : It.Gl) (w : World) : (Op.equalIn (d + 3) 38 (glV g) (glV h)).run Try.prog w = .ok (decide (g = h)) w := by
  obtain ⟨a, b, c, e⟩ := g
  obtain ⟨a', b', c', e'⟩ := h
  unfold glV
  simp only []
  rw [run_equalIn_agg w (d + 2) 38 _ _ uGl9 hGl9]
  obtain ⟨f1, h1, e1⟩ := eq_step (d + 2) #[.int .i64 a, .int .i64 b, .int .i64 c, .int .i64 e] #[.int .i64 a', .int .i64 b', .int .i64 c', .int .i64 e'] _ _ _ _ _ fGl9 (by decide) w (.int .i64 a) (.int .i64 a') (a == a') (by kernel_rfl) (by kernel_rfl) (run_equalIn_int w (d + 1) _ .i64 .i64 a a' Try.underlying2)
  obtain ⟨f2, h2, e2⟩ := eq_step (d + 2) #[.int .i64 a, .int .i64 b, .int .i64 c, .int .i64 e] #[.int .i64 a', .int .i64 b', .int .i64 c', .int .i64 e'] _ _ _ _ _ h1 (by decide) w (.int .i64 b) (.int .i64 b') (b == b') (by kernel_rfl) (by kernel_rfl) (run_equalIn_int w (d + 1) _ .i64 .i64 b b' Try.underlying2)
  obtain ⟨f3, h3, e3⟩ := eq_step (d + 2) #[.int .i64 a, .int .i64 b, .int .i64 c, .int .i64 e] #[.int .i64 a', .int .i64 b', .int .i64 c', .int .i64 e'] _ _ _ _ _ h2 (by decide) w (.int .i64 c) (.int .i64 c') (c == c') (by kernel_rfl) (by kernel_rfl) (run_equalIn_int w (d + 1) _ .i64 .i64 c c' Try.underlying2)
  obtain ⟨f4, h4, e4⟩ := eq_step (d + 2) #[.int .i64 a, .int .i64 b, .int .i64 c, .int .i64 e] #[.int .i64 a', .int .i64 b', .int .i64 c', .int .i64 e'] _ _ _ _ _ h3 (by decide) w (.int .i64 e) (.int .i64 e') (e == e') (by kernel_rfl) (by kernel_rfl) (run_equalIn_int w (d + 1) _ .i64 .i64 e e' Try.underlying3)
  rw [e1, e2, e3, e4, eq_done _ _ _ _ h4]
  by_cases q1 : a = a'
  · by_cases q2 : b = b'
    · by_cases q3 : c = c'
      · by_cases q4 : e = e' <;> simp [q1, q2, q3, q4]
      · simp [q1, q2, q3]
    · simp [q1, q2]
  · simp [q1]
theorem eq_gl (g h : It.Gl) (w : World) : (binOp .eql 38 (glV g) (glV h)).run Try.prog w = .ok (.bool (decide (g = h))) w := by
  have e := eqin_gl 9997 g h w
  unfold glV at e ⊢
  rw [run_eql_struct, e]
  rfl
theorem eqin_it (d : Nat) (g h : It.Itm) (w : World) : (Op.equalIn (d + 5) 40 (itV g) (itV h)).run Try.prog w = .ok (decide (g = h)) w := by
  obtain ⟨k, ⟨a, b, c, e⟩, p, f, n, q⟩ := g
  obtain ⟨k', ⟨a', b', c', e'⟩, p', f', n', q'⟩ := h
  unfold itV
  simp only []
  rw [run_equalIn_agg w (d + 4) 40 _ _ uIt9 hIt9]
  obtain ⟨f1, h1, e1⟩ := eq_step (d + 4) #[.int .i64 k, .int .i64 a, .int .i64 b, .int .i64 c, .int .i64 e, .int .i64 p, .bool f, .int .i64 n, .int .i64 q] #[.int .i64 k', .int .i64 a', .int .i64 b', .int .i64 c', .int .i64 e', .int .i64 p', .bool f', .int .i64 n', .int .i64 q'] _ _ _ _ _ fIt9 (by decide) w (.int .i64 k) (.int .i64 k') (k == k') (by kernel_rfl) (by kernel_rfl) (run_equalIn_int w (d + 3) _ .i64 .i64 k k' Try.underlying3)
  obtain ⟨f2, h2, e2⟩ := eq_step (d + 4) #[.int .i64 k, .int .i64 a, .int .i64 b, .int .i64 c, .int .i64 e, .int .i64 p, .bool f, .int .i64 n, .int .i64 q] #[.int .i64 k', .int .i64 a', .int .i64 b', .int .i64 c', .int .i64 e', .int .i64 p', .bool f', .int .i64 n', .int .i64 q'] _ _ _ _ _ h1 (by decide) w (glV ⟨a, b, c, e⟩) (glV ⟨a', b', c', e'⟩) (decide ((⟨a, b, c, e⟩ : It.Gl) = ⟨a', b', c', e'⟩)) (by kernel_rfl) (by kernel_rfl) (eqin_gl (d + 1) ⟨a, b, c, e⟩ ⟨a', b', c', e'⟩ w)
  obtain ⟨f3, h3, e3⟩ := eq_step (d + 4) #[.int .i64 k, .int .i64 a, .int .i64 b, .int .i64 c, .int .i64 e, .int .i64 p, .bool f, .int .i64 n, .int .i64 q] #[.int .i64 k', .int .i64 a', .int .i64 b', .int .i64 c', .int .i64 e', .int .i64 p', .bool f', .int .i64 n', .int .i64 q'] _ _ _ _ _ h2 (by decide) w (.int .i64 p) (.int .i64 p') (p == p') (by kernel_rfl) (by kernel_rfl) (run_equalIn_int w (d + 3) _ .i64 .i64 p p' Try.underlying3)
  obtain ⟨f4, h4, e4⟩ := eq_step (d + 4) #[.int .i64 k, .int .i64 a, .int .i64 b, .int .i64 c, .int .i64 e, .int .i64 p, .bool f, .int .i64 n, .int .i64 q] #[.int .i64 k', .int .i64 a', .int .i64 b', .int .i64 c', .int .i64 e', .int .i64 p', .bool f', .int .i64 n', .int .i64 q'] _ _ _ _ _ h3 (by decide) w (.bool f) (.bool f') (f == f') (by kernel_rfl) (by kernel_rfl) (run_equalIn_bool w (d + 3) _ f f' Try.underlying4)
  obtain ⟨f5, h5, e5⟩ := eq_step (d + 4) #[.int .i64 k, .int .i64 a, .int .i64 b, .int .i64 c, .int .i64 e, .int .i64 p, .bool f, .int .i64 n, .int .i64 q] #[.int .i64 k', .int .i64 a', .int .i64 b', .int .i64 c', .int .i64 e', .int .i64 p', .bool f', .int .i64 n', .int .i64 q'] _ _ _ _ _ h4 (by decide) w (.int .i64 n) (.int .i64 n') (n == n') (by kernel_rfl) (by kernel_rfl) (run_equalIn_int w (d + 3) _ .i64 .i64 n n' Try.underlying3)
  obtain ⟨f6, h6, e6⟩ := eq_step (d + 4) #[.int .i64 k, .int .i64 a, .int .i64 b, .int .i64 c, .int .i64 e, .int .i64 p, .bool f, .int .i64 n, .int .i64 q] #[.int .i64 k', .int .i64 a', .int .i64 b', .int .i64 c', .int .i64 e', .int .i64 p', .bool f', .int .i64 n', .int .i64 q'] _ _ _ _ _ h5 (by decide) w (.int .i64 q) (.int .i64 q') (q == q') (by kernel_rfl) (by kernel_rfl) (run_equalIn_int w (d + 3) _ .i64 .i64 q q' Try.underlying3)
  rw [e1, e2, e3, e4, e5, e6, eq_done _ _ _ _ h6]
  by_cases q1 : k = k'
  · by_cases q2 : (⟨a, b, c, e⟩ : It.Gl) = ⟨a', b', c', e'⟩
    · by_cases q3 : p = p'
      · by_cases q4 : f = f'
        · by_cases q5 : n = n'
          · by_cases q6 : q = q' <;> simp [q1, q2, q3, q4, q5, q6]
          · simp [q1, q2, q3, q4, q5]
        · simp [q1, q2, q3, q4]
      · simp [q1, q2, q3]
    · simp [q1, q2]
  · simp [q1]
theorem eq_it (g h : It.Itm) (w : World) : (binOp .eql 40 (itV g) (itV h)).run Try.prog w = .ok (.bool (decide (g = h))) w ∧ (binOp .neq 40 (itV g) (itV h)).run Try.prog w = .ok (.bool (!decide (g = h))) w := by
  have e := eqin_it 9995 g h w
  unfold itV at e ⊢
  rw [run_eql_struct, run_neq_struct, e]
  exact ⟨rfl, rfl⟩

/-! ### small tests -/
set_option maxHeartbeats 1000000 in
set_option maxRecDepth 100000 in
theorem isPlain_any (g : It.Gl) (w : World) : Calls Try.prog 42 #[glV g] w (Ret (.bool (It.plainG g)) w) := by
  rw [It.plain_eq]
  have he := fun w => eq_gl g ⟨g.w, 0, 0, 0⟩ w
  obtain ⟨a, b, c, e⟩ := g
  unfold glV at he ⊢
  simp only [] at he ⊢
  generalize decide ((⟨a, b, c, e⟩ : It.Gl) = ⟨a, 0, 0, 0⟩) = r at he ⊢
  go_enter Try.func42, Try.ntmps42
  go_wp2
  go_ret
  exact ⟨rfl, below_alloc _ _⟩
set_option maxHeartbeats 1000000 in
set_option maxRecDepth 100000 in
theorem isWidth_any (n : Int) (b : Bool) (h : It.amt n = b) (w : World) : Calls Try.prog 43 #[.int .i64 n] w (Is (.bool b) w) := by
  subst h
  unfold It.amt
  by_cases h0 : n < 0
  · rw [decide_eq_false (show ¬ 0 ≤ n by omega), Bool.false_and]
    go_enter Try.func43, Try.ntmps43
    go_wp2
    go_ret
    exact ⟨rfl, rfl⟩
  · have HF := Lib.hid (fun w => fits_any n _ rfl w)
    rw [decide_eq_true (show 0 ≤ n by omega), Bool.true_and]
    generalize Sc.fits n = r at HF ⊢
    go_enter Try.func43, Try.ntmps43
    go_wp2_with fail
    refine (HF.out _).mono ?_
    rintro e w1 ⟨rfl, rfl⟩
    go_wp2
    go_ret
    exact ⟨rfl, rfl⟩
set_option maxHeartbeats 1000000 in
set_option maxRecDepth 100000 in
theorem isLength_any (n : Int) (b : Bool) (h : It.amt n = b) (w : World) : Calls Try.prog 70 #[.int .i64 n] w (Is (.bool b) w) := by
  subst h
  unfold It.amt
  by_cases h0 : n < 0
  · rw [decide_eq_false (show ¬ 0 ≤ n by omega), Bool.false_and]
    go_enter Try.func70, Try.ntmps70
    go_wp2
    go_ret
    exact ⟨rfl, rfl⟩
  · have HF := Lib.hid (fun w => fits_any n _ rfl w)
    rw [decide_eq_true (show 0 ≤ n by omega), Bool.true_and]
    generalize Sc.fits n = r at HF ⊢
    go_enter Try.func70, Try.ntmps70
    go_wp2_with fail
    refine (HF.out _).mono ?_
    rintro e w1 ⟨rfl, rfl⟩
    go_wp2
    go_ret
    exact ⟨rfl, rfl⟩
set_option maxHeartbeats 1000000 in
set_option maxRecDepth 100000 in
theorem isPenalty_any (n : Int) (w : World) : Calls Try.prog 44 #[.int .i64 n] w (Is (.bool (It.penOk n)) w) := by
  unfold It.penOk
  by_cases h0 : n < -10000
  · rw [decide_eq_false (show ¬ -10000 ≤ n by omega), Bool.false_and]
    go_enter Try.func44, Try.ntmps44
    go_wp2
    go_ret
    exact ⟨rfl, rfl⟩
  · rw [decide_eq_true (show -10000 ≤ n by omega), Bool.true_and]
    have h1 : -10000 ≤ n := by omega
    go_enter Try.func44, Try.ntmps44
    go_wp2
    go_ret
    exact ⟨rfl, rfl⟩
set_option maxHeartbeats 1000000 in
set_option maxRecDepth 100000 in
theorem glSize_any (a : Int) (h : -1073741823 ≤ a ∧ a ≤ 1073741823) (w : World) : Calls Try.prog 62 #[.int .i64 a] w (Is (.int .i64 (It.size a)) w) := by
  have hs : Hid (It.size a = if a < 0 then -a else a) := rfl
  obtain ⟨h0, h1⟩ := h
  by_cases ha : a < 0
  all_goals
    go_enter Try.func62, Try.ntmps62
    go_wp2
    go_ret
    exact ⟨ret_int (by rw [hs.out]; split <;> omega), rfl⟩
end Go.Proofs.Ythcilpijiindeaa
