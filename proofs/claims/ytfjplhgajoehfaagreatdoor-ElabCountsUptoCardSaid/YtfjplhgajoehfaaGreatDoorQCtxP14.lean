/-
  What the landed contextsOf makes, piece by piece.
-/
import Derived.Test.YtfjplhgajoehfaaGreatDoorQSrc14
set_option linter.unusedVariables false
set_option linter.unusedSimpArgs false
namespace Go.Proofs.YtfjplhgajoehfaaGreatDoor
open Go.RowKit

theorem wpList_ins14 {w : World} {ops : Array Oper} {rest : List Oper} {o : Oper} {a : Act} {Q : Exit → Act → World → Prop} (hg : o.guard = none) (m x v : Operand) (t : TypeId) (hop : o.op = Op.insert t m x v)
    {e : TypeId} (hT : Tryz.prog.underlying t = some (.map 9 e)) (b : Nat) (l : List (List UInt8 × Value)) (hm : a.eval m = .map (some b)) (hown : Map14 w b l) (y : List UInt8) (hx : a.eval x = .string (str y)) (hl : look y l = none) (val : Value) (hv : a.eval v = val)
    (hK : ∀ w', Map14 w' b (l ++ [(y, val)]) → w.grownBy w' (some b) → wpList Tryz.prog ops Q rest (a.put o.dst undef) w') : wpList Tryz.prog ops Q (o :: rest) a w := by
  refine wpList_plain hg fun K' hK' => ?_
  obtain ⟨w', hrun, r1, r2⟩ := run_put14 hT hown y hl val
  unfold Oper.wp
  simp [execOp, hop, hm, hx, hv, hrun, Result.andThen]
  exact hK' _ _ (hK w' r1 r2)
def footV (pm qi : Nat) : Value := ruleV 1 (.func (.func 52) #[] #[.pointer (some ⟨pm, 0, none⟩), .pointer (some ⟨qi, 0, none⟩)])
def notesL (pm : Nat) (q : Nat → Nat) (k : Nat) : List (List UInt8 × Value) := (List.range k).map fun i => (El.seriesL.getD i [], footV pm (q i))
theorem notesL_succ (pm : Nat) (q : Nat → Nat) (k b : Nat) : notesL pm (fun i => if i = k then b else q i) (k + 1) = notesL pm q k ++ [(El.seriesL.getD k [], footV pm b)] := by
  unfold notesL
  rw [List.range_succ, List.map_append]
  congr 1
  · refine List.map_congr_left fun i hi => ?_
    have := List.mem_range.1 hi
    simp only []
    rw [if_neg (by omega)]
  · simp
theorem notesL_look (pm : Nat) (q : Nat → Nat) (k : Nat) (hk : k < 11) : look (El.seriesL.getD k []) (notesL pm q k) = none := by
  have : k = 0 ∨ k = 1 ∨ k = 2 ∨ k = 3 ∨ k = 4 ∨ k = 5 ∨ k = 6 ∨ k = 7 ∨ k = 8 ∨ k = 9 ∨ k = 10 := by omega
  rcases this with rfl | rfl | rfl | rfl | rfl | rfl | rfl | rfl | rfl | rfl | rfl <;> rfl
/-- what the package-level variable holds -/
def seriesA : Value := .agg #[.string ⟨#[65]⟩, .string ⟨#[66]⟩, .string ⟨#[67]⟩, .string ⟨#[68]⟩, .string ⟨#[69]⟩, .string ⟨#[102, 65]⟩, .string ⟨#[102, 66]⟩, .string ⟨#[102, 67]⟩, .string ⟨#[102, 68]⟩, .string ⟨#[102, 69]⟩, .string ⟨#[101, 110, 100]⟩]
def SerAt (w : World) : Prop := ∀ k, k < 11 → w.cell? ⟨0, k, none⟩ = some (.string (str (El.seriesL.getD k [])))
theorem index_ser0 (w : World) : (Instr.index 93 seriesA (.int .i64 0)).run Tryz.prog w = .ok (.string (str [65])) w := by kernel_rfl
theorem index_ser1 (w : World) : (Instr.index 93 seriesA (.int .i64 1)).run Tryz.prog w = .ok (.string (str [66])) w := by kernel_rfl
theorem index_ser2 (w : World) : (Instr.index 93 seriesA (.int .i64 2)).run Tryz.prog w = .ok (.string (str [67])) w := by kernel_rfl
theorem index_ser3 (w : World) : (Instr.index 93 seriesA (.int .i64 3)).run Tryz.prog w = .ok (.string (str [68])) w := by kernel_rfl
theorem index_ser4 (w : World) : (Instr.index 93 seriesA (.int .i64 4)).run Tryz.prog w = .ok (.string (str [69])) w := by kernel_rfl
theorem index_ser5 (w : World) : (Instr.index 93 seriesA (.int .i64 5)).run Tryz.prog w = .ok (.string (str [102, 65])) w := by kernel_rfl
theorem index_ser6 (w : World) : (Instr.index 93 seriesA (.int .i64 6)).run Tryz.prog w = .ok (.string (str [102, 66])) w := by kernel_rfl
theorem index_ser7 (w : World) : (Instr.index 93 seriesA (.int .i64 7)).run Tryz.prog w = .ok (.string (str [102, 67])) w := by kernel_rfl
theorem index_ser8 (w : World) : (Instr.index 93 seriesA (.int .i64 8)).run Tryz.prog w = .ok (.string (str [102, 68])) w := by kernel_rfl
theorem index_ser9 (w : World) : (Instr.index 93 seriesA (.int .i64 9)).run Tryz.prog w = .ok (.string (str [102, 69])) w := by kernel_rfl
theorem index_ser10 (w : World) : (Instr.index 93 seriesA (.int .i64 10)).run Tryz.prog w = .ok (.string (str [101, 110, 100])) w := by kernel_rfl
theorem index_series (k : Nat) (hk : k < 11) (w : World) : (Instr.index 93 seriesA (.int .i64 k)).run Tryz.prog w = .ok (.string (str (El.seriesL.getD k []))) w := by
  have : k = 0 ∨ k = 1 ∨ k = 2 ∨ k = 3 ∨ k = 4 ∨ k = 5 ∨ k = 6 ∨ k = 7 ∨ k = 8 ∨ k = 9 ∨ k = 10 := by omega
  rcases this with rfl | rfl | rfl | rfl | rfl | rfl | rfl | rfl | rfl | rfl | rfl
  · exact index_ser0 w
  · exact index_ser1 w
  · exact index_ser2 w
  · exact index_ser3 w
  · exact index_ser4 w
  · exact index_ser5 w
  · exact index_ser6 w
  · exact index_ser7 w
  · exact index_ser8 w
  · exact index_ser9 w
  · exact index_ser10 w
/-- what stands while the maps of rules are made -/
structure CW (pm r2 t3 : Nat) (mv : Value) (q : Nat → Nat) (n : Nat) (done : List (Nat × List (List UInt8 × Value))) (w0 w : World) : Prop where
  pm : w.heap[pm]? = some (.cells #[mv] 66 (0, 0))
  r2 : w.heap[r2]? = some (.cells #[.string ⟨#[]⟩, .nilFunc, .map none, .string ⟨#[]⟩, .nilFunc, .map none, .string ⟨#[]⟩, .nilFunc, .map none, .string ⟨#[]⟩, .nilFunc, .map none, .string ⟨#[]⟩, .nilFunc, .map none, .string ⟨#[]⟩, .nilFunc, .map none, .string ⟨#[]⟩, .nilFunc, .map none, .string ⟨#[]⟩, .nilFunc, .map none, .string ⟨#[]⟩, .nilFunc, .map none] 80 (0, 0))
  t3 : w.heap[t3]? = some (.cells #[.int .i64 1, .func (.func 51) #[mv] #[]] 117 (0, 0))
  qq : ∀ i, i < n → w.heap[q i]? = some (.cells #[.int .i64 i] 3 (0, 0))
  done : ∀ x ∈ done, Map14 w x.1 x.2
  below : Below w0.heap.size w0 w
  qb : ∀ i, i < n → w0.heap.size ≤ q i
section
variable {pm r2 t3 : Nat} {mv : Value} {q : Nat → Nat} {n : Nat} {done : List (Nat × List (List UInt8 × Value))} {w0 w w' : World}
theorem CW.mono (h : CW pm r2 t3 mv q n done w0 w) (hb : Below w.heap.size w w') : CW pm r2 t3 mv q n done w0 w' :=
  ⟨obj_kept hb h.pm, obj_kept hb h.r2, obj_kept hb h.t3, fun i hi => obj_kept hb (h.qq i hi), fun x hx => (h.done x hx).mono hb, h.below.trans (hb.mono h.below.size), h.qb⟩
theorem CW.put (h : CW pm r2 t3 mv q n done w0 w) {b : Nat} {l : List (List UInt8 × Value)} (hm : Map14 w b l) (hg : w.grownBy w' (some b)) (hf : ∀ x ∈ done, x.1 ≠ b) (hb : w0.heap.size ≤ b) : CW pm r2 t3 mv q n done w0 w' := by
  obtain ⟨es, clock, h1, _⟩ := hm
  have ne : ∀ {c : Nat} {cs : Array Value} {T : TypeId} {fr : Nat × Nat}, w.heap[c]? = some (.cells cs T fr) → some c ≠ some b := fun hc e => by
    rw [Option.some.inj e, h1] at hc
    cases hc
  exact ⟨obj_far h.pm hg (ne h.pm), obj_far h.r2 hg (ne h.r2), obj_far h.t3 hg (ne h.t3), fun i hi => obj_far (h.qq i hi) hg (ne (h.qq i hi)), fun x hx => (h.done x hx).kept hg (fun e => hf x hx (Option.some.inj e)), h.below.grown hg h.below.size (fun j hj => by cases hj; exact hb), h.qb⟩
theorem CW.fin (h : CW pm r2 t3 mv q n done w0 w) {b : Nat} {l : List (List UInt8 × Value)} (hm : Map14 w b l) : CW pm r2 t3 mv q n (done ++ [(b, l)]) w0 w :=
  ⟨h.pm, h.r2, h.t3, h.qq, fun x hx => by
    rcases List.mem_append.1 hx with hx | hx
    · exact h.done x hx
    · rw [List.mem_singleton] at hx
      subst hx
      exact hm, h.below, h.qb⟩
theorem CW.fresh (h : CW pm r2 t3 mv q n done w0 w) {b : Nat} (hb : w.heap.size ≤ b) : ∀ x ∈ done, x.1 ≠ b := fun x hx e => by
  have := (h.done x hx).lt
  omega
theorem CW.more (h : CW pm r2 t3 mv q n done w0 w) {b : Nat} (hb : w.heap[b]? = some (.cells #[.int .i64 n] 3 (0, 0))) (hbb : w0.heap.size ≤ b) : CW pm r2 t3 mv (fun i => if i = n then b else q i) (n + 1) done w0 w :=
  ⟨h.pm, h.r2, h.t3, fun i hi => by
    by_cases e : i = n
    · subst e; simp only [if_true]; exact hb
    · rw [if_neg e]; exact h.qq i (by omega), h.done, h.below, fun i hi => by
    by_cases e : i = n
    · subst e; simp only [if_true]; exact hbb
    · rw [if_neg e]; exact h.qb i (by omega)⟩
end
def boundF (mv : Value) (k : Nat) : Value := .func (.func k) #[mv] #[]
def cellsF (bs bd bc bt bx bn bo : Nat) (mv : Value) : List Value :=
  [.string (str nmSource), .nilFunc, .map (some bs), .string (str nmSide), .nilFunc, .map (some bd), .string (str El.tChunk), .nilFunc, .map (some bc), .string (str nmStanza), .nilFunc, .map (some bt),
    .string (str El.tText), boundF mv 59, .map (some bx), .string (str nmNotes), .nilFunc, .map (some bn), .string (str nmNote), boundF mv 62, .map (some bo),
    .string (str nmKeys), boundF mv 65, .map none, .string (str nmName), .func (.func 66) #[] #[], .map none]
def env0 (p bs bd bc bt bx bn bo pm : Nat) (q : Nat → Nat) (w : World) : Env14 := ⟨p, 0, bs, bd, bc, bt, bx, bn, bo, pm, q, .nilIface, [], w⟩
def CtxPost (p : Nat) (w : World) (e : Ending) (w' : World) : Prop := ∃ (bs bd bc bt bx bn bo pm : Nat) (q : Nat → Nat), e = .returned (.agg (cellsF bs bd bc bt bx bn bo (.pointer (some ⟨p, 0, none⟩))).toArray) ∧ Below w.heap.size w w' ∧
  Map14 w' bs (env0 p bs bd bc bt bx bn bo pm q w).mSource ∧ Map14 w' bd (env0 p bs bd bc bt bx bn bo pm q w).mSide ∧ Map14 w' bc (env0 p bs bd bc bt bx bn bo pm q w).mChunk ∧ Map14 w' bt (env0 p bs bd bc bt bx bn bo pm q w).mStanza ∧ Map14 w' bx (env0 p bs bd bc bt bx bn bo pm q w).mText ∧ Map14 w' bn ((env0 p bs bd bc bt bx bn bo pm q w).mNotes 11) ∧ Map14 w' bo (env0 p bs bd bc bt bx bn bo pm q w).mNote ∧
  w'.heap[pm]? = some (.cells #[.pointer (some ⟨p, 0, none⟩)] 66 (0, 0)) ∧ (∀ i, i < 11 → w'.heap[q i]? = some (.cells #[.int .i64 i] 3 (0, 0))) ∧
  (w.heap.size ≤ bs ∧ w.heap.size ≤ bd ∧ w.heap.size ≤ bc ∧ w.heap.size ≤ bt ∧ w.heap.size ≤ bx ∧ w.heap.size ≤ bn ∧ w.heap.size ≤ bo ∧ w.heap.size ≤ pm ∧ ∀ i, i < 11 → w.heap.size ≤ q i)
theorem infoCx : (Tryz.prog.info? 80).map (fun i => i.size) = some 27 := by kernel_rfl
theorem wpList_storeAll14 {w : World} {ops : Array Oper} {rest : List Oper} {o : Oper} {a : Act} {Q : Exit → Act → World → Prop} (hg : o.guard = none) (pt v : Operand) (t : TypeId) (hop : o.op = Op.store t pt v)
    (n : Nat) (hn : (Tryz.prog.info? t).map (fun i => i.size) = some n) (b : Nat) (off : Nat) (hp : a.eval pt = .pointer (some ⟨b, off, none⟩)) (old : Array Value) (T : TypeId) (hw : w.heap[b]? = some (.cells old T (0, 0))) (val : Value) (hv : a.eval v = val)
    (vs : List Value) (hvs : val.cells.toList = vs) (hs : vs.length = n) (ho : off + vs.length ≤ old.size) (h1 : ∀ x ∈ vs, x.oneCell' = true)
    (hK : ∀ w', w'.heap[b]? = some (.cells (old.toList.take off ++ vs ++ old.toList.drop (off + vs.length)).toArray T (0, 0)) → w.grownBy w' (some b) → wpList Tryz.prog ops Q rest (a.put o.dst undef) w') : wpList Tryz.prog ops Q (o :: rest) a w := by
  obtain ⟨i, hi, hin⟩ := Option.map_eq_some_iff.1 hn
  subst hin
  refine wpList_plain hg fun K' hK' => ?_
  have hst := run_storeCells_atF Tryz.prog b off T (0, 0) vs 0 old w hw (Nat.zero_le _) (by simpa using ho) h1
  simp only [Nat.add_zero] at hst
  have hsz : val.cells.size = i.size := by rw [← hs, ← hvs]; simp
  obtain ⟨R, hR⟩ : ∃ R, R = (old.toList.take off ++ vs ++ old.toList.drop (off + vs.length)).toArray := ⟨_, rfl⟩
  rw [← hR] at hst
  simp only [← hR] at hK
  unfold Oper.wp
  simp [execOp, hop, hp, hv, Instr.storeAt, Instr.sureAddr, storeVar, sizeOf, typeInfo, hi, hsz, hvs, hst, Result.andThen]
  refine hK' _ _ (hK _ (setRow_heap w b old _ T _ hw) ⟨rfl, rfl, rfl, by simp, fun k _ hk => setRow_other w b k _ (fun e => hk (by rw [e]))⟩)
theorem one27 {bs bd bc bt bx bn bo : Nat} {b : Nat} : ∀ x ∈ cellsF bs bd bc bt bx bn bo (.pointer (some ⟨b, 0, none⟩)), x.oneCell' = true := by
  intro x hx
  simp only [cellsF, List.mem_cons, List.not_mem_nil, or_false] at hx
  rcases hx with rfl | rfl | rfl | rfl | rfl | rfl | rfl | rfl | rfl | rfl | rfl | rfl | rfl | rfl | rfl | rfl | rfl | rfl | rfl | rfl | rfl | rfl | rfl | rfl | rfl | rfl | rfl <;> rfl
theorem load27 {b : Nat} {T : TypeId} {W : World} {vs : List Value} (hX : W.heap[b]? = some (.cells vs.toArray T (0, 0))) (hn : vs.length = 27) : (loadVar 80 ⟨b, 0, none⟩).run Tryz.prog W = .ok (.agg vs.toArray) W := by
  have hl := run_loadCells_list (P := Tryz.prog) (w := W) ⟨b, 0, none⟩ vs (fun j v hj => by
    have hadd : (⟨b, 0, none⟩ : Addr).add j = ⟨b, j, none⟩ := by unfold Addr.add; split <;> simp_all
    rw [hadd]
    exact mcell hX j (by simpa using hj))
  obtain ⟨i, hi, hin⟩ := Option.map_eq_some_iff.1 infoCx
  rw [hn] at hl
  simp [loadVar, isAgg, underlying, Tryz.underlying80, sizeOf, typeInfo, hi, hin, hl, Result.andThen]
theorem ctx_ret {p b : Nat} {w W : World} {a : Act} {bs bd bc bt bx bn bo : Nat} {T : TypeId} (h2 : a.tmps.getD 2 undef = .pointer (some ⟨b, 0, none⟩)) (hd : a.defers = []) (hX : W.heap[b]? = some (.cells (cellsF bs bd bc bt bx bn bo (.pointer (some ⟨p, 0, none⟩))).toArray T (0, 0)))
    (HP : CtxPost p w (.returned (.agg (cellsF bs bd bc bt bx bn bo (.pointer (some ⟨p, 0, none⟩))).toArray)) W) : bodyPost Tryz.prog Tryz.f37 (CtxPost p w) .ret a W := by
  have hl := load27 hX rfl
  refine bodyPost_ret ?_ hd HP
  have h2' : a.tmps[2]?.getD undef = .pointer (some ⟨b, 0, none⟩) := by simpa using h2
  generalize (Value.agg (cellsF bs bd bc bt bx bn bo (.pointer (some ⟨p, 0, none⟩))).toArray) = V at *
  simp [results, Tryz.results37, h2', asAddr, hl, Result.andThen]
theorem ctx_post {p H : Nat} {q : Nat → Nat} {done : List (Nat × List (List UInt8 × Value))} {w w2 WX : World} {bs bd bc bt bx bn bo : Nat} (hZ : CW H (H + 1) (H + 2) (.pointer (some ⟨p, 0, none⟩)) q 11 done w w2) (hg : w2.grownBy WX (some (H + 1))) (hh : H = w.heap.size)
    (h1 : Map14 w2 bs (env0 p bs bd bc bt bx bn bo H q w).mSource) (h2 : Map14 w2 bd (env0 p bs bd bc bt bx bn bo H q w).mSide) (h3 : Map14 w2 bc (env0 p bs bd bc bt bx bn bo H q w).mChunk)
    (h4 : Map14 w2 bt (env0 p bs bd bc bt bx bn bo H q w).mStanza) (h5 : Map14 w2 bx (env0 p bs bd bc bt bx bn bo H q w).mText) (h6 : Map14 w2 bn ((env0 p bs bd bc bt bx bn bo H q w).mNotes 11)) (h7 : Map14 w2 bo (env0 p bs bd bc bt bx bn bo H q w).mNote)
    (b1 : w.heap.size ≤ bs) (b2 : w.heap.size ≤ bd) (b3 : w.heap.size ≤ bc) (b4 : w.heap.size ≤ bt) (b5 : w.heap.size ≤ bx) (b7 : w.heap.size ≤ bo) (b6 : w.heap.size ≤ bn) :
    CtxPost p w (.returned (.agg (cellsF bs bd bc bt bx bn bo (.pointer (some ⟨p, 0, none⟩))).toArray)) WX := by
  have nf : ∀ {b l}, Map14 w2 b l → Map14 WX b l := fun {b l} hm => hm.kept hg (fun e => by
    obtain ⟨es, clock, h1, _⟩ := hm
    have h2 := hZ.r2
    rw [← Option.some.inj e, h1] at h2
    cases h2)
  refine ⟨bs, bd, bc, bt, bx, bn, bo, H, q, rfl, hZ.below.grown hg hZ.below.size (fun j hj => by cases hj; omega), nf h1, nf h2, nf h3, nf h4, nf h5, nf h6, nf h7, ?_, ?_, ⟨b1, b2, b3, b4, b5, b6, b7, by omega, hZ.qb⟩⟩
  · exact obj_far hZ.pm hg (fun e => by have := Option.some.inj e; omega)
  · exact fun i hi => obj_far (hZ.qq i hi) hg (fun e => by
      have h1 := hZ.qq i hi
      have h2 := hZ.r2
      rw [← Option.some.inj e, h1] at h2
      cases h2)
theorem nn_base {pm r2 t3 : Nat} {mv : Value} {q : Nat → Nat} {n : Nat} {done : List (Nat × List (List UInt8 × Value))} {w0 w : World} (h : CW pm r2 t3 mv q n done w0 w) : w0.heap.size ≤ w.heap.size := h.below.size
end Go.Proofs.YtfjplhgajoehfaaGreatDoor
