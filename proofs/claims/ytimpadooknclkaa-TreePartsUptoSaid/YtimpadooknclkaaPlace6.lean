/-
  Where lists lie: two lists of nodes at one place are one list; a set of places, kept as a map of the call's own.
-/
import Derived.Test.YtimpadooknclkaaStk6
import Derived.Test.YtimpadooknclkaaCalls6
import Derived.Maps.OwnSet
set_option linter.unusedVariables false
set_option linter.unusedSimpArgs false
namespace Go.Proofs.Ytimpadooknclkaa
open Go.RowKit

/-! ### one place, one list -/
theorem str_inj {a b : List UInt8} (h : str a = str b) : a = b := by
  have := congrArg (fun s : ByteArray => s.data.toList) h
  simpa [str_data] using this
mutual
theorem NdAt.det {w : World} {K K' : Nat → Prop} : ∀ (n m : Nd) (b o : Nat), NdAt w K n b o → NdAt w K' m b o → n = m
  | .mk c x args a, .mk c' x' args' a', b, o, h, k => by
    unfold NdAt at h k
    obtain ⟨va, h1, h2, h3, h4, h5⟩ := h
    obtain ⟨vb, k1, k2, k3, k4, k5⟩ := k
    rw [h1] at k1
    rw [h2] at k2
    rw [h3] at k3
    rw [h4] at k4
    obtain rfl : c = c' := by simpa using k1
    obtain rfl : x = x' := str_inj (by simpa using k2)
    obtain rfl : va = vb := by simpa using k3
    obtain rfl : a = a' := by simpa using k4
    obtain ⟨⟨pa, ca, e1, _⟩, _, r1⟩ := h5
    obtain ⟨⟨pb, cb, e2, _⟩, _, r2⟩ := k5
    have hl : args.length = args'.length := by
      rw [e1] at e2
      injection e2
    have : args = args' := by
      rcases Nat.eq_zero_or_pos args.length with h0 | h0
      · rw [List.eq_nil_of_length_eq_zero h0, List.eq_nil_of_length_eq_zero (hl.symm.trans h0)]
      · obtain ⟨b1, o1, d1, e3, _, q1⟩ := r1 h0
        obtain ⟨b2, o2, d2, e4, _, q2⟩ := r2 (by omega)
        rw [e3] at e4
        injection e4 with e4 _ _
        injection e4 with e4
        injection e4 with e5 e6 _
        subst e5 e6
        exact RowA.det args args' b1 o1 hl q1 q2
    rw [this]
theorem RowA.det {w : World} {K K' : Nat → Prop} : ∀ (l m : List (List Nd)) (b o : Nat), l.length = m.length → RowA w K l b o → RowA w K' m b o → l = m
  | [], [], _, _, _, _, _ => rfl
  | [], _ :: _, _, _, e, _, _ => by simp at e
  | _ :: _, [], _, _, e, _, _ => by simp at e
  | g :: l, g' :: m, b, o, e, h, k => by
    unfold RowA at h k
    obtain ⟨⟨vg, h1, h5⟩, h2⟩ := h
    obtain ⟨⟨vg', k1, k5⟩, k2⟩ := k
    rw [h1] at k1
    obtain rfl : vg = vg' := by simpa using k1
    obtain ⟨⟨pa, ca, e1, _⟩, _, r1⟩ := h5
    obtain ⟨⟨pb, cb, e2, _⟩, _, r2⟩ := k5
    have hl : g.length = g'.length := by
      rw [e1] at e2
      injection e2
    have : g = g' := by
      rcases Nat.eq_zero_or_pos g.length with h0 | h0
      · rw [List.eq_nil_of_length_eq_zero h0, List.eq_nil_of_length_eq_zero (hl.symm.trans h0)]
      · obtain ⟨b1, o1, d1, e3, _, q1⟩ := r1 h0
        obtain ⟨b2, o2, d2, e4, _, q2⟩ := r2 (by omega)
        rw [e3] at e4
        injection e4 with e4 _ _
        injection e4 with e4
        injection e4 with e5 e6 _
        subst e5 e6
        exact RowN.det g g' b1 o1 hl q1 q2
    rw [this, RowA.det l m b (o + 1) (by simpa using e) h2 k2]
theorem RowN.det {w : World} {K K' : Nat → Prop} : ∀ (l m : List Nd) (b o : Nat), l.length = m.length → RowN w K l b o → RowN w K' m b o → l = m
  | [], [], _, _, _, _, _ => rfl
  | [], _ :: _, _, _, e, _, _ => by simp at e
  | _ :: _, [], _, _, e, _, _ => by simp at e
  | n :: l, n' :: m, b, o, e, h, k => by
    unfold RowN at h k
    rw [NdAt.det n n' b o h.1 k.1, RowN.det l m b (o + 4) (by simpa using e) h.2 k.2]
end
abbrev Pl := Option Addr × Nat
/-- where a list lies -/
def plOf : Value → Pl
  | .slice p n _ => if n = 0 then (none, 0) else (p, n)
  | _ => (none, 0)
theorem place_det {w : World} {K K' : Nat → Prop} {v v' : Value} {l l' : List Nd} (h : NodesAt w K v l) (k : NodesAt w K' v' l') (e : plOf v = plOf v') : l = l' := by
  obtain ⟨⟨p, c, rfl, _⟩, _, r1⟩ := h
  obtain ⟨⟨p', c', rfl, _⟩, _, r2⟩ := k
  have e' : (if l.length = 0 then ((none, 0) : Pl) else (p, l.length)) = (if l'.length = 0 then (none, 0) else (p', l'.length)) := e
  by_cases h0 : l.length = 0
  · rw [if_pos h0] at e'
    by_cases h1 : l'.length = 0
    · rw [List.eq_nil_of_length_eq_zero h0, List.eq_nil_of_length_eq_zero h1]
    · rw [if_neg h1] at e'
      injection e' with e1 e2
      omega
  · rw [if_neg h0] at e'
    by_cases h1 : l'.length = 0
    · rw [if_pos h1] at e'
      injection e' with e1 e2
      omega
    · rw [if_neg h1] at e'
      injection e' with e1 e2
      obtain ⟨b1, o1, d1, e3, _, q1⟩ := r1 (by omega)
      obtain ⟨b2, o2, d2, e4, _, q2⟩ := r2 (by omega)
      injection e3 with e3 _ _
      injection e4 with e4 _ _
      rw [e3, e4] at e1
      injection e1 with e1
      injection e1 with e5 e6 _
      subst e5 e6
      exact RowN.det l l' b1 o1 e2 q1 q2

/-! ### places held against one another -/
def plV (x : Pl) : Value := .agg #[.pointer x.1, .int .i64 (x.2 : Int)]
def PlOk (w : World) (x : Pl) : Prop := ∀ a, x.1 = some a → Clear w a.block
theorem plV_inj {x y : Pl} (h : plV x = plV y) : x = y := by
  obtain ⟨a, n⟩ := x
  obtain ⟨b, m⟩ := y
  simp [plV] at h
  obtain ⟨rfl, h2⟩ := h
  have : n = m := by omega
  rw [this]
theorem fPl : (Try.prog.fieldsOf 65).toList.map (fun f => (f.name, f.type, f.offset)) = [("first", 63, 0), ("many", 3, 1)] := by kernel_rfl
theorem uPl : Try.prog.underlying 65 = some (.struct (Try.prog.fieldsOf 65)) := by kernel_rfl
theorem sPl : Try.prog.stoodInHeld 65 = false := by kernel_rfl
theorem pPl0 (a : Option Addr) (n : Int) (w : World) : (part 63 #[.pointer a, .int .i64 n] 0).run Try.prog w = .ok (.pointer a) w := by kernel_rfl
theorem pPl1 (a : Option Addr) (n : Int) (w : World) : (part 3 #[.pointer a, .int .i64 n] 1).run Try.prog w = .ok (.int .i64 n) w := by kernel_rfl
theorem sizeNd (wx : World) : (sizeOf 43).run Try.prog wx = .ok 4 wx := by kernel_rfl
theorem ptr_eq (d : Nat) (a b : Option Addr) (w : World) (ha : ∀ x, a = some x → Clear w x.block) (hb : ∀ x, b = some x → Clear w x.block) : (Op.equalIn (d + 1) 63 (.pointer a) (.pointer b)).run Try.prog w = .ok (decide (a = b)) w := by
  have hu : Try.prog.underlying 63 = some (.pointer 43) := by kernel_rfl
  cases a with
  | none => cases b <;> simp [Op.equalIn, run_underlying hu]
  | some a =>
    cases b with
    | none => simp [Op.equalIn, run_underlying hu]
    | some b =>
      by_cases e : a = b
      · subst e
        simp [Op.equalIn, run_underlying hu, sizeNd, run_sameAddr_same]
      · obtain ⟨ca, ta, h1⟩ := ha a rfl
        obtain ⟨cb, tb, h2⟩ := hb b rfl
        have h3 := run_sameAddr_other (P := Try.prog) w e h1 h2
        simp [Op.equalIn, run_underlying hu, sizeNd, h3, e]
theorem eqInPl (d : Nat) (x y : Pl) (w : World) (hx : PlOk w x) (hy : PlOk w y) : (Op.equalIn (d + 2) 65 (plV x) (plV y)).run Try.prog w = .ok (decide (x = y)) w := by
  unfold plV
  rw [run_equalIn_agg w (d + 1) 65 _ _ uPl sPl]
  obtain ⟨f1, h1, e1⟩ := eqFields_next (d + 1) #[.pointer x.1, .int .i64 (x.2 : Int)] #[.pointer y.1, .int .i64 (y.2 : Int)] _ _ _ _ _ fPl (by decide)
  obtain ⟨f2, h2, e2⟩ := eqFields_next (d + 1) #[.pointer x.1, .int .i64 (x.2 : Int)] #[.pointer y.1, .int .i64 (y.2 : Int)] _ _ _ _ _ h1 (by decide)
  obtain rfl : f2 = [] := by simpa using h2
  rw [e1]
  simp only [Sem.run_bind, pPl0, Result.andThen_ok]
  rw [ptr_eq d _ _ w hx hy]
  obtain ⟨a, n⟩ := x
  obtain ⟨b, m⟩ := y
  by_cases e : a = b
  · subst e
    simp only [decide_true, Result.andThen_ok, Bool.not_true, Bool.false_eq_true, if_false]
    rw [e2]
    simp only [Sem.run_bind, pPl1, Result.andThen_ok]
    rw [run_equalIn_int w d 3 .i64 .i64 (n : Int) (m : Int) Try.underlying3]
    by_cases e3 : n = m
    · subst e3
      simp [Op.eqFields]
    · have e4 : ((n : Int) == (m : Int)) = false := by rw [beq_eq_false_iff_ne]; omega
      simp [e3, e4]
  · simp [e]

/-! ### a set of places -/
/-- block m is a map whose keys are the places ks -/
def SetOf (w : World) (m : Nat) (ks : List Pl) : Prop := ∃ es clock, w.heap[m]? = some (.map es clock) ∧ es.toList.map (·.key) = ks.map plV ∧ ∀ e ∈ es.toList, e.val = .agg #[]
theorem SetOf.lt {w : World} {m : Nat} {ks : List Pl} (h : SetOf w m ks) : m < w.heap.size := by
  obtain ⟨es, clock, h, _⟩ := h
  exact (Array.getElem?_eq_some_iff.1 h).1
theorem SetOf.same {w w' : World} {m : Nat} {ks : List Pl} (h : SetOf w m ks) (e : w'.heap[m]? = w.heap[m]?) : SetOf w' m ks := by
  obtain ⟨es, clock, h, r⟩ := h
  exact ⟨es, clock, e.trans h, r⟩
theorem SetOf.mono {w w' : World} {m : Nat} {ks : List Pl} (h : SetOf w m ks) (hb : Below w.heap.size w w') : SetOf w' m ks := h.same (hb.block m h.lt)
theorem setOf_new (w : World) : SetOf (w.alloc (.map #[] 0)) w.heap.size [] := ⟨#[], 0, heap_alloc_new _ _, rfl, fun e h => by cases h⟩
theorem check_pl (em : Bool) (x : Pl) (w : World) : (Instr.checkKey em 10000 65 (plV x)).run Try.prog w = .ok () w := by
  obtain ⟨a, n⟩ := x
  cases em <;> kernel_rfl
theorem equal_pl (x y : Pl) (w : World) (hx : PlOk w x) (hy : PlOk w y) : (Op.equal 65 (plV x) (plV y)).run Try.prog w = .ok (decide (x = y)) w := eqInPl 9998 x y w hx hy
theorem ask_pl (x : Pl) (w : World) (hx : PlOk w x) : ∀ (es : List MapEntry) (ks : List Pl) (i : Nat), es.map (·.key) = ks.map plV → (∀ k ∈ ks, PlOk w k) → (∀ e ∈ es, e.val = .agg #[]) →
    ∃ r, (Instr.findAsking 65 (plV x) es i).run Try.prog w = .ok r w ∧ ((x ∈ ks ∧ ∃ j, r = some (j, .agg #[])) ∨ (x ∉ ks ∧ r = none))
  | [], [], i, _, _, _ => ⟨none, rfl, .inr ⟨by simp, rfl⟩⟩
  | [], _ :: _, _, e, _, _ => by simp at e
  | _ :: _, [], _, e, _, _ => by simp at e
  | e :: es, k :: ks, i, he, hk, hv => by
    simp only [List.map_cons, List.cons.injEq] at he
    have h1 := equal_pl x k w hx (hk k (List.mem_cons_self ..))
    rw [← he.1] at h1
    obtain ⟨r, h2, h3⟩ := ask_pl x w hx es ks (i + 1) he.2 (fun k hk' => hk k (List.mem_cons_of_mem _ hk')) (fun e he' => hv e (List.mem_cons_of_mem _ he'))
    by_cases hxk : x = k
    · refine ⟨some (i, e.val), ?_, .inl ⟨by rw [hxk]; exact List.mem_cons_self .., i, by rw [hv e (List.mem_cons_self ..)]⟩⟩
      rw [decide_eq_true hxk] at h1
      unfold Instr.findAsking
      simp [h1]
    · refine ⟨r, ?_, ?_⟩
      · rw [decide_eq_false hxk] at h1
        unfold Instr.findAsking
        simp [h1, h2]
      · rcases h3 with ⟨h4, h5⟩ | ⟨h4, h5⟩
        · exact .inl ⟨List.mem_cons_of_mem _ h4, h5⟩
        · exact .inr ⟨fun h => (List.mem_cons.1 h).elim hxk h4, h5⟩
theorem find_pl (x : Pl) (w : World) (hx : PlOk w x) (es : List MapEntry) (ks : List Pl) (he : es.map (·.key) = ks.map plV) (hk : ∀ k ∈ ks, PlOk w k) (hv : ∀ e ∈ es, e.val = .agg #[]) :
    ∃ r, (Instr.findKey 65 (plV x) es).run Try.prog w = .ok r w ∧ ((x ∈ ks ∧ ∃ j, r = some (j, .agg #[])) ∨ (x ∉ ks ∧ r = none)) := by
  obtain ⟨r, h1, h2⟩ := ask_pl x w hx es ks 0 he hk hv
  refine ⟨r, ?_, h2⟩
  cases es with
  | nil =>
    rw [← h1]
    simp [Instr.findKey, run_underlying uPl, Instr.findNow, Instr.findAsking]
  | cons e es =>
    have hn : Instr.findNow (.struct (Try.prog.fieldsOf 65)) (plV x) (e :: es) 0 = none := rfl
    simp [Instr.findKey, run_underlying uPl, hn, h1]
theorem lookup_set {w : World} {t E : TypeId} (ht : Try.prog.underlying t = some (.map 65 E)) (hz : (zeroValue E).run Try.prog w = .ok (.agg #[]) w) {b : Nat} {ks : List Pl} (h : SetOf w b ks) (hk : ∀ k ∈ ks, PlOk w k) (p : Pl) (hp : PlOk w p) :
    (Instr.lookup t (.map (some b)) (plV p) true).run Try.prog w = .ok (.tuple #[.agg #[], .bool (decide (p ∈ ks))]) w := by
  obtain ⟨es, clock, hb, he, hv⟩ := h
  obtain ⟨r, h1, h2⟩ := find_pl p w hp es.toList ks he hk hv
  rcases h2 with ⟨h3, j, rfl⟩ | ⟨h3, rfl⟩
  · simp [Instr.lookup, run_underlying ht, Go.MapKept.run_getObj_map hb, check_pl, h1, h3]
  · simp [Instr.lookup, run_underlying ht, Go.MapKept.run_getObj_map hb, check_pl, h1, h3, hz]
theorem update_set {w : World} {t E : TypeId} (ht : Try.prog.underlying t = some (.map 65 E)) {b : Nat} {ks : List Pl} (h : SetOf w b ks) (hk : ∀ k ∈ ks, PlOk w k) (p : Pl) (hp : PlOk w p) (hn : p ∉ ks) :
    ∃ w', (Instr.mapUpdate t (.map (some b)) (plV p) (.agg #[])).run Try.prog w = .ok () w' ∧ SetOf w' b (ks ++ [p]) ∧ w.grownBy w' (some b) := by
  obtain ⟨es, clock, hb, he, hv⟩ := h
  obtain ⟨r, h1, h2⟩ := find_pl p w hp es.toList ks he hk hv
  rcases h2 with ⟨h3, _⟩ | ⟨_, rfl⟩
  · exact absurd h3 hn
  · refine ⟨Go.ChangeMaps.setBlock w b (.map (es.push { key := plV p, val := .agg #[], born := clock }) (clock + 1)), ?_, ⟨_, _, Go.ChangeMaps.heap_setBlock_same hb _, ?_, ?_⟩, ⟨rfl, rfl, rfl, by simp [Go.ChangeMaps.setBlock], fun i _ hi => Go.ChangeMaps.heap_setBlock_other hb _ (fun e => hi (by rw [e]))⟩⟩
    · simp [Instr.mapUpdate, run_underlying ht, Go.MapKept.run_getObj_map hb, check_pl, h1, Go.MapKept.run_setObj_map _ hb, Go.ChangeMaps.setBlock]
    · simp [he]
    · intro e he'
      simp at he'
      rcases he' with h | rfl
      · exact hv e (by simpa using h)
      · rfl

/-! ### at the operation -/
theorem wpList_lookup_set {w : World} {ops : Array Oper} {rest : List Oper} {o : Oper} {a : Act} {Q : Exit → Act → World → Prop} (hg : o.guard = none) (m x : Operand) (t E : TypeId) (hop : o.op = Op.lookup t m x true)
    (ht : Try.prog.underlying t = some (.map 65 E)) (hz : ∀ w, (zeroValue E).run Try.prog w = .ok (.agg #[]) w) (b : Nat) (ks : List Pl) (hm : a.eval m = .map (some b)) (hown : SetOf w b ks) (hk : ∀ k ∈ ks, PlOk w k) (p : Pl) (hp : PlOk w p) (hx : a.eval x = plV p) (r : Bool) (hr : decide (p ∈ ks) = r)
    (hK : wpList Try.prog ops Q rest (a.put o.dst (.tuple #[.agg #[], .bool r])) w) : wpList Try.prog ops Q (o :: rest) a w := by
  refine wpList_plain hg fun K' hK' => ?_
  have hrun := lookup_set ht (hz w) hown hk p hp
  rw [hr] at hrun
  unfold Oper.wp
  simp [execOp, hop, hm, hx, hrun, Result.andThen]
  exact hK' _ _ hK
theorem wpList_update_set {w : World} {ops : Array Oper} {rest : List Oper} {o : Oper} {a : Act} {Q : Exit → Act → World → Prop} (hg : o.guard = none) (m x v : Operand) (t E : TypeId) (hop : o.op = Op.mapUpdate t m x v)
    (ht : Try.prog.underlying t = some (.map 65 E)) (b : Nat) (ks : List Pl) (hm : a.eval m = .map (some b)) (hown : SetOf w b ks) (hk : ∀ k ∈ ks, PlOk w k) (p : Pl) (hp : PlOk w p) (hn : p ∉ ks) (hx : a.eval x = plV p) (hv : a.eval v = .agg #[])
    (hK : ∀ w', SetOf w' b (ks ++ [p]) → w.grownBy w' (some b) → wpList Try.prog ops Q rest (a.put o.dst undef) w') : wpList Try.prog ops Q (o :: rest) a w := by
  refine wpList_plain hg fun K' hK' => ?_
  obtain ⟨w', hrun, r1, r2⟩ := update_set ht hown hk p hp hn
  unfold Oper.wp
  simp [execOp, hop, hm, hx, hv, hrun, Result.andThen]
  exact hK' _ _ (hK w' r1 r2)

set_option maxHeartbeats 1000000 in
set_option maxRecDepth 100000 in
theorem place_any (v : Value) (l : List Nd) (K : Nat → Prop) (w : World) (h : NodesAt w K v l) : Calls Try.prog 33 #[v] w (Ret (plV (plOf v)) w) := by
  obtain ⟨⟨p, c, rfl, hc⟩, hm, hr⟩ := h
  have HB := Lib.hid (below_alloc w (.cells #[.pointer none, .int .i64 0] 65))
  rcases Nat.eq_zero_or_pos l.length with h0 | h0
  · rw [h0]
    have HP : Hid (plV (plOf (.slice p 0 c)) = .agg #[.pointer none, .int .i64 0]) := Lib.hid rfl
    clear hr hm hc h0
    go_enter Try.func33, Try.ntmps33
    go_wp2
    exact bodyPost_ret (v := .agg #[.pointer none, .int .i64 0]) (by simp [results, Try.results33, go_sem]) rfl ⟨by rw [HP.out], HB.out⟩
  · obtain ⟨b, o, d, e, _, _⟩ := hr h0
    obtain ⟨rfl, rfl⟩ : p = some ⟨b, o, none⟩ ∧ c = d := by injection e with a1 a2 a3; exact ⟨a1, a3⟩
    obtain ⟨n, hn⟩ : ∃ n, n = l.length := ⟨_, rfl⟩
    rw [← hn]
    have HP : Hid (plV (plOf (.slice (some ⟨b, o, none⟩) n c)) = .agg #[.pointer (some ⟨b, o, none⟩), .int .i64 (n : Int)]) := Lib.hid (by
      have : plOf (.slice (some ⟨b, o, none⟩) n c) = (some ⟨b, o, none⟩, n) := if_neg (by omega)
      rw [this]; rfl)
    have g0 : ((n : Int) == 0) = false := by rw [beq_eq_false_iff_ne]; omega
    have g1 : (0 : Int) < (n : Int) := by omega
    have HB2 : Hid (Below w.heap.size w (((w.alloc (.cells #[.pointer none, .int .i64 0] 65)).setCell ⟨w.heap.size, 0, none⟩ (.pointer (some ⟨b, o, none⟩))).setCell ⟨w.heap.size, 1, none⟩ (.int .i64 (n : Int)))) := Lib.hid ((HB.out.setCell (p := ⟨w.heap.size, 0, none⟩) (Nat.le_refl _) _).setCell (p := ⟨w.heap.size, 1, none⟩) (Nat.le_refl _) _)
    clear hr hm hc h0 hn e
    go_enter Try.func33, Try.ntmps33
    go_wp2
    exact bodyPost_ret (v := .agg #[.pointer (some ⟨b, o, none⟩), .int .i64 (n : Int)]) (by simp [results, Try.results33, go_sem]) rfl ⟨by rw [HP.out], by first | exact HB2.out | exact below_alloc _ _⟩
end Go.Proofs.Ytimpadooknclkaa
