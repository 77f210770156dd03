/-
  errors.Is at a chain and at a fault of a code: whether the chain's fault has this code; and the program's Has.
-/
import Derived.Test.YthiaeppaaahlgaaGreatDoorChain
set_option linter.unusedVariables false
set_option linter.unusedSimpArgs false
namespace Go.Proofs.YthiaeppaaahlgaaGreatDoor
open Go.RowKit Go.Extern.Stop Go.Stop Go.Extern

/-! ### closed facts: type assertions, method look-ups, and reflectlite's answers at a fault.failure -/
theorem as_ff (v : Value) (w : World) : (Instr.typeAssert (.iface 42 v) 39 42 true).run Tryz.prog w = .ok (.tuple #[v, .bool true]) w := by kernel_rfl
theorem as_ss (v : Value) (w : World) : (Instr.typeAssert (.iface 53 v) 39 53 true).run Tryz.prog w = .ok (.tuple #[v, .bool true]) w := by kernel_rfl
theorem as_fs (v : Value) (w : World) : (Instr.typeAssert (.iface 42 v) 39 53 true).run Tryz.prog w = .ok (.tuple #[.pointer none, .bool false]) w := by kernel_rfl
theorem hasIsF (v : Value) (xT : TypeId) (w : World) : (Instr.typeAssert (.iface 42 v) xT 88 true).run Tryz.prog w = .ok (.tuple #[.iface 42 v, .bool true]) w := run_typeAssert_hasB Tryz.underlying88 (by kernel_rfl) v xT w
theorem noIsS (v : Value) (xT : TypeId) (w : World) : (Instr.typeAssert (.iface 53 v) xT 88 true).run Tryz.prog w = .ok (.tuple #[.nilIface, .bool false]) w := run_typeAssert_lacksB Tryz.underlying88 (by kernel_rfl) (by kernel_rfl) v xT w
theorem noUnF (v : Value) (xT : TypeId) (w : World) : (Instr.typeAssert (.iface 42 v) xT 83 true).run Tryz.prog w = .ok (.tuple #[.nilIface, .bool false]) w := run_typeAssert_lacksB Tryz.underlying83 (by kernel_rfl) (by kernel_rfl) v xT w
theorem noUnsF (v : Value) (xT : TypeId) (w : World) : (Instr.typeAssert (.iface 42 v) xT 85 true).run Tryz.prog w = .ok (.tuple #[.nilIface, .bool false]) w := run_typeAssert_lacksB Tryz.underlying85 (by kernel_rfl) (by kernel_rfl) v xT w
theorem hasUnS (v : Value) (xT : TypeId) (w : World) : (Instr.typeAssert (.iface 53 v) xT 83 true).run Tryz.prog w = .ok (.tuple #[.iface 53 v, .bool true]) w := run_typeAssert_hasB Tryz.underlying83 (by kernel_rfl) v xT w
theorem mUnwrap (v : Value) (w : World) : (Go.method 284 53 v "Unwrap").run Tryz.prog w = .ok (87, v) w := by kernel_rfl
theorem mIs (v : Value) (w : World) : (Go.method 284 42 v "Is").run Tryz.prog w = .ok (85, v) w := by kernel_rfl
theorem mErrF (v : Value) (w : World) : (Go.method 284 42 v "Error").run Tryz.prog w = .ok (84, v) w := by kernel_rfl
theorem mErrS (v : Value) (w : World) : (Go.method 284 53 v "Error").run Tryz.prog w = .ok (86, v) w := by kernel_rfl
theorem tyOf (v : Value) (w : World) : (ReflectliteType.typeOf #[.iface 42 v]).run Tryz.prog w = .ok (.iface 76 (.agg #[.pointer (some ⟨14, 42, none⟩)])) w := by kernel_rfl
def cmpEntry : Array Value → Sem Value := ReflectliteType.method fun t => do Rtype.noPackHeld "Comparable" t; pure (.bool (← typeInfo t).comparable)
theorem comp (w : World) : (cmpEntry #[.agg #[.pointer (some ⟨14, 42, none⟩)]]).run Tryz.prog w = .ok (.bool true) w := by kernel_rfl
theorem mComp (v : Value) (w : World) : (Go.method 284 76 v "Comparable").run Tryz.prog w = .ok (97, v) w := by kernel_rfl
theorem f54 : (Tryz.prog.fieldsOf 42).toList.map (fun f => (f.name, f.type, f.offset)) = [("Fault", 24, 0)] := by kernel_rfl
theorem f24 : (Tryz.prog.fieldsOf 24).toList.map (fun f => (f.name, f.type, f.offset)) = [("Code", 22, 0), ("At", 3, 1)] := by kernel_rfl
theorem u54 : Tryz.prog.underlying 42 = some (.struct (Tryz.prog.fieldsOf 42)) := by kernel_rfl
theorem u24 : Tryz.prog.underlying 24 = some (.struct (Tryz.prog.fieldsOf 24)) := by kernel_rfl
theorem s54 : Tryz.prog.stoodInHeld 42 = false := by kernel_rfl
theorem s24 : Tryz.prog.stoodInHeld 24 = false := by kernel_rfl
theorem p54 (c a : Int) (w : World) : (part 24 #[.int .i64 c, .int .i64 a] 0).run Tryz.prog w = .ok (.agg #[.int .i64 c, .int .i64 a]) w := by kernel_rfl
theorem p22 (c a : Int) (w : World) : (part 22 #[.int .i64 c, .int .i64 a] 0).run Tryz.prog w = .ok (.int .i64 c) w := by kernel_rfl
theorem p3 (c a : Int) (w : World) : (part 3 #[.int .i64 c, .int .i64 a] 1).run Tryz.prog w = .ok (.int .i64 a) w := by kernel_rfl
theorem eqFields_names (d : Nat) (xs ys : Array Value) (fs : List Field) (n : String) (t : TypeId) (o : Nat) (r : List (String × TypeId × Nat)) (h : fs.map (fun f => (f.name, f.type, f.offset)) = (n, t, o) :: r) (hn : n ≠ "_") :
    ∃ fs', fs'.map (fun f : Field => (f.name, f.type, f.offset)) = r ∧ Op.eqFields d xs ys fs = (do let a ← part t xs o; let b ← part t ys o; let q ← Op.equalIn d t a b; if (!q) = true then pure false else Op.eqFields d xs ys fs') := by
  cases fs with
  | nil => cases h
  | cons f fs' =>
    simp only [List.map_cons, List.cons.injEq, Prod.mk.injEq] at h
    obtain ⟨⟨rfl, rfl, rfl⟩, h2⟩ := h
    refine ⟨fs', h2, ?_⟩
    conv => lhs; unfold Op.eqFields
    rw [if_pos hn]
theorem eqin24 (d : Nat) (c a code z : Int) (w : World) : (Op.equalIn (d + 2) 24 (.agg #[.int .i64 c, .int .i64 a]) (.agg #[.int .i64 code, .int .i64 z])).run Tryz.prog w = .ok ((c == code) && (a == z)) w := by
  rw [run_equalIn_agg w (d + 1) 24 _ _ u24 s24]
  obtain ⟨f1, h1, e1⟩ := eqFields_names (d + 1) #[.int .i64 c, .int .i64 a] #[.int .i64 code, .int .i64 z] _ _ _ _ _ f24 (by decide)
  obtain ⟨f2, h2, e2⟩ := eqFields_names (d + 1) #[.int .i64 c, .int .i64 a] #[.int .i64 code, .int .i64 z] _ _ _ _ _ h1 (by decide)
  obtain rfl : f2 = [] := by simpa using h2
  rw [e1]
  simp only [Sem.run_bind, p22, Result.andThen_ok]
  rw [run_equalIn_int w d 22 .i64 .i64 c code Tryz.underlying22]
  cases c == code <;> simp [e2, Op.eqFields, p3, run_equalIn_int w d 3 .i64 .i64 a z Tryz.underlying3]
  by_cases h : a = z <;> simp [h]
theorem eqin54 (d : Nat) (c a code z : Int) (w : World) : (Op.equalIn (d + 3) 42 (.agg #[.int .i64 c, .int .i64 a]) (.agg #[.int .i64 code, .int .i64 z])).run Tryz.prog w = .ok ((c == code) && (a == z)) w := by
  rw [run_equalIn_agg w (d + 2) 42 _ _ u54 s54]
  obtain ⟨f1, h1, e1⟩ := eqFields_names (d + 2) #[.int .i64 c, .int .i64 a] #[.int .i64 code, .int .i64 z] _ _ _ _ _ f54 (by decide)
  obtain rfl : f1 = [] := by simpa using h1
  rw [e1]
  simp only [Sem.run_bind, p54, Result.andThen_ok]
  rw [eqin24]
  cases (c == code && a == z) <;> simp [Op.eqFields]
theorem isC : (Tryz.prog.info? 42).map (·.comparable) = some true := by kernel_rfl
theorem eq_ff (c a code z : Int) (w : World) : (binOp .eql 39 (.iface 42 (.agg #[.int .i64 c, .int .i64 a])) (.iface 42 (.agg #[.int .i64 code, .int .i64 z]))).run Tryz.prog w = .ok (.bool ((c == code) && (a == z))) w := by
  obtain ⟨i, hi, hcmp⟩ := Option.map_eq_some_iff.1 isC
  have h : ∀ d, (Op.equalIn (d + 4) 39 (.iface 42 (.agg #[.int .i64 c, .int .i64 a])) (.iface 42 (.agg #[.int .i64 code, .int .i64 z]))).run Tryz.prog w = .ok ((c == code) && (a == z)) w := by
    intro d
    have h1 : ∀ q, (Op.equalIn (q + 1) 39 (.iface 42 (.agg #[.int .i64 c, .int .i64 a])) (.iface 42 (.agg #[.int .i64 code, .int .i64 z]))).run Tryz.prog w = (Op.equalIn q 42 (.agg #[.int .i64 c, .int .i64 a]) (.agg #[.int .i64 code, .int .i64 z])).run Tryz.prog w := by
      intro q
      conv => lhs; unfold Op.equalIn
      simp [run_underlying Tryz.underlying39, typeInfo, hi, hcmp]
    rw [h1 (d + 3), eqin54]
  simp only [binOp]
  simp [Op.equal, Op.maxDepth, h 9996]

set_option maxHeartbeats 2000000 in
set_option maxRecDepth 100000 in
theorem fail_is (c a code z : Int) (w : World) :
    Calls Tryz.prog 85 #[.agg #[.int .i64 c, .int .i64 a], .iface 42 (.agg #[.int .i64 code, .int .i64 z])] w fun e w' => e = .returned (.bool (code == c)) ∧ Below w.heap.size w w' := by
  have h1 := as_ff
  go_enter Tryz.func85, Tryz.ntmps85
  go_wp2
  all_goals go_ret
  all_goals exact ⟨rfl, ((Below.refl _ _).alloc (Nat.le_refl _) _).alloc (by simp) _⟩

set_option maxHeartbeats 2000000 in
set_option maxRecDepth 100000 in
theorem stage_unwrap (b : Nat) (inner : Value) (w : World) (h : w.cell? ⟨b, 1, none⟩ = some inner) :
    Calls Tryz.prog 87 #[.pointer (some ⟨b, 0, none⟩)] w fun e w' => e = .returned inner ∧ w' = w := by
  go_enter Tryz.func87, Tryz.ntmps87
  go_wp2
  go_ret
  exact ⟨rfl, rfl⟩

theorem eq_sf (x y : Value) (w : World) : (binOp .eql 39 (.iface 53 x) (.iface 42 y)).run Tryz.prog w = .ok (.bool false) w :=
  run_eql_iface_types _ _ _ _ Tryz.underlying39 (by decide) w

theorem eq_n (ty : TypeId) (x : Value) (w : World) : (binOp .eql 39 (.iface ty x) .nilIface).run Tryz.prog w = .ok (.bool false) w := by kernel_rfl
theorem eq_ffB (c a code z : Int) (b : Bool) (h : ((c == code) && (a == z)) = b) (w : World) : (binOp .eql 39 (.iface 42 (.agg #[.int .i64 c, .int .i64 a])) (.iface 42 (.agg #[.int .i64 code, .int .i64 z]))).run Tryz.prog w = .ok (.bool b) w := by
  rw [eq_ff, h]
def IsPost (b : Bool) (w : World) (e : Ending) (w' : World) : Prop := e = .returned (.bool b) ∧ Below w.heap.size w w'

set_option maxHeartbeats 4000000 in
set_option maxRecDepth 100000 in
theorem is_any (c a code : Int) (ns : List ByteArray) (v : Value) (w : World) (hv : ChainAt w c a ns v) :
    Calls Tryz.prog 25 #[v, .iface 42 (.agg #[.int .i64 code, .int .i64 0]), .bool true] w (IsPost (code == c) w) := by
  have HV := Lib.hid hv
  clear hv
  obtain ⟨ty, x, rfl⟩ := HV.out.isIface
  have h1 := hasIsF
  have h2 := noIsS
  have h3 := noUnF
  have h4 := noUnsF
  have h5 := hasUnS
  have h6 := mUnwrap
  have h7 := mIs
  have h10 := eq_n
  have h9 := eq_sf
  go_enter Tryz.func25, Tryz.ntmps25
  go_wp2
  go_loopg [0] ns.length (fun k v wr => ∃ ms : List ByteArray, ms.length = k ∧ ChainAt wr c a ms v ∧ Below w.heap.size w wr)
  case atStart => exact ⟨ns, rfl, HV.out, Below.refl _ _⟩
  case round =>
    obtain ⟨ms, hk, hch, hb⟩ := hrel
    have HK := Lib.hid hk
    have HB := Lib.hid hb
    clear hk hb
    cases ms with
    | nil =>
      have e := hch
      unfold ChainAt at e
      subst e
      clear hch
      by_cases hcc : code = c
      · have HT : Hid ((code == c) = true) := by show _ = _; simp [hcc]
        by_cases ha : a = 0
        · have h8 := eq_ffB c a code 0 true (by simp [hcc, ha])
          clear hcc ha
          go_wp2
          go_ret
          exact ⟨by rw [HT.out]; rfl, HB.out⟩
        · have h8 := eq_ffB c a code 0 false (by simp [ha])
          clear hcc ha
          go_wp2_with (go_at_call 85; refine (fail_is c a code 0 _).mono ?_; rintro e w' ⟨rfl, hb⟩; have HB2 := Lib.hid hb; clear hb; rw [HT.out])
          go_ret
          exact ⟨by rw [HT.out]; rfl, HB.out.trans (HB2.out.mono HB.out.size)⟩
      · have HT : Hid ((code == c) = false) := by show _ = _; simp [hcc]
        have h8 := eq_ffB c a code 0 false (by have hq : ¬ c = code := (fun h => hcc h.symm); simp [hq])
        clear hcc
        go_wp2_with (go_at_call 85; refine (fail_is c a code 0 _).mono ?_; rintro e w' ⟨rfl, hb⟩; have HB2 := Lib.hid hb; clear hb; rw [HT.out])
        go_ret
        exact ⟨by rw [HT.out]; rfl, HB.out.trans (HB2.out.mono HB.out.size)⟩
    | cons n r =>
      obtain ⟨b, inner, e, hc0, hc1, hr⟩ := hch
      subst e
      obtain ⟨ty', x', rfl⟩ := hr.isIface
      have HR := Lib.hid hr
      clear hr
      go_wp2_with (go_at_call 87; refine (stage_unwrap b _ _ hc1).mono ?_; rintro e w' ⟨rfl, rfl⟩)
      go_roundg r.length
      case measure => have := HK.out; simp at this; omega
      case rel => exact ⟨r, rfl, HR.out, HB.out⟩

theorem eq_nr (ty : TypeId) (x : Value) (w : World) : (binOp .eql 39 (.iface ty x) .nilIface).run Tryz.prog w = .ok (.bool false) w := eq_n ty x w

set_option maxHeartbeats 4000000 in
set_option maxRecDepth 100000 in
theorem errIs_any (c a code : Int) (ns : List ByteArray) (v : Value) (w : World) (hv : ChainAt w c a ns v) :
    Calls Tryz.prog 15 #[v, .iface 42 (.agg #[.int .i64 code, .int .i64 0])] w (IsPost (code == c) w) := by
  have HV := Lib.hid hv
  clear hv
  obtain ⟨ty, x, rfl⟩ := HV.out.isIface
  have g1 := @run_callFunc_extern Tryz.prog 24 _ ReflectliteType.typeOf Tryz.func24 (by kernel_rfl) (by kernel_rfl) (by kernel_rfl) (by kernel_rfl)
  have g2 := @run_callFunc_extern Tryz.prog 97 _ cmpEntry Tryz.func97 (by kernel_rfl) (by kernel_rfl) (by kernel_rfl) (by kernel_rfl)
  have h1 := tyOf
  have h2 := comp
  have h3 := mComp
  have h10 := eq_n
  go_enter Tryz.func15, Tryz.ntmps15
  go_wp2_with (go_at_call 25; refine (is_any c a code ns _ _ HV.out).mono ?_; rintro e w' ⟨rfl, hb⟩; have HB := Lib.hid hb; clear hb)
  go_ret
  exact ⟨rfl, HB.out⟩

set_option maxHeartbeats 4000000 in
set_option maxRecDepth 100000 in
/-- Has: whatever the stages, it tells whether the fault's code is this one. -/
theorem has_any (c a code : Int) (ns : List ByteArray) (v : Value) (w : World) (hv : StrsAt w v ns) :
    Calls Tryz.prog 8 #[.agg #[.int .i64 c, .int .i64 a], v, .int .i64 code] w (IsPost (code == c) w) := by
  have HV := Lib.hid hv
  have hb0 : Hid (Below w.heap.size w (w.alloc (.cells #[.int .i64 c, .int .i64 a] 24))) := (Below.refl _ _).alloc (Nat.le_refl _) _
  clear hv
  go_enter Tryz.func8, Tryz.ntmps8
  go_wp2_with (first | (go_at_call 12; refine (wrap_any c a v ns _ (HV.out.mono hb0.out)).mono ?_; rintro e w1 ⟨v1, rfl, hch, hb⟩; have HC := Lib.hid hch; have HB := Lib.hid hb; clear hb hch) | (go_at_call 15; refine (errIs_any c a code ns _ _ HC.out).mono ?_; rintro e w2 ⟨rfl, hb⟩; have HB2 := Lib.hid hb; clear hb))
  go_ret
  exact ⟨rfl, (hb0.out.trans (HB.out.mono (by simp))).trans (HB2.out.mono (Nat.le_trans (by simp) HB.out.size))⟩
end Go.Proofs.YthiaeppaaahlgaaGreatDoor
