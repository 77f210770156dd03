/-
  The reference's May: whether a table may be.
-/
import Derived.Test.YtmehldekebphfaaGreatDoorBase
import Derived.Test.YtmehldekebphfaaGreatDoorRefFind7
import Derived.Test.YtmehldekebphfaaGreatDoorArith
import Derived.Deep.RegionLaw
import Derived.Deep.RegionHeld3
import Derived.Deep.DeepCutAuto
set_option linter.unusedVariables false
set_option linter.unusedSimpArgs false
namespace Go.Proofs.YtmehldekebphfaaGreatDoor
open Go.RowKit

/-- 'string(b)' of bytes that have just been laid -/
theorem conv_bytes (w : World) (cap n : Nat) (l : List UInt8) (hn : n = l.length) (vs : Array Value) (h : vs = (l.map fun b => Value.int .u8 (b.toNat : Int)).toArray) :
    (convert 82 9 (.slice (some ⟨w.heap.size, 0, none⟩) n cap)).run Tryz.prog (w.alloc (.cells vs 5)) = .ok (.string ⟨l.toArray⟩) (w.alloc (.cells vs 5)) := by
  subst hn
  refine run_convert_bytes_back (P := Tryz.prog) _ 82 9 5 ⟨w.heap.size, 0, none⟩ cap l Tryz.underlying82 Tryz.underlying5 Tryz.underlying9 (fun j hj => ?_)
  have e : (⟨w.heap.size, 0, none⟩ : Addr).add j = ⟨w.heap.size, j, none⟩ := by unfold Addr.add; split <;> simp_all
  rw [e, World.cell?_alloc_mark, h]
  simp [hj]
end Go.Proofs.YtmehldekebphfaaGreatDoor

namespace Go.Proofs.YtmehldekebphfaaGreatDoor
open Go.RowKit

set_option maxHeartbeats 1000000 in
set_option maxRecDepth 100000 in
theorem refLetter_any (c : Int) (w : World) : Calls Tryz.prog 57 #[.int .i32 c] w (Is (.bool (Ut.letter c)) w) := by
  have hl : Hid (Ut.letter c = decide (0 ≤ c ∧ c ≤ 1114111 ∧ (c < 55296 ∨ 57343 < c))) := rfl
  by_cases h0 : 0 ≤ c
  · by_cases h1 : c ≤ 1114111
    · by_cases h2 : c < 55296
      · go_enter Tryz.func57, Tryz.ntmps57
        go_wp2
        all_goals go_ret
        all_goals exact ⟨ret_bool (by rw [hl.out]; first | exact (decide_eq_true (by omega)).symm | (rw [Bool.eq_iff_iff]; simp; omega)), rfl⟩
      · by_cases h3 : 57343 < c
        all_goals
          go_enter Tryz.func57, Tryz.ntmps57
          go_wp2
          all_goals go_ret
          all_goals exact ⟨ret_bool (by rw [hl.out, Bool.eq_iff_iff]; simp; omega), rfl⟩
    · go_enter Tryz.func57, Tryz.ntmps57
      go_wp2
      all_goals go_ret
      all_goals exact ⟨ret_bool (by rw [hl.out, Bool.eq_iff_iff]; simp; omega), rfl⟩
  · go_enter Tryz.func57, Tryz.ntmps57
    go_wp2
    all_goals go_ret
    all_goals exact ⟨ret_bool (by rw [hl.out, Bool.eq_iff_iff]; simp; omega), rfl⟩

theorem enc1 {n : Nat} (h : n < 128) : Ut.enc n = [Ut.b8 n] := by unfold Ut.enc; rw [if_pos h]
theorem enc2 {n : Nat} (h0 : 128 ≤ n) (h : n < 2048) : Ut.enc n = [Ut.b8 (192 + n / 64), Ut.b8 (128 + n % 64)] := by unfold Ut.enc; rw [if_neg (by omega), if_pos h]
theorem enc3 {n : Nat} (h0 : 2048 ≤ n) (h : n < 65536) : Ut.enc n = [Ut.b8 (224 + n / 4096), Ut.b8 (128 + n / 64 % 64), Ut.b8 (128 + n % 64)] := by unfold Ut.enc; rw [if_neg (by omega), if_neg (by omega), if_pos h]
theorem enc4 {n : Nat} (h0 : 65536 ≤ n) : Ut.enc n = [Ut.b8 (240 + n / 262144), Ut.b8 (128 + n / 4096 % 64), Ut.b8 (128 + n / 64 % 64), Ut.b8 (128 + n % 64)] := by unfold Ut.enc; rw [if_neg (by omega), if_neg (by omega), if_neg (by omega)]
theorem b8_int {n : Nat} (h : n < 256) {x : Int} (e : x = (n : Int)) : Value.int .u8 x = Value.int .u8 ((Ut.b8 n).toNat : Int) := by rw [Ut.b8_nat h, e]

end Go.Proofs.YtmehldekebphfaaGreatDoor

namespace Go.Proofs.YtmehldekebphfaaGreatDoor
open Go.RowKit

set_option maxHeartbeats 4000000 in
theorem amount_any (n : Int) (w : World) : Calls Tryz.prog 55 #[.int .i64 n] w (Is (.bool (Mt.amount n)) w) := by
  have HF := Lib.hid (fun w => refFits_any n _ rfl w)
  unfold Mt.amount
  generalize Sc.fits n = f at HF ⊢
  by_cases h : 0 ≤ n
  · rw [decide_eq_true h]
    go_enter Tryz.func55, Tryz.ntmps55
    go_wp2_with fail
    refine (HF.out _).mono ?_
    rintro e w1 ⟨rfl, rfl⟩
    go_wp2
    go_ret
    exact ⟨rfl, rfl⟩
  · rw [decide_eq_false h]
    go_enter Tryz.func55, Tryz.ntmps55
    go_wp2
    go_ret
    exact ⟨rfl, rfl⟩
set_option maxHeartbeats 4000000 in
theorem rises_any (a b c d : Int) (w : World) : Calls Tryz.prog 59 #[.int .i32 a, .int .i32 b, .int .i32 c, .int .i32 d] w (Is (.bool (Mt.rises a b c d)) w) := by
  have hR : Mt.rises a b c d = (decide (a < c) || (a == c && decide (b < d))) := rfl
  rw [hR]
  by_cases h1 : a < c
  · rw [decide_eq_true h1]
    go_enter Tryz.func59, Tryz.ntmps59
    go_wp2
    go_ret
    exact ⟨rfl, rfl⟩
  · rw [decide_eq_false h1]
    by_cases h2 : a = c
    · have q : (a == c) = true := beq_iff_eq.2 h2
      rw [q]
      go_enter Tryz.func59, Tryz.ntmps59
      go_wp2
      go_ret
      exact ⟨by simp, rfl⟩
    · have q : (a == c) = false := beq_eq_false_iff_ne.2 h2
      rw [q]
      go_enter Tryz.func59, Tryz.ntmps59
      go_wp2
      go_ret
      exact ⟨by simp, rfl⟩

theorem quiet_is {f : FuncId} {args : Array Value} {v : Value} (h : ∀ w, Calls Tryz.prog f args w (Is v w)) : ∀ (w : World) (n : Nat), Calls Tryz.prog f args (w.drewN n) fun e w'' => e = .returned v ∧ ∃ m, w'' = w.drewN m := fun w n => Calls.quiet_of_same ((h _).mono fun _ _ h => ⟨h.1, h.2.symm⟩)
/-! ### a list's first part -/
def preOk {α : Type} (ok : α → Bool) (r : α → α → Bool) (l : List α) (k : Nat) : Bool := (l.take k).all ok && Mt.up r (l.take k)
theorem up_snoc {α : Type} (r : α → α → Bool) : ∀ (l : List α) (y x : α), Mt.up r (l ++ [y, x]) = (Mt.up r (l ++ [y]) && r y x)
  | [], y, x => by simp [Mt.up]
  | [z], y, x => by simp [Mt.up]
  | z :: t :: l, y, x => by
    have := up_snoc r (t :: l) y x
    simp only [List.cons_append, Mt.up] at this ⊢
    rw [this, Bool.and_assoc]
theorem preOk_zero {α : Type} (ok : α → Bool) (r : α → α → Bool) (l : List α) : preOk ok r l 0 = true := by simp [preOk, Mt.up]
theorem preOk_one {α : Type} (ok : α → Bool) (r : α → α → Bool) {l : List α} {x : α} (h : l[0]? = some x) : preOk ok r l 1 = ok x := by
  cases l with
  | nil => simp at h
  | cons y t => simp at h; subst h; simp [preOk, Mt.up]
theorem preOk_step {α : Type} (ok : α → Bool) (r : α → α → Bool) {l : List α} {k : Nat} {y x : α} (hy : l[k]? = some y) (hx : l[k + 1]? = some x) : preOk ok r l (k + 2) = (preOk ok r l (k + 1) && (ok x && r y x)) := by
  unfold preOk
  rw [List.take_add_one (i := k + 1), hx]
  rw [List.take_add_one (i := k), hy]
  simp only [Option.toList_some, List.append_assoc, List.singleton_append]
  rw [up_snoc]
  simp only [List.all_append, List.all_cons, List.all_nil, Bool.and_true]
  cases (List.take k l).all ok <;> cases ok y <;> cases ok x <;> cases Mt.up r (List.take k l ++ [y]) <;> cases r y x <;> rfl
theorem preOk_end {α : Type} (ok : α → Bool) (r : α → α → Bool) {l : List α} {k : Nat} (h : l.length ≤ k) : preOk ok r l k = (l.all ok && Mt.up r l) := by
  unfold preOk
  rw [List.take_of_length_le h]

theorem undrew7m {w w' : World} (h : Below w.drew.heap.size w.drew w') : Below w.heap.size w w' := ⟨h.os, h.tape, h.output, h.size, h.block⟩
theorem cells13 {w w' : World} (hb : Below w.heap.size w w') {a0 a1 a2 a3 a4 a5 a6 a7 a8 a9 aa ab ac : Addr} {v0 v1 v2 v3 v4 v5 v6 v7 v8 v9 va vb vc : Value}
    (h : w.cell? a0 = some v0 ∧ w.cell? a1 = some v1 ∧ w.cell? a2 = some v2 ∧ w.cell? a3 = some v3 ∧ w.cell? a4 = some v4 ∧ w.cell? a5 = some v5 ∧ w.cell? a6 = some v6 ∧ w.cell? a7 = some v7 ∧ w.cell? a8 = some v8 ∧ w.cell? a9 = some v9 ∧ w.cell? aa = some va ∧ w.cell? ab = some vb ∧ w.cell? ac = some vc) :
    w'.cell? a0 = some v0 ∧ w'.cell? a1 = some v1 ∧ w'.cell? a2 = some v2 ∧ w'.cell? a3 = some v3 ∧ w'.cell? a4 = some v4 ∧ w'.cell? a5 = some v5 ∧ w'.cell? a6 = some v6 ∧ w'.cell? a7 = some v7 ∧ w'.cell? a8 = some v8 ∧ w'.cell? a9 = some v9 ∧ w'.cell? aa = some va ∧ w'.cell? ab = some vb ∧ w'.cell? ac = some vc := by
  have k : ∀ {a : Addr} {v : Value}, w.cell? a = some v → w'.cell? a = some v := fun {a v} h => by
    have hl : a.block < w.heap.size := by
      unfold World.cell? at h
      cases hh : w.heap[a.block]? with
      | none => rw [hh] at h; cases h
      | some o => exact (Array.getElem?_eq_some_iff.1 hh).1
    have hc : w'.cell? a = w.cell? a := by
      unfold World.cell?
      rw [hb.block _ hl]
    rw [hc]
    exact h
  obtain ⟨h0, h1, h2, h3, h4, h5, h6, h7, h8, h9, ha, hb', hc'⟩ := h
  exact ⟨k h0, k h1, k h2, k h3, k h4, k h5, k h6, k h7, k h8, k h9, k ha, k hb', k hc'⟩
theorem take_g {P : Program} {md : Region.Mode} {ops : Array Oper} {Q : Exit → Act → World → Prop} {S : World → Prop} {i : Nat} {d : Tmp} {op : Op} {ty : TypeId} {v : Value} {g : Option (Nat × Bool)} {fuel : Nat} {listed : Array Bool} {a : Act} {w : World}
    (hi : (ops[i]?).map (fun o => (o.dst, o.op, o.type)) = some (some d, op, ty)) (hg : (ops[i]?).map (fun o => o.guard) = some g)
    (hw : Region.wanted { dst := some d, op := op, type := ty, pos := "", after := #[], guard := g } (yielded ops a.tmps) = true)
    (hs : Region.noSelect ops = true) (hf : Region.free md ops listed i = true) (hr : (Region.ready md ops listed).contains i = true)
    (hQ : ∀ c a w, Q (.panic c) (a.put (some d) v) w → Q (.panic c) a w)
    (hy : ∀ w, S w → (execOp a.eval { dst := some d, op := op, type := ty, pos := "", after := #[], guard := none }).run P w = .ok (.value v) w) (hS : S w)
    (h : wpAnyH P md ops Q S fuel (listed.setIfInBounds i true) (a.put (some d) v) w) : wpAnyH P md ops Q S (fuel + 1) listed a w := by
  cases ho : ops[i]? with
  | none => rw [ho] at hi; cases hi
  | some o =>
    rw [ho] at hi hg
    obtain ⟨dst, op', ty', pos, aft, gd⟩ := o
    simp only [Option.map_some, Option.some.injEq, Prod.mk.injEq] at hi hg
    obtain ⟨rfl, rfl, rfl⟩ := hi
    subst hg
    exact wpAnyH_take ho hs hf hr hQ (.inl ⟨hw, hy⟩) hS h
/-- an operation that is not wanted -/
theorem skip_g {P : Program} {md : Region.Mode} {ops : Array Oper} {Q : Exit → Act → World → Prop} {S : World → Prop} {i : Nat} {d : Tmp} {g : Nat × Bool} {fuel : Nat} {listed : Array Bool} {a : Act} {w : World}
    (hi : (ops[i]?).map (fun o => o.dst) = some (some d)) (hg : (ops[i]?).map (fun o => o.guard) = some (some g))
    (hw : Region.wanted { dst := some d, op := .move (.tmp 0), type := 0, pos := "", after := #[], guard := some g } (yielded ops a.tmps) = false)
    (hs : Region.noSelect ops = true) (hf : Region.free md ops listed i = true) (hr : (Region.ready md ops listed).contains i = true)
    (hQ : ∀ c a w, Q (.panic c) (a.put (some d) undef) w → Q (.panic c) a w) (hS : S w)
    (h : wpAnyH P md ops Q S fuel (listed.setIfInBounds i true) (a.put (some d) undef) w) : wpAnyH P md ops Q S (fuel + 1) listed a w := by
  cases ho : ops[i]? with
  | none => rw [ho] at hi; cases hi
  | some o =>
    rw [ho] at hi hg
    obtain ⟨dst, op', ty', pos, aft, gd⟩ := o
    simp only [Option.map_some, Option.some.injEq] at hi hg
    subst hi
    subst hg
    exact wpAnyH_take ho hs hf hr hQ (.inr ⟨hw, rfl⟩) hS h
theorem drew13 {w : World} {P : World → Prop} (h : P w.drew) : P w.drew := h

set_option maxHeartbeats 16000000 in
set_option maxRecDepth 100000 in
theorem refMay_any (v : Value) (m : Mt.Tab) (w : World) (h : MetAt w v m) : Calls Tryz.prog 27 #[v] w (Ret (.bool (Mt.may m)) w) := by
  have hmet := h
  obtain ⟨cv, kv, lv, rfl, a1, b1, c1⟩ := hmet
  obtain ⟨⟨pc, cc, rfl, _⟩, ma, _⟩ := (⟨a1.1, a1.2⟩ : SlcAt chC 4 w cv m.chars)
  obtain ⟨⟨pk, ck, rfl, _⟩, mb, _⟩ := (⟨b1.1, b1.2⟩ : SlcAt knC 3 w kv m.kerns)
  obtain ⟨⟨pl, cl, rfl, _⟩, mc, _⟩ := (⟨c1.1, c1.2⟩ : SlcAt lgC 3 w lv m.ligs)
  unfold metV at h ⊢
  have hza : m.chars.length ≤ 9223372036854775807 := by unfold maxLen at ma; omega
  have hzb : m.kerns.length ≤ 9223372036854775807 := by unfold maxLen at mb; omega
  have hzc : m.ligs.length ≤ 9223372036854775807 := by unfold maxLen at mc; omega
  obtain ⟨na, hna⟩ : ∃ n, n = m.chars.length := ⟨_, rfl⟩
  obtain ⟨nb, hnb⟩ : ∃ n, n = m.kerns.length := ⟨_, rfl⟩
  obtain ⟨nc, hnc⟩ : ∃ n, n = m.ligs.length := ⟨_, rfl⟩
  obtain ⟨sw, hsw⟩ : ∃ n, n = m.sw := ⟨_, rfl⟩
  obtain ⟨st, hst⟩ : ∃ n, n = m.st := ⟨_, rfl⟩
  obtain ⟨sk, hsk⟩ : ∃ n, n = m.sk := ⟨_, rfl⟩
  obtain ⟨so, hso⟩ : ∃ n, n = m.order := ⟨_, rfl⟩
  obtain ⟨hy, hhy⟩ : ∃ n, n = m.hyph := ⟨_, rfl⟩
  have HMay : Hid (Mt.may m = (decide (na ≤ 256 ∧ nb ≤ 1000 ∧ nc ≤ 1000 ∧ so = 0) && (Mt.amount sw && Mt.amount st && Mt.amount sk && Mt.has m hy) && (m.chars.all Mt.chOk && Mt.up (fun a b => decide (a.code < b.code)) m.chars) && (m.kerns.all (Mt.knOk m) && Mt.up (fun a b => Mt.rises a.a a.b b.a b.b) m.kerns) && (m.ligs.all (Mt.lgOk m) && Mt.up (fun a b => Mt.rises a.a a.b b.a b.b) m.ligs))) := Lib.hid (by rw [hna, hnb, hnc, hsw, hst, hsk, hso, hhy]; rfl)
  have Hna := Lib.hid hna
  have Hnb := Lib.hid hnb
  have Hnc := Lib.hid hnc
  rw [← hna, ← hnb, ← hnc, ← hsw, ← hst, ← hsk, ← hso, ← hhy] at h ⊢
  rw [← hna] at hza
  rw [← hnb] at hzb
  rw [← hnc] at hzc
  have HA := Lib.hid a1
  have HK := Lib.hid b1
  have HG := Lib.hid c1
  have HM := Lib.hid (h.mono (below_alloc w (.cells #[.int .i64 sw, .int .i64 st, .int .i64 sk, .int .i64 so, .int .i32 hy, .slice pc na cc, .slice pk nb ck, .slice pl nc cl] 28)))
  have HL := Lib.hid (laid_one w #[.int .i64 sw, .int .i64 st, .int .i64 sk, .int .i64 so, .int .i32 hy, .slice pc na cc, .slice pk nb ck, .slice pl nc cl] 28)
  have HB := Lib.hid (below_alloc w (.cells #[.int .i64 sw, .int .i64 st, .int .i64 sk, .int .i64 so, .int .i32 hy, .slice pc na cc, .slice pk nb ck, .slice pl nc cl] 28))
  have HHas := Lib.hid (fun (c : Int) (v : Value) (w : World) (h : MetAt w v m) => refHas_any v m c w h)
  clear h ma mb mc a1 b1 c1 hna hnb hnc hsw hst hsk hso hhy
  by_cases hz : na ≤ 256 ∧ nb ≤ 1000 ∧ nc ≤ 1000 ∧ so = 0
  · obtain ⟨z1, z2, z3, rfl⟩ := hz
    have HMay2 : Hid (Mt.may m = ((Mt.amount sw && Mt.amount st && Mt.amount sk && Mt.has m hy) && (m.chars.all Mt.chOk && Mt.up (fun a b => decide (a.code < b.code)) m.chars) && (m.kerns.all (Mt.knOk m) && Mt.up (fun a b => Mt.rises a.a a.b b.a b.b) m.kerns) && (m.ligs.all (Mt.lgOk m) && Mt.up (fun a b => Mt.rises a.a a.b b.a b.b) m.ligs))) := Lib.hid (by rw [HMay.out, decide_eq_true ⟨z1, z2, z3, rfl⟩, Bool.true_and])
    have g1 : ¬ ((256 : Int) < (na : Int)) := by omega
    have g2 : ¬ ((1000 : Int) < (nb : Int)) := by omega
    have g3 : ¬ ((1000 : Int) < (nc : Int)) := by omega
    clear HMay
    generalize Mt.may m = R at HMay2 ⊢
    go_enter Tryz.func27, Tryz.ntmps27
    go_upto_region 3 with fail
    obtain ⟨W1, hW1⟩ : ∃ W1, W1 = w.alloc (.cells #[.int .i64 sw, .int .i64 st, .int .i64 sk, .int .i64 0, .int .i32 hy, .slice pc na cc, .slice pk nb ck, .slice pl nc cl] 28) := ⟨_, rfl⟩
    rw [← hW1] at HM HL HB ⊢
    clear hW1
    have y0 := HL.out.at_ 0 _ rfl
    have y1 := HL.out.at_ 1 _ rfl
    have y2 := HL.out.at_ 2 _ rfl
    have y3 := HL.out.at_ 3 _ rfl
    have y4 := HL.out.at_ 4 _ rfl
    have y5 := HL.out.at_ 5 _ rfl
    have y6 := HL.out.at_ 6 _ rfl
    have y7 := HL.out.at_ 7 _ rfl
    have HA1 := Lib.hid (fun w => amount_any sw w)
    have HA2 := Lib.hid (fun w => amount_any st w)
    have HA3 := Lib.hid (fun w => amount_any sk w)
    have HA4 := Lib.hid (HHas.out hy _ _ HM.out)
    generalize Mt.amount sw = A1 at HA1 HMay2
    generalize Mt.amount st = A2 at HA2 HMay2
    generalize Mt.amount sk = A3 at HA3 HMay2
    generalize Mt.has m hy = A4 at HA4 HMay2
    go_cut [3] (fun ov wx => ov = .bool (A1 && A2 && A3 && A4) ∧ Hid (Below W1.heap.size W1 wx))
    case first =>
      cases A1 with
      | false =>
        go_wp2_with (go_at_call 55; refine (HA1.out _).mono ?_; rintro e w' ⟨rfl, rfl⟩)
        go_meet
        exact ⟨rfl, Lib.hid (Below.refl _ _)⟩
      | true =>
        cases A2 with
        | false =>
          go_wp2_with (go_at_call 55; (first | with_reducible refine (HA1.out _).mono ?_ | with_reducible refine (HA2.out _).mono ?_); rintro e w' ⟨rfl, rfl⟩)
          go_meet
          exact ⟨rfl, Lib.hid (Below.refl _ _)⟩
        | true =>
          cases A3 with
          | false =>
            go_wp2_with (go_at_call 55; (first | with_reducible refine (HA1.out _).mono ?_ | with_reducible refine (HA2.out _).mono ?_ | with_reducible refine (HA3.out _).mono ?_); rintro e w' ⟨rfl, rfl⟩)
            go_meet
            exact ⟨rfl, Lib.hid (Below.refl _ _)⟩
          | true =>
            go_wp2_with (go_at_call 55; (first | with_reducible refine (HA1.out _).mono ?_ | with_reducible refine (HA2.out _).mono ?_ | with_reducible refine (HA3.out _).mono ?_); rintro e w' ⟨rfl, rfl⟩)
            refine HA4.out.mono ?_
            rintro e w1 ⟨rfl, hb1⟩
            go_wp2_with fail
            go_meet
            exact ⟨by simp, Lib.hid hb1⟩
    case rest =>
      obtain ⟨rfl, HBc⟩ := hcut
      have HLc := Lib.hid (HL.out.mono HBc.out)
      have HMc := Lib.hid (HM.out.mono HBc.out)
      have HBt := Lib.hid (below_step HB.out HBc.out)
      clear y0 y1 y2 y3 y4 y5 y6 y7 HA1 HA2 HA3 HA4 HBc HL HM HB
      generalize (A1 && A2 && A3 && A4) = B0 at HMay2 ⊢
      go_wp2_with fail
      go_loopw [3, 4] (fun ov iv wr => ∃ k : Nat, k ≤ na ∧ iv = .int .i64 k ∧ ov = .bool (B0 && preOk Mt.chOk (fun a b => decide (a.code < b.code)) m.chars k) ∧ Hid (Below wc.heap.size wc wr)) (fun _ iv _ => na - (intOf iv).toNat)
      case atStart => exact ⟨0, Nat.zero_le _, rfl, by rw [preOk_zero, Bool.and_true], Lib.hid (Below.refl _ _)⟩
      case round =>
        obtain ⟨k, hk, rfl, rfl, HBr⟩ := hrel
        have HLr := Lib.hid (HLc.out.mono HBr.out)
        have HMr := Lib.hid (HMc.out.mono HBr.out)
        have HBw := Lib.hid (below_step HBt.out HBr.out)
        have y5 := HLr.out.at_ 5 _ rfl
        by_cases hlt : k < na
        · as_aux_lemma =>
            obtain ⟨b1, o1, d1, e1, r1⟩ := HA.out.2.2 (by rw [← Hna.out]; omega)
            obtain ⟨rfl, rfl⟩ : pc = some ⟨b1, o1, none⟩ ∧ cc = d1 := by injection e1 with a1 a2 a3; exact ⟨a1, a3⟩
            obtain ⟨c, hc⟩ : ∃ c, m.chars[k]? = some c := ⟨_, List.getElem?_eq_getElem (by rw [← Hna.out]; exact hlt)⟩
            have HR := Lib.hid ((r1 k c hc).mono HBw.out)
            have HRp := Lib.hid (fun j x (hx : m.chars[j]? = some x) => (r1 j x hx).mono HBw.out)
            have Hc := Lib.hid hc
            have k0 : (0 : Int) ≤ (k : Int) := by omega
            have kl : (k : Int) < (na : Int) := by omega
            clear r1 e1 hc
            obtain ⟨z0, z1, z2, z3⟩ := ch_cells HR.out
            have HQ0 := Lib.hid (quiet_is fun w => refLetter_any c.code w)
            have HQ1 := Lib.hid (quiet_is fun w => amount_any c.w w)
            have HQ2 := Lib.hid (quiet_is fun w => amount_any c.h w)
            have HQ3 := Lib.hid (quiet_is fun w => amount_any c.d w)
            have HOk : Hid (Mt.chOk c = (Ut.letter c.code && Mt.amount c.w && Mt.amount c.h && Mt.amount c.d)) := Lib.hid rfl
            generalize Ut.letter c.code = q0 at HQ0 HOk
            generalize Mt.amount c.w = q1 at HQ1 HOk
            generalize Mt.amount c.h = q2 at HQ2 HOk
            generalize Mt.amount c.d = q3 at HQ3 HOk
            obtain ⟨T, hT, hTk⟩ : ∃ T, preOk Mt.chOk (fun a b => decide (a.code < b.code)) m.chars (k + 1) = (preOk Mt.chOk (fun a b => decide (a.code < b.code)) m.chars k && Mt.chOk c && T) ∧ ((k = 0 ∧ T = true) ∨ ∃ j, k = j + 1 ∧ ∃ y, wr.cell? ⟨b1, o1 + j * 4, none⟩ = some (.int .i32 y) ∧ T = decide (y < c.code)) := by
              cases k with
              | zero => exact ⟨true, by rw [preOk_one _ _ Hc.out, preOk_zero]; simp, .inl ⟨rfl, rfl⟩⟩
              | succ j =>
                obtain ⟨y, hy⟩ : ∃ y, m.chars[j]? = some y := ⟨_, List.getElem?_eq_getElem (by rw [← Hna.out]; omega)⟩
                refine ⟨_, by rw [preOk_step _ _ hy Hc.out, Bool.and_assoc], .inr ⟨j, rfl, y.code, ?_, rfl⟩⟩
                exact (ch_cells (HRp.out j y hy)).1
            rw [HOk.out] at hT
            have HN := Lib.hid hT
            clear hT HOk HRp HR
            generalize hP1 : preOk Mt.chOk (fun a b => decide (a.code < b.code)) m.chars (k + 1) = P1 at HN
            have HP1 := Lib.hid hP1
            clear hP1
            generalize preOk Mt.chOk (fun a b => decide (a.code < b.code)) m.chars k = P0 at HN ⊢
            have HTk := Lib.hid hTk
            clear hTk
            go_upto_region 8 with fail
            have HNN : Hid ((B0 && P1) = ((B0 && P0) && (q0 && q1 && q2 && q3) && T)) := Lib.hid (by rw [HN.out]; cases B0 <;> rfl)
            clear HN
            generalize (B0 && P0) = b0 at HNN ⊢
            cases b0 with
            | false =>
              go_quiet ((first | (go_at_call 57; with_reducible exact HQ0.out _ _) | (go_at_call 55; first | with_reducible exact HQ1.out _ _ | with_reducible exact HQ2.out _ _ | with_reducible exact HQ3.out _ _)))
              go_wp2
              go_roundw
              case rel => exact ⟨k + 1, by omega, by go_num, by rw [HP1.out, HNN.out]; simp, Lib.hid (below_step HBr.out (below_step (below_alloc _ _) (below_drew _ _)))⟩
              case measure => simp [intOf]; omega
            | true =>
              cases q0 with
              | false =>
                go_quiet ((first | (go_at_call 57; with_reducible exact HQ0.out _ _) | (go_at_call 55; first | with_reducible exact HQ1.out _ _ | with_reducible exact HQ2.out _ _ | with_reducible exact HQ3.out _ _)))
                go_wp2
                go_roundw
                case rel => exact ⟨k + 1, by omega, by go_num, by rw [HP1.out, HNN.out]; simp, Lib.hid (below_step HBr.out (below_step (below_alloc _ _) (below_drew _ _)))⟩
                case measure => simp [intOf]; omega
              | true =>
                cases q1 with
                | false =>
                  go_quiet ((first | (go_at_call 57; with_reducible exact HQ0.out _ _) | (go_at_call 55; first | with_reducible exact HQ1.out _ _ | with_reducible exact HQ2.out _ _ | with_reducible exact HQ3.out _ _)))
                  go_wp2
                  go_roundw
                  case rel => exact ⟨k + 1, by omega, by go_num, by rw [HP1.out, HNN.out]; simp, Lib.hid (below_step HBr.out (below_step (below_alloc _ _) (below_drew _ _)))⟩
                  case measure => simp [intOf]; omega
                | true =>
                  cases q2 with
                  | false =>
                    go_quiet ((first | (go_at_call 57; with_reducible exact HQ0.out _ _) | (go_at_call 55; first | with_reducible exact HQ1.out _ _ | with_reducible exact HQ2.out _ _ | with_reducible exact HQ3.out _ _)))
                    go_wp2
                    go_roundw
                    case rel => exact ⟨k + 1, by omega, by go_num, by rw [HP1.out, HNN.out]; simp, Lib.hid (below_step HBr.out (below_step (below_alloc _ _) (below_drew _ _)))⟩
                    case measure => simp [intOf]; omega
                  | true =>
                    cases q3 with
                    | false =>
                      go_quiet ((first | (go_at_call 57; with_reducible exact HQ0.out _ _) | (go_at_call 55; first | with_reducible exact HQ1.out _ _ | with_reducible exact HQ2.out _ _ | with_reducible exact HQ3.out _ _)))
                      go_wp2
                      go_roundw
                      case rel => exact ⟨k + 1, by omega, by go_num, by rw [HP1.out, HNN.out]; simp, Lib.hid (below_step HBr.out (below_step (below_alloc _ _) (below_drew _ _)))⟩
                      case measure => simp [intOf]; omega
                    | true =>
                      rcases HTk.out with ⟨rfl, rfl⟩ | ⟨j, hkj, y, hy, rfl⟩
                      · go_quiet ((first | (go_at_call 57; with_reducible exact HQ0.out _ _) | (go_at_call 55; first | with_reducible exact HQ1.out _ _ | with_reducible exact HQ2.out _ _ | with_reducible exact HQ3.out _ _)))
                        go_wp2
                        go_roundw
                        case rel => exact ⟨0 + 1, by omega, by go_num, by rw [HP1.out, HNN.out]; simp, Lib.hid (below_step HBr.out (below_step (below_alloc _ _) (below_drew _ _)))⟩
                        case measure => simp [intOf]; omega
                      · have j0 : (k : Int) ≠ 0 := by omega
                        have j1 : ((k : Int) == 0) = false := beq_eq_false_iff_ne.2 j0
                        have j2 : IntKind.i64.wrap ((k : Int) - 1) = (j : Int) := by rw [show (k : Int) - 1 = (j : Int) by omega]; exact IntWalk.i64_in _ (by omega)
                        have j3 : (0 : Int) ≤ (j : Int) := by omega
                        have j4 : (j : Int) < (na : Int) := by omega
                        have hy5 := cell_below (below_alloc wr (.cells #[.int .i32 c.code, .int .i64 c.w, .int .i64 c.h, .int .i64 c.d] 38)) y5
                        have hyb := cell_below (below_alloc wr (.cells #[.int .i32 c.code, .int .i64 c.w, .int .i64 c.h, .int .i64 c.d] 38)) hy
                        clear hy hkj
                        by_cases hlt2 : y < c.code
                        · have j5 : decide (y < c.code) = true := decide_eq_true hlt2
                          rw [j5] at HNN
                          go_quiet ((first | (go_at_call 57; with_reducible exact HQ0.out _ _) | (go_at_call 55; first | with_reducible exact HQ1.out _ _ | with_reducible exact HQ2.out _ _ | with_reducible exact HQ3.out _ _)))
                          go_wp2
                          go_roundw
                          case rel => exact ⟨k + 1, by omega, by go_num, by rw [HP1.out, HNN.out]; simp, Lib.hid (below_step HBr.out (below_step (below_alloc _ _) (below_drew _ _)))⟩
                          case measure => simp [intOf]; omega
                        · have j5 : decide (y < c.code) = false := decide_eq_false hlt2
                          rw [j5] at HNN
                          go_quiet ((first | (go_at_call 57; with_reducible exact HQ0.out _ _) | (go_at_call 55; first | with_reducible exact HQ1.out _ _ | with_reducible exact HQ2.out _ _ | with_reducible exact HQ3.out _ _)))
                          go_wp2
                          go_roundw
                          case rel => exact ⟨k + 1, by omega, by go_num, by rw [HP1.out, HNN.out]; simp, Lib.hid (below_step HBr.out (below_step (below_alloc _ _) (below_drew _ _)))⟩
                          case measure => simp [intOf]; omega
        · have HE : Hid (preOk Mt.chOk (fun a b => decide (a.code < b.code)) m.chars k = (m.chars.all Mt.chOk && Mt.up (fun a b => decide (a.code < b.code)) m.chars)) := Lib.hid (preOk_end _ _ (by rw [← Hna.out]; omega))
          rw [HE.out]
          generalize (B0 && (m.chars.all Mt.chOk && Mt.up (fun a b => decide (a.code < b.code)) m.chars)) = B1 at HMay2 ⊢
          go_wp2_with fail
          clear y5
          go_loopw [3, 6] (fun ov iv wr2 => ∃ k : Nat, k ≤ nb ∧ iv = .int .i64 k ∧ ov = .bool (B1 && preOk (Mt.knOk m) (fun a b => Mt.rises a.a a.b b.a b.b) m.kerns k) ∧ Hid (Below wr.heap.size wr wr2)) (fun _ iv _ => nb - (intOf iv).toNat)
          case atStart => exact ⟨0, Nat.zero_le _, rfl, by rw [preOk_zero, Bool.and_true], Lib.hid (Below.refl _ _)⟩
          case round =>
            clear HE hk
            obtain ⟨k, hk, rfl, rfl, HBs⟩ := hrel
            have HLs := Lib.hid (HLr.out.mono HBs.out)
            have HMs := Lib.hid (HMr.out.mono HBs.out)
            have HBv := Lib.hid (below_step HBw.out HBs.out)
            have HBs2 := HBs
            clear HLr HMr HBw HBr HBs
            have y0 := HLs.out.at_ 0 _ rfl
            have y1 := HLs.out.at_ 1 _ rfl
            have y2 := HLs.out.at_ 2 _ rfl
            have y3 := HLs.out.at_ 3 _ rfl
            have y4 := HLs.out.at_ 4 _ rfl
            have y5 := HLs.out.at_ 5 _ rfl
            have y6 := HLs.out.at_ 6 _ rfl
            have y7 := HLs.out.at_ 7 _ rfl
            by_cases hlt : k < nb
            · obtain ⟨b1, o1, d1, e1, r1⟩ := HK.out.2.2 (by rw [← Hnb.out]; omega)
              obtain ⟨rfl, rfl⟩ : pk = some ⟨b1, o1, none⟩ ∧ ck = d1 := by injection e1 with a1 a2 a3; exact ⟨a1, a3⟩
              obtain ⟨c, hc⟩ : ∃ c, m.kerns[k]? = some c := ⟨_, List.getElem?_eq_getElem (by rw [← Hnb.out]; exact hlt)⟩
              obtain ⟨J, hJ⟩ : ∃ J, J = k - 1 := ⟨_, rfl⟩
              obtain ⟨y, hy⟩ : ∃ y, m.kerns[J]? = some y := ⟨_, List.getElem?_eq_getElem (by rw [← Hnb.out]; omega)⟩
              obtain ⟨z0, z1, z2⟩ := kn_cells ((r1 k c hc).mono HBv.out)
              obtain ⟨zp0, zp1, _⟩ := kn_cells ((r1 J y hy).mono HBv.out)
              have k0 : (0 : Int) ≤ (k : Int) := by omega
              have kl : (k : Int) < (nb : Int) := by omega
              obtain ⟨T, hT, hTk⟩ : ∃ T, preOk (Mt.knOk m) (fun a b => Mt.rises a.a a.b b.a b.b) m.kerns (k + 1) = (preOk (Mt.knOk m) (fun a b => Mt.rises a.a a.b b.a b.b) m.kerns k && (Mt.has m c.a && Mt.has m c.b && Sc.fits c.w) && T) ∧ ((k = 0 ∧ T = true) ∨ (k ≠ 0 ∧ T = Mt.rises y.a y.b c.a c.b)) := by
                cases k with
                | zero => exact ⟨true, by rw [preOk_one _ _ hc, preOk_zero]; simp [Mt.knOk, Mt.lgOk], .inl ⟨rfl, rfl⟩⟩
                | succ j =>
                  obtain rfl : J = j := by omega
                  exact ⟨_, by rw [preOk_step _ _ hy hc, Bool.and_assoc]; rfl, .inr ⟨by omega, rfl⟩⟩
              have HN := Lib.hid hT
              have HJ := Lib.hid hJ
              have HTk := Lib.hid hTk
              clear r1 e1 hc hy hT hTk hJ
              have cA : Hid (∀ W, MetAt W (.agg #[.int .i64 sw, .int .i64 st, .int .i64 sk, .int .i64 0, .int .i32 hy, .slice pc na cc, .slice (some ⟨b1, o1, none⟩) nb ck, .slice pl nc cl]) m → Calls Tryz.prog 56 #[(.agg #[.int .i64 sw, .int .i64 st, .int .i64 sk, .int .i64 0, .int .i32 hy, .slice pc na cc, .slice (some ⟨b1, o1, none⟩) nb ck, .slice pl nc cl]), .int .i32 c.a] W (Ret (.bool (Mt.has m c.a)) W)) := Lib.hid (fun W h => HHas.out c.a _ W h)
              have cB : Hid (∀ W, MetAt W (.agg #[.int .i64 sw, .int .i64 st, .int .i64 sk, .int .i64 0, .int .i32 hy, .slice pc na cc, .slice (some ⟨b1, o1, none⟩) nb ck, .slice pl nc cl]) m → Calls Tryz.prog 56 #[(.agg #[.int .i64 sw, .int .i64 st, .int .i64 sk, .int .i64 0, .int .i32 hy, .slice pc na cc, .slice (some ⟨b1, o1, none⟩) nb ck, .slice pl nc cl]), .int .i32 c.b] W (Ret (.bool (Mt.has m c.b)) W)) := Lib.hid (fun W h => HHas.out c.b _ W h)
              have cC : Hid (∀ W, Calls Tryz.prog 58 #[.int .i64 c.w] W (Is (.bool (Sc.fits c.w)) W)) := Lib.hid (fun W => refFits_any c.w _ rfl W)
              have cT : Hid (∀ W, Calls Tryz.prog 59 #[.int .i32 y.a, .int .i32 y.b, .int .i32 c.a, .int .i32 c.b] W (Is (.bool (Mt.rises y.a y.b c.a c.b)) W)) := Lib.hid (fun W => rises_any y.a y.b c.a c.b W)
              generalize Mt.has m c.a = hA at cA HN
              generalize Mt.has m c.b = hB at cB HN
              generalize Sc.fits c.w = hC at cC HN
              generalize Mt.rises y.a y.b c.a c.b = tT at cT HTk
              generalize hP1 : preOk (Mt.knOk m) (fun a b => Mt.rises a.a a.b b.a b.b) m.kerns (k + 1) = P1 at HN
              have HP1 := Lib.hid hP1
              clear hP1
              generalize preOk (Mt.knOk m) (fun a b => Mt.rises a.a a.b b.a b.b) m.kerns k = P0 at HN ⊢
              have HNN : Hid ((B1 && P1) = ((B1 && P0) && (hA && hB && hC) && T)) := Lib.hid (by rw [HN.out]; cases B1 <;> rfl)
              clear HN
              generalize (B1 && P0) = b0 at HNN ⊢
              have hSw : wr.cell? ⟨w.heap.size, 0, none⟩ = some (.int .i64 sw) ∧ wr.cell? ⟨w.heap.size, 1, none⟩ = some (.int .i64 st) ∧ wr.cell? ⟨w.heap.size, 2, none⟩ = some (.int .i64 sk) ∧ wr.cell? ⟨w.heap.size, 3, none⟩ = some (.int .i64 0) ∧ wr.cell? ⟨w.heap.size, 4, none⟩ = some (.int .i32 hy) ∧ wr.cell? ⟨w.heap.size, 5, none⟩ = some (.slice pc na cc) ∧ wr.cell? ⟨w.heap.size, 6, none⟩ = some (.slice (some ⟨b1, o1, none⟩) nb ck) ∧ wr.cell? ⟨w.heap.size, 7, none⟩ = some (.slice pl nc cl) ∧ wr.cell? ⟨b1, o1 + J * 3, none⟩ = some (.int .i32 y.a) ∧ wr.cell? ⟨b1, o1 + J * 3 + 1, none⟩ = some (.int .i32 y.b) := ⟨y0, y1, y2, y3, y4, y5, y6, y7, zp0, zp1⟩
              have HSw := Lib.hid hSw
              clear hSw zp0 zp1
              go_upto_region 13 with fail
              clear y0 y1 y2 y3 y4 y5 y6 y7 z0 z1 z2
              obtain ⟨PB, hPB⟩ : ∃ P, P = wr.heap.size := ⟨_, rfl⟩
              obtain ⟨WA, hWA⟩ : ∃ W, W = wr.alloc (.cells #[.int .i32 c.a, .int .i32 c.b, .int .i64 c.w] 52) := ⟨_, rfl⟩
              have hbA : Below wr.heap.size wr WA := by rw [hWA]; exact below_alloc _ _
              have HBA := Lib.hid hbA
              have hoA : WA.heap[PB]? = some (.cells #[.int .i32 c.a, .int .i32 c.b, .int .i64 c.w] 52 (0, 0)) := by rw [hWA]; subst hPB; exact heap_alloc_new _ _
              have HMa := Lib.hid (HMs.out.mono hbA)
              have HMd : Hid (MetAt WA.drew (.agg #[.int .i64 sw, .int .i64 st, .int .i64 sk, .int .i64 0, .int .i32 hy, .slice pc na cc, .slice (some ⟨b1, o1, none⟩) nb ck, .slice pl nc cl]) m) := Lib.hid (HMa.out.mono ((Below.refl _ _).drew))
              have hS : WA.cell? ⟨w.heap.size, 0, none⟩ = some (.int .i64 sw) ∧ WA.cell? ⟨w.heap.size, 1, none⟩ = some (.int .i64 st) ∧ WA.cell? ⟨w.heap.size, 2, none⟩ = some (.int .i64 sk) ∧ WA.cell? ⟨w.heap.size, 3, none⟩ = some (.int .i64 0) ∧ WA.cell? ⟨w.heap.size, 4, none⟩ = some (.int .i32 hy) ∧ WA.cell? ⟨w.heap.size, 5, none⟩ = some (.slice pc na cc) ∧ WA.cell? ⟨w.heap.size, 6, none⟩ = some (.slice (some ⟨b1, o1, none⟩) nb ck) ∧ WA.cell? ⟨w.heap.size, 7, none⟩ = some (.slice pl nc cl) ∧ WA.cell? ⟨PB, 0, none⟩ = some (.int .i32 c.a) ∧ WA.cell? ⟨PB, 1, none⟩ = some (.int .i32 c.b) ∧ WA.cell? ⟨PB, 2, none⟩ = some (.int .i64 c.w) ∧ WA.cell? ⟨b1, o1 + J * 3, none⟩ = some (.int .i32 y.a) ∧ WA.cell? ⟨b1, o1 + J * 3 + 1, none⟩ = some (.int .i32 y.b) := by
                obtain ⟨s0, s1, s2, s3, s4, s5, s6, s7, s8, s9⟩ := HSw.out
                exact ⟨cell_below hbA s0, cell_below hbA s1, cell_below hbA s2, cell_below hbA s3, cell_below hbA s4, cell_below hbA s5, cell_below hbA s6, cell_below hbA s7, Lib.cell_of_heap hoA 0, Lib.cell_of_heap hoA 1, Lib.cell_of_heap hoA 2, cell_below hbA s8, cell_below hbA s9⟩
              rw [← hWA, ← hPB]
              clear hWA hPB hbA hoA HSw HMs
              have j2 : Hid (k ≠ 0 → IntKind.i64.wrap ((k : Int) - 1) = (J : Int)) := Lib.hid fun h => by rw [show (k : Int) - 1 = (J : Int) by have := HJ.out; omega]; exact IntWalk.i64_in _ (by have := HJ.out; omega)
              have j3 : (0 : Int) ≤ (J : Int) := by omega
              have j4 : (J : Int) < (nb : Int) := by have := HJ.out; omega
              have HKn := Lib.hid (show k + 1 ≤ nb from hlt)
              clear hlt
              · cases b0 with
                | false =>
                  clear j2
                  go_quiet (fail)
                  go_wp2
                  go_roundw
                  case rel => exact ⟨k + 1, HKn.out, by go_num, by rw [HP1.out, HNN.out]; simp, Lib.hid (below_step HBs2.out (below_step HBA.out (below_drew _ _)))⟩
                  case measure => have := HKn.out; simp [intOf]; omega
                | true =>
                  as_aux_lemma =>
                    have S0 : (fun w' : World => w'.cell? ⟨w.heap.size, 0, none⟩ = some (.int .i64 sw) ∧ w'.cell? ⟨w.heap.size, 1, none⟩ = some (.int .i64 st) ∧ w'.cell? ⟨w.heap.size, 2, none⟩ = some (.int .i64 sk) ∧ w'.cell? ⟨w.heap.size, 3, none⟩ = some (.int .i64 0) ∧ w'.cell? ⟨w.heap.size, 4, none⟩ = some (.int .i32 hy) ∧ w'.cell? ⟨w.heap.size, 5, none⟩ = some (.slice pc na cc) ∧ w'.cell? ⟨w.heap.size, 6, none⟩ = some (.slice (some ⟨b1, o1, none⟩) nb ck) ∧ w'.cell? ⟨w.heap.size, 7, none⟩ = some (.slice pl nc cl) ∧ w'.cell? ⟨PB, 0, none⟩ = some (.int .i32 c.a) ∧ w'.cell? ⟨PB, 1, none⟩ = some (.int .i32 c.b) ∧ w'.cell? ⟨PB, 2, none⟩ = some (.int .i64 c.w) ∧ w'.cell? ⟨b1, o1 + J * 3, none⟩ = some (.int .i32 y.a) ∧ w'.cell? ⟨b1, o1 + J * 3 + 1, none⟩ = some (.int .i32 y.b)) WA.drew := hS
                    refine wp_region_held_drew (S := fun w' : World => w'.cell? ⟨w.heap.size, 0, none⟩ = some (.int .i64 sw) ∧ w'.cell? ⟨w.heap.size, 1, none⟩ = some (.int .i64 st) ∧ w'.cell? ⟨w.heap.size, 2, none⟩ = some (.int .i64 sk) ∧ w'.cell? ⟨w.heap.size, 3, none⟩ = some (.int .i64 0) ∧ w'.cell? ⟨w.heap.size, 4, none⟩ = some (.int .i32 hy) ∧ w'.cell? ⟨w.heap.size, 5, none⟩ = some (.slice pc na cc) ∧ w'.cell? ⟨w.heap.size, 6, none⟩ = some (.slice (some ⟨b1, o1, none⟩) nb ck) ∧ w'.cell? ⟨w.heap.size, 7, none⟩ = some (.slice pl nc cl) ∧ w'.cell? ⟨PB, 0, none⟩ = some (.int .i32 c.a) ∧ w'.cell? ⟨PB, 1, none⟩ = some (.int .i32 c.b) ∧ w'.cell? ⟨PB, 2, none⟩ = some (.int .i64 c.w) ∧ w'.cell? ⟨b1, o1 + J * 3, none⟩ = some (.int .i32 y.a) ∧ w'.cell? ⟨b1, o1 + J * 3 + 1, none⟩ = some (.int .i32 y.b)) (by kernel_rfl) S0 (fun hHeld => ?_)
                    clear S0 hS
                    refine take_g (i := 0) (d := 115) (op := Op.move (Operand.tmp 3)) (ty := 4) (v := .bool true) (g := none) (by kernel_rfl) (by kernel_rfl) (by rfl) (by kernel_rfl) (by kernel_rfl) (by kernel_rfl) (fun _ _ _ h => h) (fun wS hS => by clear hS; go_simp) hHeld ?_
                    try simp only [Act.put, List.setIfInBounds_toArray, List.set_cons_zero, List.set_cons_succ]
                    refine take_g (i := 1) (d := 116) (op := Op.move (Operand.tmp 115)) (ty := 4) (v := .bool true) (g := none) (by kernel_rfl) (by kernel_rfl) (by rfl) (by kernel_rfl) (by kernel_rfl) (by kernel_rfl) (fun _ _ _ h => h) (fun wS hS => by clear hS; go_simp) hHeld ?_
                    try simp only [Act.put, List.setIfInBounds_toArray, List.set_cons_zero, List.set_cons_succ]
                    refine take_g (i := 2) (d := 117) (op := Op.load 28 (Operand.tmp 1)) (ty := 28) (v := (.agg #[.int .i64 sw, .int .i64 st, .int .i64 sk, .int .i64 0, .int .i32 hy, .slice pc na cc, .slice (some ⟨b1, o1, none⟩) nb ck, .slice pl nc cl])) (g := some (1, true)) (by kernel_rfl) (by kernel_rfl) (by rfl) (by kernel_rfl) (by kernel_rfl) (by kernel_rfl) (fun _ _ _ h => h) (fun wS hS => by (try dsimp only at hS); obtain ⟨s0, s1, s2, s3, s4, s5, s6, s7, s8, s9, sa, sb, sc⟩ := hS; go_simp) hHeld ?_
                    try simp only [Act.put, List.setIfInBounds_toArray, List.set_cons_zero, List.set_cons_succ]
                    refine take_g (i := 3) (d := 118) (op := Op.fieldAddr 52 (Operand.tmp 7) 0) (ty := 0) (v := .pointer (some ⟨PB, 0, none⟩)) (g := some (1, true)) (by kernel_rfl) (by kernel_rfl) (by rfl) (by kernel_rfl) (by kernel_rfl) (by kernel_rfl) (fun _ _ _ h => h) (fun wS hS => by clear hS; go_simp) hHeld ?_
                    try simp only [Act.put, List.setIfInBounds_toArray, List.set_cons_zero, List.set_cons_succ]
                    refine take_g (i := 4) (d := 119) (op := Op.load 21 (Operand.tmp 118)) (ty := 21) (v := .int .i32 c.a) (g := some (1, true)) (by kernel_rfl) (by kernel_rfl) (by rfl) (by kernel_rfl) (by kernel_rfl) (by kernel_rfl) (fun _ _ _ h => h) (fun wS hS => by (try dsimp only at hS); obtain ⟨s0, s1, s2, s3, s4, s5, s6, s7, s8, s9, sa, sb, sc⟩ := hS; go_simp) hHeld ?_
                    try simp only [Act.put, List.setIfInBounds_toArray, List.set_cons_zero, List.set_cons_succ]
                    refine wpAnyH_ready (rs := [5]) (by kernel_rfl) (by simp) ?_
                    refine AllReadyH.cons rfl (fun K hK => ?_) AllReadyH.nil
                    go_simp
                    go_at_call 56
                    with_reducible refine (cA.out _ HMd.out).mono ?_
                    rintro e w7 ⟨rfl, hb70⟩
                    have hb7 := undrew7m hb70
                    refine hK.out _ _ (cells13 hb70 hHeld) (fun hHeld => ?_)
                    clear hK K hb70
                    try simp only [Act.put, List.setIfInBounds_toArray, List.set_cons_zero, List.set_cons_succ]
                    cases hA with
                    | false =>
                      as_aux_lemma =>
                        refine take_g (i := 6) (d := 121) (op := Op.pick (Operand.tmp 116) (Operand.tmp 120) (Operand.const (Value.bool false))) (ty := 4) (v := .bool false) (g := none) (by kernel_rfl) (by kernel_rfl) (by rfl) (by kernel_rfl) (by kernel_rfl) (by kernel_rfl) (fun _ _ _ h => h) (fun wS hS => by clear hS; go_simp) hHeld ?_
                        try simp only [Act.put, List.setIfInBounds_toArray, List.set_cons_zero, List.set_cons_succ]
                        refine take_g (i := 7) (d := 122) (op := Op.move (Operand.tmp 121)) (ty := 4) (v := .bool false) (g := none) (by kernel_rfl) (by kernel_rfl) (by rfl) (by kernel_rfl) (by kernel_rfl) (by kernel_rfl) (fun _ _ _ h => h) (fun wS hS => by clear hS; go_simp) hHeld ?_
                        try simp only [Act.put, List.setIfInBounds_toArray, List.set_cons_zero, List.set_cons_succ]
                        refine skip_g (i := 8) (d := 123) (g := (7, true)) (by kernel_rfl) (by kernel_rfl) (by rfl) (by kernel_rfl) (by kernel_rfl) (by kernel_rfl) (fun _ _ _ h => h) hHeld ?_
                        try simp only [Act.put, List.setIfInBounds_toArray, List.set_cons_zero, List.set_cons_succ]
                        refine skip_g (i := 9) (d := 124) (g := (7, true)) (by kernel_rfl) (by kernel_rfl) (by rfl) (by kernel_rfl) (by kernel_rfl) (by kernel_rfl) (fun _ _ _ h => h) hHeld ?_
                        try simp only [Act.put, List.setIfInBounds_toArray, List.set_cons_zero, List.set_cons_succ]
                        refine skip_g (i := 10) (d := 125) (g := (7, true)) (by kernel_rfl) (by kernel_rfl) (by rfl) (by kernel_rfl) (by kernel_rfl) (by kernel_rfl) (fun _ _ _ h => h) hHeld ?_
                        try simp only [Act.put, List.setIfInBounds_toArray, List.set_cons_zero, List.set_cons_succ]
                        refine skip_g (i := 11) (d := 126) (g := (7, true)) (by kernel_rfl) (by kernel_rfl) (by rfl) (by kernel_rfl) (by kernel_rfl) (by kernel_rfl) (fun _ _ _ h => h) hHeld ?_
                        try simp only [Act.put, List.setIfInBounds_toArray, List.set_cons_zero, List.set_cons_succ]
                        refine take_g (i := 12) (d := 127) (op := Op.pick (Operand.tmp 122) (Operand.tmp 126) (Operand.const (Value.bool false))) (ty := 4) (v := .bool false) (g := none) (by kernel_rfl) (by kernel_rfl) (by rfl) (by kernel_rfl) (by kernel_rfl) (by kernel_rfl) (fun _ _ _ h => h) (fun wS hS => by clear hS; go_simp) hHeld ?_
                        try simp only [Act.put, List.setIfInBounds_toArray, List.set_cons_zero, List.set_cons_succ]
                        refine take_g (i := 13) (d := 128) (op := Op.move (Operand.tmp 127)) (ty := 4) (v := .bool false) (g := none) (by kernel_rfl) (by kernel_rfl) (by rfl) (by kernel_rfl) (by kernel_rfl) (by kernel_rfl) (fun _ _ _ h => h) (fun wS hS => by clear hS; go_simp) hHeld ?_
                        try simp only [Act.put, List.setIfInBounds_toArray, List.set_cons_zero, List.set_cons_succ]
                        refine skip_g (i := 14) (d := 129) (g := (13, true)) (by kernel_rfl) (by kernel_rfl) (by rfl) (by kernel_rfl) (by kernel_rfl) (by kernel_rfl) (fun _ _ _ h => h) hHeld ?_
                        try simp only [Act.put, List.setIfInBounds_toArray, List.set_cons_zero, List.set_cons_succ]
                        refine skip_g (i := 15) (d := 130) (g := (13, true)) (by kernel_rfl) (by kernel_rfl) (by rfl) (by kernel_rfl) (by kernel_rfl) (by kernel_rfl) (fun _ _ _ h => h) hHeld ?_
                        try simp only [Act.put, List.setIfInBounds_toArray, List.set_cons_zero, List.set_cons_succ]
                        refine skip_g (i := 16) (d := 131) (g := (13, true)) (by kernel_rfl) (by kernel_rfl) (by rfl) (by kernel_rfl) (by kernel_rfl) (by kernel_rfl) (fun _ _ _ h => h) hHeld ?_
                        try simp only [Act.put, List.setIfInBounds_toArray, List.set_cons_zero, List.set_cons_succ]
                        refine take_g (i := 17) (d := 132) (op := Op.pick (Operand.tmp 128) (Operand.tmp 131) (Operand.const (Value.bool false))) (ty := 4) (v := .bool false) (g := none) (by kernel_rfl) (by kernel_rfl) (by rfl) (by kernel_rfl) (by kernel_rfl) (by kernel_rfl) (fun _ _ _ h => h) (fun wS hS => by clear hS; go_simp) hHeld ?_
                        try simp only [Act.put, List.setIfInBounds_toArray, List.set_cons_zero, List.set_cons_succ]
                        refine take_g (i := 18) (d := 133) (op := Op.move (Operand.tmp 132)) (ty := 4) (v := .bool false) (g := none) (by kernel_rfl) (by kernel_rfl) (by rfl) (by kernel_rfl) (by kernel_rfl) (by kernel_rfl) (fun _ _ _ h => h) (fun wS hS => by clear hS; go_simp) hHeld ?_
                        try simp only [Act.put, List.setIfInBounds_toArray, List.set_cons_zero, List.set_cons_succ]
                        refine skip_g (i := 19) (d := 134) (g := (18, true)) (by kernel_rfl) (by kernel_rfl) (by rfl) (by kernel_rfl) (by kernel_rfl) (by kernel_rfl) (fun _ _ _ h => h) hHeld ?_
                        try simp only [Act.put, List.setIfInBounds_toArray, List.set_cons_zero, List.set_cons_succ]
                        refine skip_g (i := 20) (d := 135) (g := (18, true)) (by kernel_rfl) (by kernel_rfl) (by rfl) (by kernel_rfl) (by kernel_rfl) (by kernel_rfl) (fun _ _ _ h => h) hHeld ?_
                        try simp only [Act.put, List.setIfInBounds_toArray, List.set_cons_zero, List.set_cons_succ]
                        refine skip_g (i := 21) (d := 136) (g := (18, true)) (by kernel_rfl) (by kernel_rfl) (by rfl) (by kernel_rfl) (by kernel_rfl) (by kernel_rfl) (fun _ _ _ h => h) hHeld ?_
                        try simp only [Act.put, List.setIfInBounds_toArray, List.set_cons_zero, List.set_cons_succ]
                        refine skip_g (i := 22) (d := 137) (g := (21, false)) (by kernel_rfl) (by kernel_rfl) (by rfl) (by kernel_rfl) (by kernel_rfl) (by kernel_rfl) (fun _ _ _ h => h) hHeld ?_
                        try simp only [Act.put, List.setIfInBounds_toArray, List.set_cons_zero, List.set_cons_succ]
                        refine skip_g (i := 23) (d := 138) (g := (21, false)) (by kernel_rfl) (by kernel_rfl) (by rfl) (by kernel_rfl) (by kernel_rfl) (by kernel_rfl) (fun _ _ _ h => h) hHeld ?_
                        try simp only [Act.put, List.setIfInBounds_toArray, List.set_cons_zero, List.set_cons_succ]
                        refine skip_g (i := 24) (d := 139) (g := (21, false)) (by kernel_rfl) (by kernel_rfl) (by rfl) (by kernel_rfl) (by kernel_rfl) (by kernel_rfl) (fun _ _ _ h => h) hHeld ?_
                        try simp only [Act.put, List.setIfInBounds_toArray, List.set_cons_zero, List.set_cons_succ]
                        refine skip_g (i := 25) (d := 140) (g := (21, false)) (by kernel_rfl) (by kernel_rfl) (by rfl) (by kernel_rfl) (by kernel_rfl) (by kernel_rfl) (fun _ _ _ h => h) hHeld ?_
                        try simp only [Act.put, List.setIfInBounds_toArray, List.set_cons_zero, List.set_cons_succ]
                        refine skip_g (i := 26) (d := 141) (g := (21, false)) (by kernel_rfl) (by kernel_rfl) (by rfl) (by kernel_rfl) (by kernel_rfl) (by kernel_rfl) (fun _ _ _ h => h) hHeld ?_
                        try simp only [Act.put, List.setIfInBounds_toArray, List.set_cons_zero, List.set_cons_succ]
                        refine skip_g (i := 27) (d := 142) (g := (21, false)) (by kernel_rfl) (by kernel_rfl) (by rfl) (by kernel_rfl) (by kernel_rfl) (by kernel_rfl) (fun _ _ _ h => h) hHeld ?_
                        try simp only [Act.put, List.setIfInBounds_toArray, List.set_cons_zero, List.set_cons_succ]
                        refine skip_g (i := 28) (d := 143) (g := (21, false)) (by kernel_rfl) (by kernel_rfl) (by rfl) (by kernel_rfl) (by kernel_rfl) (by kernel_rfl) (fun _ _ _ h => h) hHeld ?_
                        try simp only [Act.put, List.setIfInBounds_toArray, List.set_cons_zero, List.set_cons_succ]
                        refine skip_g (i := 29) (d := 144) (g := (21, false)) (by kernel_rfl) (by kernel_rfl) (by rfl) (by kernel_rfl) (by kernel_rfl) (by kernel_rfl) (fun _ _ _ h => h) hHeld ?_
                        try simp only [Act.put, List.setIfInBounds_toArray, List.set_cons_zero, List.set_cons_succ]
                        refine skip_g (i := 30) (d := 145) (g := (21, false)) (by kernel_rfl) (by kernel_rfl) (by rfl) (by kernel_rfl) (by kernel_rfl) (by kernel_rfl) (fun _ _ _ h => h) hHeld ?_
                        try simp only [Act.put, List.setIfInBounds_toArray, List.set_cons_zero, List.set_cons_succ]
                        refine skip_g (i := 31) (d := 146) (g := (21, false)) (by kernel_rfl) (by kernel_rfl) (by rfl) (by kernel_rfl) (by kernel_rfl) (by kernel_rfl) (fun _ _ _ h => h) hHeld ?_
                        try simp only [Act.put, List.setIfInBounds_toArray, List.set_cons_zero, List.set_cons_succ]
                        refine skip_g (i := 32) (d := 147) (g := (21, false)) (by kernel_rfl) (by kernel_rfl) (by rfl) (by kernel_rfl) (by kernel_rfl) (by kernel_rfl) (fun _ _ _ h => h) hHeld ?_
                        try simp only [Act.put, List.setIfInBounds_toArray, List.set_cons_zero, List.set_cons_succ]
                        refine skip_g (i := 33) (d := 148) (g := (21, false)) (by kernel_rfl) (by kernel_rfl) (by rfl) (by kernel_rfl) (by kernel_rfl) (by kernel_rfl) (fun _ _ _ h => h) hHeld ?_
                        try simp only [Act.put, List.setIfInBounds_toArray, List.set_cons_zero, List.set_cons_succ]
                        refine skip_g (i := 34) (d := 149) (g := (21, false)) (by kernel_rfl) (by kernel_rfl) (by rfl) (by kernel_rfl) (by kernel_rfl) (by kernel_rfl) (fun _ _ _ h => h) hHeld ?_
                        try simp only [Act.put, List.setIfInBounds_toArray, List.set_cons_zero, List.set_cons_succ]
                        refine skip_g (i := 35) (d := 150) (g := (21, false)) (by kernel_rfl) (by kernel_rfl) (by rfl) (by kernel_rfl) (by kernel_rfl) (by kernel_rfl) (fun _ _ _ h => h) hHeld ?_
                        try simp only [Act.put, List.setIfInBounds_toArray, List.set_cons_zero, List.set_cons_succ]
                        refine skip_g (i := 36) (d := 151) (g := (21, false)) (by kernel_rfl) (by kernel_rfl) (by rfl) (by kernel_rfl) (by kernel_rfl) (by kernel_rfl) (fun _ _ _ h => h) hHeld ?_
                        try simp only [Act.put, List.setIfInBounds_toArray, List.set_cons_zero, List.set_cons_succ]
                        refine skip_g (i := 37) (d := 152) (g := (21, false)) (by kernel_rfl) (by kernel_rfl) (by rfl) (by kernel_rfl) (by kernel_rfl) (by kernel_rfl) (fun _ _ _ h => h) hHeld ?_
                        try simp only [Act.put, List.setIfInBounds_toArray, List.set_cons_zero, List.set_cons_succ]
                        refine skip_g (i := 38) (d := 153) (g := (21, false)) (by kernel_rfl) (by kernel_rfl) (by rfl) (by kernel_rfl) (by kernel_rfl) (by kernel_rfl) (fun _ _ _ h => h) hHeld ?_
                        try simp only [Act.put, List.setIfInBounds_toArray, List.set_cons_zero, List.set_cons_succ]
                        refine skip_g (i := 39) (d := 154) (g := (21, false)) (by kernel_rfl) (by kernel_rfl) (by rfl) (by kernel_rfl) (by kernel_rfl) (by kernel_rfl) (fun _ _ _ h => h) hHeld ?_
                        try simp only [Act.put, List.setIfInBounds_toArray, List.set_cons_zero, List.set_cons_succ]
                        refine skip_g (i := 40) (d := 155) (g := (21, false)) (by kernel_rfl) (by kernel_rfl) (by rfl) (by kernel_rfl) (by kernel_rfl) (by kernel_rfl) (fun _ _ _ h => h) hHeld ?_
                        try simp only [Act.put, List.setIfInBounds_toArray, List.set_cons_zero, List.set_cons_succ]
                        refine skip_g (i := 41) (d := 156) (g := (18, true)) (by kernel_rfl) (by kernel_rfl) (by rfl) (by kernel_rfl) (by kernel_rfl) (by kernel_rfl) (fun _ _ _ h => h) hHeld ?_
                        try simp only [Act.put, List.setIfInBounds_toArray, List.set_cons_zero, List.set_cons_succ]
                        refine take_g (i := 42) (d := 157) (op := Op.pick (Operand.tmp 133) (Operand.tmp 156) (Operand.const (Value.bool false))) (ty := 4) (v := .bool false) (g := none) (by kernel_rfl) (by kernel_rfl) (by rfl) (by kernel_rfl) (by kernel_rfl) (by kernel_rfl) (fun _ _ _ h => h) (fun wS hS => by clear hS; go_simp) hHeld ?_
                        try simp only [Act.put, List.setIfInBounds_toArray, List.set_cons_zero, List.set_cons_succ]
                        refine take_g (i := 43) (d := 3) (op := Op.assign (Operand.tmp 157)) (ty := 4) (v := .bool false) (g := none) (by kernel_rfl) (by kernel_rfl) (by rfl) (by kernel_rfl) (by kernel_rfl) (by kernel_rfl) (fun _ _ _ h => h) (fun wS hS => by clear hS; go_simp) hHeld ?_
                        try simp only [Act.put, List.setIfInBounds_toArray, List.set_cons_zero, List.set_cons_succ]
                        refine wpAnyH_done (by kernel_rfl) ?_ _
                        clear hHeld
                        go_wp2
                        go_roundw
                        case rel => exact ⟨k + 1, HKn.out, by go_num, by rw [HP1.out, HNN.out]; simp, Lib.hid (below_step HBs2.out (below_step HBA.out hb7))⟩
                        case measure => have := HKn.out; simp [intOf]; omega
                    | true =>
                      as_aux_lemma =>
                        refine take_g (i := 6) (d := 121) (op := Op.pick (Operand.tmp 116) (Operand.tmp 120) (Operand.const (Value.bool false))) (ty := 4) (v := .bool true) (g := none) (by kernel_rfl) (by kernel_rfl) (by rfl) (by kernel_rfl) (by kernel_rfl) (by kernel_rfl) (fun _ _ _ h => h) (fun wS hS => by clear hS; go_simp) hHeld ?_
                        try simp only [Act.put, List.setIfInBounds_toArray, List.set_cons_zero, List.set_cons_succ]
                        refine take_g (i := 7) (d := 122) (op := Op.move (Operand.tmp 121)) (ty := 4) (v := .bool true) (g := none) (by kernel_rfl) (by kernel_rfl) (by rfl) (by kernel_rfl) (by kernel_rfl) (by kernel_rfl) (fun _ _ _ h => h) (fun wS hS => by clear hS; go_simp) hHeld ?_
                        try simp only [Act.put, List.setIfInBounds_toArray, List.set_cons_zero, List.set_cons_succ]
                        refine take_g (i := 8) (d := 123) (op := Op.load 28 (Operand.tmp 1)) (ty := 28) (v := (.agg #[.int .i64 sw, .int .i64 st, .int .i64 sk, .int .i64 0, .int .i32 hy, .slice pc na cc, .slice (some ⟨b1, o1, none⟩) nb ck, .slice pl nc cl])) (g := some (7, true)) (by kernel_rfl) (by kernel_rfl) (by rfl) (by kernel_rfl) (by kernel_rfl) (by kernel_rfl) (fun _ _ _ h => h) (fun wS hS => by (try dsimp only at hS); obtain ⟨s0, s1, s2, s3, s4, s5, s6, s7, s8, s9, sa, sb, sc⟩ := hS; go_simp) hHeld ?_
                        try simp only [Act.put, List.setIfInBounds_toArray, List.set_cons_zero, List.set_cons_succ]
                        refine take_g (i := 9) (d := 124) (op := Op.fieldAddr 52 (Operand.tmp 7) 1) (ty := 0) (v := .pointer (some ⟨PB, 1, none⟩)) (g := some (7, true)) (by kernel_rfl) (by kernel_rfl) (by rfl) (by kernel_rfl) (by kernel_rfl) (by kernel_rfl) (fun _ _ _ h => h) (fun wS hS => by clear hS; go_simp) hHeld ?_
                        try simp only [Act.put, List.setIfInBounds_toArray, List.set_cons_zero, List.set_cons_succ]
                        refine take_g (i := 10) (d := 125) (op := Op.load 21 (Operand.tmp 124)) (ty := 21) (v := .int .i32 c.b) (g := some (7, true)) (by kernel_rfl) (by kernel_rfl) (by rfl) (by kernel_rfl) (by kernel_rfl) (by kernel_rfl) (fun _ _ _ h => h) (fun wS hS => by (try dsimp only at hS); obtain ⟨s0, s1, s2, s3, s4, s5, s6, s7, s8, s9, sa, sb, sc⟩ := hS; go_simp) hHeld ?_
                        try simp only [Act.put, List.setIfInBounds_toArray, List.set_cons_zero, List.set_cons_succ]
                        refine wpAnyH_ready (rs := [11]) (by kernel_rfl) (by simp) ?_
                        refine AllReadyH.cons rfl (fun K hK => ?_) AllReadyH.nil
                        go_simp
                        go_at_call 56
                        with_reducible refine (cB.out _ (HMa.out.mono hb7)).mono ?_
                        rintro e w8 ⟨rfl, hb80⟩
                        have hb8 := below_step hb7 hb80
                        refine hK.out _ _ (cells13 hb80 hHeld) (fun hHeld => ?_)
                        clear hK K hb80
                        try simp only [Act.put, List.setIfInBounds_toArray, List.set_cons_zero, List.set_cons_succ]
                        cases hB with
                        | false =>
                          as_aux_lemma =>
                            refine take_g (i := 12) (d := 127) (op := Op.pick (Operand.tmp 122) (Operand.tmp 126) (Operand.const (Value.bool false))) (ty := 4) (v := .bool false) (g := none) (by kernel_rfl) (by kernel_rfl) (by rfl) (by kernel_rfl) (by kernel_rfl) (by kernel_rfl) (fun _ _ _ h => h) (fun wS hS => by clear hS; go_simp) hHeld ?_
                            try simp only [Act.put, List.setIfInBounds_toArray, List.set_cons_zero, List.set_cons_succ]
                            refine take_g (i := 13) (d := 128) (op := Op.move (Operand.tmp 127)) (ty := 4) (v := .bool false) (g := none) (by kernel_rfl) (by kernel_rfl) (by rfl) (by kernel_rfl) (by kernel_rfl) (by kernel_rfl) (fun _ _ _ h => h) (fun wS hS => by clear hS; go_simp) hHeld ?_
                            try simp only [Act.put, List.setIfInBounds_toArray, List.set_cons_zero, List.set_cons_succ]
                            refine skip_g (i := 14) (d := 129) (g := (13, true)) (by kernel_rfl) (by kernel_rfl) (by rfl) (by kernel_rfl) (by kernel_rfl) (by kernel_rfl) (fun _ _ _ h => h) hHeld ?_
                            try simp only [Act.put, List.setIfInBounds_toArray, List.set_cons_zero, List.set_cons_succ]
                            refine skip_g (i := 15) (d := 130) (g := (13, true)) (by kernel_rfl) (by kernel_rfl) (by rfl) (by kernel_rfl) (by kernel_rfl) (by kernel_rfl) (fun _ _ _ h => h) hHeld ?_
                            try simp only [Act.put, List.setIfInBounds_toArray, List.set_cons_zero, List.set_cons_succ]
                            refine skip_g (i := 16) (d := 131) (g := (13, true)) (by kernel_rfl) (by kernel_rfl) (by rfl) (by kernel_rfl) (by kernel_rfl) (by kernel_rfl) (fun _ _ _ h => h) hHeld ?_
                            try simp only [Act.put, List.setIfInBounds_toArray, List.set_cons_zero, List.set_cons_succ]
                            refine take_g (i := 17) (d := 132) (op := Op.pick (Operand.tmp 128) (Operand.tmp 131) (Operand.const (Value.bool false))) (ty := 4) (v := .bool false) (g := none) (by kernel_rfl) (by kernel_rfl) (by rfl) (by kernel_rfl) (by kernel_rfl) (by kernel_rfl) (fun _ _ _ h => h) (fun wS hS => by clear hS; go_simp) hHeld ?_
                            try simp only [Act.put, List.setIfInBounds_toArray, List.set_cons_zero, List.set_cons_succ]
                            refine take_g (i := 18) (d := 133) (op := Op.move (Operand.tmp 132)) (ty := 4) (v := .bool false) (g := none) (by kernel_rfl) (by kernel_rfl) (by rfl) (by kernel_rfl) (by kernel_rfl) (by kernel_rfl) (fun _ _ _ h => h) (fun wS hS => by clear hS; go_simp) hHeld ?_
                            try simp only [Act.put, List.setIfInBounds_toArray, List.set_cons_zero, List.set_cons_succ]
                            refine skip_g (i := 19) (d := 134) (g := (18, true)) (by kernel_rfl) (by kernel_rfl) (by rfl) (by kernel_rfl) (by kernel_rfl) (by kernel_rfl) (fun _ _ _ h => h) hHeld ?_
                            try simp only [Act.put, List.setIfInBounds_toArray, List.set_cons_zero, List.set_cons_succ]
                            refine skip_g (i := 20) (d := 135) (g := (18, true)) (by kernel_rfl) (by kernel_rfl) (by rfl) (by kernel_rfl) (by kernel_rfl) (by kernel_rfl) (fun _ _ _ h => h) hHeld ?_
                            try simp only [Act.put, List.setIfInBounds_toArray, List.set_cons_zero, List.set_cons_succ]
                            refine skip_g (i := 21) (d := 136) (g := (18, true)) (by kernel_rfl) (by kernel_rfl) (by rfl) (by kernel_rfl) (by kernel_rfl) (by kernel_rfl) (fun _ _ _ h => h) hHeld ?_
                            try simp only [Act.put, List.setIfInBounds_toArray, List.set_cons_zero, List.set_cons_succ]
                            refine skip_g (i := 22) (d := 137) (g := (21, false)) (by kernel_rfl) (by kernel_rfl) (by rfl) (by kernel_rfl) (by kernel_rfl) (by kernel_rfl) (fun _ _ _ h => h) hHeld ?_
                            try simp only [Act.put, List.setIfInBounds_toArray, List.set_cons_zero, List.set_cons_succ]
                            refine skip_g (i := 23) (d := 138) (g := (21, false)) (by kernel_rfl) (by kernel_rfl) (by rfl) (by kernel_rfl) (by kernel_rfl) (by kernel_rfl) (fun _ _ _ h => h) hHeld ?_
                            try simp only [Act.put, List.setIfInBounds_toArray, List.set_cons_zero, List.set_cons_succ]
                            refine skip_g (i := 24) (d := 139) (g := (21, false)) (by kernel_rfl) (by kernel_rfl) (by rfl) (by kernel_rfl) (by kernel_rfl) (by kernel_rfl) (fun _ _ _ h => h) hHeld ?_
                            try simp only [Act.put, List.setIfInBounds_toArray, List.set_cons_zero, List.set_cons_succ]
                            refine skip_g (i := 25) (d := 140) (g := (21, false)) (by kernel_rfl) (by kernel_rfl) (by rfl) (by kernel_rfl) (by kernel_rfl) (by kernel_rfl) (fun _ _ _ h => h) hHeld ?_
                            try simp only [Act.put, List.setIfInBounds_toArray, List.set_cons_zero, List.set_cons_succ]
                            refine skip_g (i := 26) (d := 141) (g := (21, false)) (by kernel_rfl) (by kernel_rfl) (by rfl) (by kernel_rfl) (by kernel_rfl) (by kernel_rfl) (fun _ _ _ h => h) hHeld ?_
                            try simp only [Act.put, List.setIfInBounds_toArray, List.set_cons_zero, List.set_cons_succ]
                            refine skip_g (i := 27) (d := 142) (g := (21, false)) (by kernel_rfl) (by kernel_rfl) (by rfl) (by kernel_rfl) (by kernel_rfl) (by kernel_rfl) (fun _ _ _ h => h) hHeld ?_
                            try simp only [Act.put, List.setIfInBounds_toArray, List.set_cons_zero, List.set_cons_succ]
                            refine skip_g (i := 28) (d := 143) (g := (21, false)) (by kernel_rfl) (by kernel_rfl) (by rfl) (by kernel_rfl) (by kernel_rfl) (by kernel_rfl) (fun _ _ _ h => h) hHeld ?_
                            try simp only [Act.put, List.setIfInBounds_toArray, List.set_cons_zero, List.set_cons_succ]
                            refine skip_g (i := 29) (d := 144) (g := (21, false)) (by kernel_rfl) (by kernel_rfl) (by rfl) (by kernel_rfl) (by kernel_rfl) (by kernel_rfl) (fun _ _ _ h => h) hHeld ?_
                            try simp only [Act.put, List.setIfInBounds_toArray, List.set_cons_zero, List.set_cons_succ]
                            refine skip_g (i := 30) (d := 145) (g := (21, false)) (by kernel_rfl) (by kernel_rfl) (by rfl) (by kernel_rfl) (by kernel_rfl) (by kernel_rfl) (fun _ _ _ h => h) hHeld ?_
                            try simp only [Act.put, List.setIfInBounds_toArray, List.set_cons_zero, List.set_cons_succ]
                            refine skip_g (i := 31) (d := 146) (g := (21, false)) (by kernel_rfl) (by kernel_rfl) (by rfl) (by kernel_rfl) (by kernel_rfl) (by kernel_rfl) (fun _ _ _ h => h) hHeld ?_
                            try simp only [Act.put, List.setIfInBounds_toArray, List.set_cons_zero, List.set_cons_succ]
                            refine skip_g (i := 32) (d := 147) (g := (21, false)) (by kernel_rfl) (by kernel_rfl) (by rfl) (by kernel_rfl) (by kernel_rfl) (by kernel_rfl) (fun _ _ _ h => h) hHeld ?_
                            try simp only [Act.put, List.setIfInBounds_toArray, List.set_cons_zero, List.set_cons_succ]
                            refine skip_g (i := 33) (d := 148) (g := (21, false)) (by kernel_rfl) (by kernel_rfl) (by rfl) (by kernel_rfl) (by kernel_rfl) (by kernel_rfl) (fun _ _ _ h => h) hHeld ?_
                            try simp only [Act.put, List.setIfInBounds_toArray, List.set_cons_zero, List.set_cons_succ]
                            refine skip_g (i := 34) (d := 149) (g := (21, false)) (by kernel_rfl) (by kernel_rfl) (by rfl) (by kernel_rfl) (by kernel_rfl) (by kernel_rfl) (fun _ _ _ h => h) hHeld ?_
                            try simp only [Act.put, List.setIfInBounds_toArray, List.set_cons_zero, List.set_cons_succ]
                            refine skip_g (i := 35) (d := 150) (g := (21, false)) (by kernel_rfl) (by kernel_rfl) (by rfl) (by kernel_rfl) (by kernel_rfl) (by kernel_rfl) (fun _ _ _ h => h) hHeld ?_
                            try simp only [Act.put, List.setIfInBounds_toArray, List.set_cons_zero, List.set_cons_succ]
                            refine skip_g (i := 36) (d := 151) (g := (21, false)) (by kernel_rfl) (by kernel_rfl) (by rfl) (by kernel_rfl) (by kernel_rfl) (by kernel_rfl) (fun _ _ _ h => h) hHeld ?_
                            try simp only [Act.put, List.setIfInBounds_toArray, List.set_cons_zero, List.set_cons_succ]
                            refine skip_g (i := 37) (d := 152) (g := (21, false)) (by kernel_rfl) (by kernel_rfl) (by rfl) (by kernel_rfl) (by kernel_rfl) (by kernel_rfl) (fun _ _ _ h => h) hHeld ?_
                            try simp only [Act.put, List.setIfInBounds_toArray, List.set_cons_zero, List.set_cons_succ]
                            refine skip_g (i := 38) (d := 153) (g := (21, false)) (by kernel_rfl) (by kernel_rfl) (by rfl) (by kernel_rfl) (by kernel_rfl) (by kernel_rfl) (fun _ _ _ h => h) hHeld ?_
                            try simp only [Act.put, List.setIfInBounds_toArray, List.set_cons_zero, List.set_cons_succ]
                            refine skip_g (i := 39) (d := 154) (g := (21, false)) (by kernel_rfl) (by kernel_rfl) (by rfl) (by kernel_rfl) (by kernel_rfl) (by kernel_rfl) (fun _ _ _ h => h) hHeld ?_
                            try simp only [Act.put, List.setIfInBounds_toArray, List.set_cons_zero, List.set_cons_succ]
                            refine skip_g (i := 40) (d := 155) (g := (21, false)) (by kernel_rfl) (by kernel_rfl) (by rfl) (by kernel_rfl) (by kernel_rfl) (by kernel_rfl) (fun _ _ _ h => h) hHeld ?_
                            try simp only [Act.put, List.setIfInBounds_toArray, List.set_cons_zero, List.set_cons_succ]
                            refine skip_g (i := 41) (d := 156) (g := (18, true)) (by kernel_rfl) (by kernel_rfl) (by rfl) (by kernel_rfl) (by kernel_rfl) (by kernel_rfl) (fun _ _ _ h => h) hHeld ?_
                            try simp only [Act.put, List.setIfInBounds_toArray, List.set_cons_zero, List.set_cons_succ]
                            refine take_g (i := 42) (d := 157) (op := Op.pick (Operand.tmp 133) (Operand.tmp 156) (Operand.const (Value.bool false))) (ty := 4) (v := .bool false) (g := none) (by kernel_rfl) (by kernel_rfl) (by rfl) (by kernel_rfl) (by kernel_rfl) (by kernel_rfl) (fun _ _ _ h => h) (fun wS hS => by clear hS; go_simp) hHeld ?_
                            try simp only [Act.put, List.setIfInBounds_toArray, List.set_cons_zero, List.set_cons_succ]
                            refine take_g (i := 43) (d := 3) (op := Op.assign (Operand.tmp 157)) (ty := 4) (v := .bool false) (g := none) (by kernel_rfl) (by kernel_rfl) (by rfl) (by kernel_rfl) (by kernel_rfl) (by kernel_rfl) (fun _ _ _ h => h) (fun wS hS => by clear hS; go_simp) hHeld ?_
                            try simp only [Act.put, List.setIfInBounds_toArray, List.set_cons_zero, List.set_cons_succ]
                            refine wpAnyH_done (by kernel_rfl) ?_ _
                            clear hHeld
                            go_wp2
                            go_roundw
                            case rel => exact ⟨k + 1, HKn.out, by go_num, by rw [HP1.out, HNN.out]; simp, Lib.hid (below_step HBs2.out (below_step HBA.out hb8))⟩
                            case measure => have := HKn.out; simp [intOf]; omega
                        | true =>
                          as_aux_lemma =>
                            refine take_g (i := 12) (d := 127) (op := Op.pick (Operand.tmp 122) (Operand.tmp 126) (Operand.const (Value.bool false))) (ty := 4) (v := .bool true) (g := none) (by kernel_rfl) (by kernel_rfl) (by rfl) (by kernel_rfl) (by kernel_rfl) (by kernel_rfl) (fun _ _ _ h => h) (fun wS hS => by clear hS; go_simp) hHeld ?_
                            try simp only [Act.put, List.setIfInBounds_toArray, List.set_cons_zero, List.set_cons_succ]
                            refine take_g (i := 13) (d := 128) (op := Op.move (Operand.tmp 127)) (ty := 4) (v := .bool true) (g := none) (by kernel_rfl) (by kernel_rfl) (by rfl) (by kernel_rfl) (by kernel_rfl) (by kernel_rfl) (fun _ _ _ h => h) (fun wS hS => by clear hS; go_simp) hHeld ?_
                            try simp only [Act.put, List.setIfInBounds_toArray, List.set_cons_zero, List.set_cons_succ]
                            refine take_g (i := 14) (d := 129) (op := Op.fieldAddr 52 (Operand.tmp 7) 2) (ty := 0) (v := .pointer (some ⟨PB, 2, none⟩)) (g := some (13, true)) (by kernel_rfl) (by kernel_rfl) (by rfl) (by kernel_rfl) (by kernel_rfl) (by kernel_rfl) (fun _ _ _ h => h) (fun wS hS => by clear hS; go_simp) hHeld ?_
                            try simp only [Act.put, List.setIfInBounds_toArray, List.set_cons_zero, List.set_cons_succ]
                            refine take_g (i := 15) (d := 130) (op := Op.load 2 (Operand.tmp 129)) (ty := 2) (v := .int .i64 c.w) (g := some (13, true)) (by kernel_rfl) (by kernel_rfl) (by rfl) (by kernel_rfl) (by kernel_rfl) (by kernel_rfl) (fun _ _ _ h => h) (fun wS hS => by (try dsimp only at hS); obtain ⟨s0, s1, s2, s3, s4, s5, s6, s7, s8, s9, sa, sb, sc⟩ := hS; go_simp) hHeld ?_
                            try simp only [Act.put, List.setIfInBounds_toArray, List.set_cons_zero, List.set_cons_succ]
                            refine wpAnyH_ready (rs := [16]) (by kernel_rfl) (by simp) ?_
                            refine AllReadyH.cons rfl (fun K hK => ?_) AllReadyH.nil
                            go_simp
                            go_at_call 58
                            with_reducible refine (cC.out _).mono ?_
                            rintro e w9 ⟨rfl, rfl⟩
                            refine hK.out _ _ hHeld (fun hHeld => ?_)
                            clear hK K
                            try simp only [Act.put, List.setIfInBounds_toArray, List.set_cons_zero, List.set_cons_succ]
                            cases hC with
                            | false =>
                              as_aux_lemma =>
                                refine take_g (i := 17) (d := 132) (op := Op.pick (Operand.tmp 128) (Operand.tmp 131) (Operand.const (Value.bool false))) (ty := 4) (v := .bool false) (g := none) (by kernel_rfl) (by kernel_rfl) (by rfl) (by kernel_rfl) (by kernel_rfl) (by kernel_rfl) (fun _ _ _ h => h) (fun wS hS => by clear hS; go_simp) hHeld ?_
                                try simp only [Act.put, List.setIfInBounds_toArray, List.set_cons_zero, List.set_cons_succ]
                                refine take_g (i := 18) (d := 133) (op := Op.move (Operand.tmp 132)) (ty := 4) (v := .bool false) (g := none) (by kernel_rfl) (by kernel_rfl) (by rfl) (by kernel_rfl) (by kernel_rfl) (by kernel_rfl) (fun _ _ _ h => h) (fun wS hS => by clear hS; go_simp) hHeld ?_
                                try simp only [Act.put, List.setIfInBounds_toArray, List.set_cons_zero, List.set_cons_succ]
                                refine skip_g (i := 19) (d := 134) (g := (18, true)) (by kernel_rfl) (by kernel_rfl) (by rfl) (by kernel_rfl) (by kernel_rfl) (by kernel_rfl) (fun _ _ _ h => h) hHeld ?_
                                try simp only [Act.put, List.setIfInBounds_toArray, List.set_cons_zero, List.set_cons_succ]
                                refine skip_g (i := 20) (d := 135) (g := (18, true)) (by kernel_rfl) (by kernel_rfl) (by rfl) (by kernel_rfl) (by kernel_rfl) (by kernel_rfl) (fun _ _ _ h => h) hHeld ?_
                                try simp only [Act.put, List.setIfInBounds_toArray, List.set_cons_zero, List.set_cons_succ]
                                refine skip_g (i := 21) (d := 136) (g := (18, true)) (by kernel_rfl) (by kernel_rfl) (by rfl) (by kernel_rfl) (by kernel_rfl) (by kernel_rfl) (fun _ _ _ h => h) hHeld ?_
                                try simp only [Act.put, List.setIfInBounds_toArray, List.set_cons_zero, List.set_cons_succ]
                                refine skip_g (i := 22) (d := 137) (g := (21, false)) (by kernel_rfl) (by kernel_rfl) (by rfl) (by kernel_rfl) (by kernel_rfl) (by kernel_rfl) (fun _ _ _ h => h) hHeld ?_
                                try simp only [Act.put, List.setIfInBounds_toArray, List.set_cons_zero, List.set_cons_succ]
                                refine skip_g (i := 23) (d := 138) (g := (21, false)) (by kernel_rfl) (by kernel_rfl) (by rfl) (by kernel_rfl) (by kernel_rfl) (by kernel_rfl) (fun _ _ _ h => h) hHeld ?_
                                try simp only [Act.put, List.setIfInBounds_toArray, List.set_cons_zero, List.set_cons_succ]
                                refine skip_g (i := 24) (d := 139) (g := (21, false)) (by kernel_rfl) (by kernel_rfl) (by rfl) (by kernel_rfl) (by kernel_rfl) (by kernel_rfl) (fun _ _ _ h => h) hHeld ?_
                                try simp only [Act.put, List.setIfInBounds_toArray, List.set_cons_zero, List.set_cons_succ]
                                refine skip_g (i := 25) (d := 140) (g := (21, false)) (by kernel_rfl) (by kernel_rfl) (by rfl) (by kernel_rfl) (by kernel_rfl) (by kernel_rfl) (fun _ _ _ h => h) hHeld ?_
                                try simp only [Act.put, List.setIfInBounds_toArray, List.set_cons_zero, List.set_cons_succ]
                                refine skip_g (i := 26) (d := 141) (g := (21, false)) (by kernel_rfl) (by kernel_rfl) (by rfl) (by kernel_rfl) (by kernel_rfl) (by kernel_rfl) (fun _ _ _ h => h) hHeld ?_
                                try simp only [Act.put, List.setIfInBounds_toArray, List.set_cons_zero, List.set_cons_succ]
                                refine skip_g (i := 27) (d := 142) (g := (21, false)) (by kernel_rfl) (by kernel_rfl) (by rfl) (by kernel_rfl) (by kernel_rfl) (by kernel_rfl) (fun _ _ _ h => h) hHeld ?_
                                try simp only [Act.put, List.setIfInBounds_toArray, List.set_cons_zero, List.set_cons_succ]
                                refine skip_g (i := 28) (d := 143) (g := (21, false)) (by kernel_rfl) (by kernel_rfl) (by rfl) (by kernel_rfl) (by kernel_rfl) (by kernel_rfl) (fun _ _ _ h => h) hHeld ?_
                                try simp only [Act.put, List.setIfInBounds_toArray, List.set_cons_zero, List.set_cons_succ]
                                refine skip_g (i := 29) (d := 144) (g := (21, false)) (by kernel_rfl) (by kernel_rfl) (by rfl) (by kernel_rfl) (by kernel_rfl) (by kernel_rfl) (fun _ _ _ h => h) hHeld ?_
                                try simp only [Act.put, List.setIfInBounds_toArray, List.set_cons_zero, List.set_cons_succ]
                                refine skip_g (i := 30) (d := 145) (g := (21, false)) (by kernel_rfl) (by kernel_rfl) (by rfl) (by kernel_rfl) (by kernel_rfl) (by kernel_rfl) (fun _ _ _ h => h) hHeld ?_
                                try simp only [Act.put, List.setIfInBounds_toArray, List.set_cons_zero, List.set_cons_succ]
                                refine skip_g (i := 31) (d := 146) (g := (21, false)) (by kernel_rfl) (by kernel_rfl) (by rfl) (by kernel_rfl) (by kernel_rfl) (by kernel_rfl) (fun _ _ _ h => h) hHeld ?_
                                try simp only [Act.put, List.setIfInBounds_toArray, List.set_cons_zero, List.set_cons_succ]
                                refine skip_g (i := 32) (d := 147) (g := (21, false)) (by kernel_rfl) (by kernel_rfl) (by rfl) (by kernel_rfl) (by kernel_rfl) (by kernel_rfl) (fun _ _ _ h => h) hHeld ?_
                                try simp only [Act.put, List.setIfInBounds_toArray, List.set_cons_zero, List.set_cons_succ]
                                refine skip_g (i := 33) (d := 148) (g := (21, false)) (by kernel_rfl) (by kernel_rfl) (by rfl) (by kernel_rfl) (by kernel_rfl) (by kernel_rfl) (fun _ _ _ h => h) hHeld ?_
                                try simp only [Act.put, List.setIfInBounds_toArray, List.set_cons_zero, List.set_cons_succ]
                                refine skip_g (i := 34) (d := 149) (g := (21, false)) (by kernel_rfl) (by kernel_rfl) (by rfl) (by kernel_rfl) (by kernel_rfl) (by kernel_rfl) (fun _ _ _ h => h) hHeld ?_
                                try simp only [Act.put, List.setIfInBounds_toArray, List.set_cons_zero, List.set_cons_succ]
                                refine skip_g (i := 35) (d := 150) (g := (21, false)) (by kernel_rfl) (by kernel_rfl) (by rfl) (by kernel_rfl) (by kernel_rfl) (by kernel_rfl) (fun _ _ _ h => h) hHeld ?_
                                try simp only [Act.put, List.setIfInBounds_toArray, List.set_cons_zero, List.set_cons_succ]
                                refine skip_g (i := 36) (d := 151) (g := (21, false)) (by kernel_rfl) (by kernel_rfl) (by rfl) (by kernel_rfl) (by kernel_rfl) (by kernel_rfl) (fun _ _ _ h => h) hHeld ?_
                                try simp only [Act.put, List.setIfInBounds_toArray, List.set_cons_zero, List.set_cons_succ]
                                refine skip_g (i := 37) (d := 152) (g := (21, false)) (by kernel_rfl) (by kernel_rfl) (by rfl) (by kernel_rfl) (by kernel_rfl) (by kernel_rfl) (fun _ _ _ h => h) hHeld ?_
                                try simp only [Act.put, List.setIfInBounds_toArray, List.set_cons_zero, List.set_cons_succ]
                                refine skip_g (i := 38) (d := 153) (g := (21, false)) (by kernel_rfl) (by kernel_rfl) (by rfl) (by kernel_rfl) (by kernel_rfl) (by kernel_rfl) (fun _ _ _ h => h) hHeld ?_
                                try simp only [Act.put, List.setIfInBounds_toArray, List.set_cons_zero, List.set_cons_succ]
                                refine skip_g (i := 39) (d := 154) (g := (21, false)) (by kernel_rfl) (by kernel_rfl) (by rfl) (by kernel_rfl) (by kernel_rfl) (by kernel_rfl) (fun _ _ _ h => h) hHeld ?_
                                try simp only [Act.put, List.setIfInBounds_toArray, List.set_cons_zero, List.set_cons_succ]
                                refine skip_g (i := 40) (d := 155) (g := (21, false)) (by kernel_rfl) (by kernel_rfl) (by rfl) (by kernel_rfl) (by kernel_rfl) (by kernel_rfl) (fun _ _ _ h => h) hHeld ?_
                                try simp only [Act.put, List.setIfInBounds_toArray, List.set_cons_zero, List.set_cons_succ]
                                refine skip_g (i := 41) (d := 156) (g := (18, true)) (by kernel_rfl) (by kernel_rfl) (by rfl) (by kernel_rfl) (by kernel_rfl) (by kernel_rfl) (fun _ _ _ h => h) hHeld ?_
                                try simp only [Act.put, List.setIfInBounds_toArray, List.set_cons_zero, List.set_cons_succ]
                                refine take_g (i := 42) (d := 157) (op := Op.pick (Operand.tmp 133) (Operand.tmp 156) (Operand.const (Value.bool false))) (ty := 4) (v := .bool false) (g := none) (by kernel_rfl) (by kernel_rfl) (by rfl) (by kernel_rfl) (by kernel_rfl) (by kernel_rfl) (fun _ _ _ h => h) (fun wS hS => by clear hS; go_simp) hHeld ?_
                                try simp only [Act.put, List.setIfInBounds_toArray, List.set_cons_zero, List.set_cons_succ]
                                refine take_g (i := 43) (d := 3) (op := Op.assign (Operand.tmp 157)) (ty := 4) (v := .bool false) (g := none) (by kernel_rfl) (by kernel_rfl) (by rfl) (by kernel_rfl) (by kernel_rfl) (by kernel_rfl) (fun _ _ _ h => h) (fun wS hS => by clear hS; go_simp) hHeld ?_
                                try simp only [Act.put, List.setIfInBounds_toArray, List.set_cons_zero, List.set_cons_succ]
                                refine wpAnyH_done (by kernel_rfl) ?_ _
                                clear hHeld
                                go_wp2
                                go_roundw
                                case rel => exact ⟨k + 1, HKn.out, by go_num, by rw [HP1.out, HNN.out]; simp, Lib.hid (below_step HBs2.out (below_step HBA.out hb8))⟩
                                case measure => have := HKn.out; simp [intOf]; omega
                            | true =>
                              as_aux_lemma =>
                                rcases HTk.out with ⟨hkz, rfl⟩ | ⟨hk0, rfl⟩
                                · subst hkz
                                  clear j2
                                  as_aux_lemma =>
                                    refine take_g (i := 17) (d := 132) (op := Op.pick (Operand.tmp 128) (Operand.tmp 131) (Operand.const (Value.bool false))) (ty := 4) (v := .bool true) (g := none) (by kernel_rfl) (by kernel_rfl) (by rfl) (by kernel_rfl) (by kernel_rfl) (by kernel_rfl) (fun _ _ _ h => h) (fun wS hS => by clear hS; go_simp) hHeld ?_
                                    try simp only [Act.put, List.setIfInBounds_toArray, List.set_cons_zero, List.set_cons_succ]
                                    refine take_g (i := 18) (d := 133) (op := Op.move (Operand.tmp 132)) (ty := 4) (v := .bool true) (g := none) (by kernel_rfl) (by kernel_rfl) (by rfl) (by kernel_rfl) (by kernel_rfl) (by kernel_rfl) (fun _ _ _ h => h) (fun wS hS => by clear hS; go_simp) hHeld ?_
                                    try simp only [Act.put, List.setIfInBounds_toArray, List.set_cons_zero, List.set_cons_succ]
                                    refine take_g (i := 19) (d := 134) (op := Op.move (Operand.tmp 6)) (ty := 3) (v := .int .i64 ((0 : Nat) : Int)) (g := some (18, true)) (by kernel_rfl) (by kernel_rfl) (by rfl) (by kernel_rfl) (by kernel_rfl) (by kernel_rfl) (fun _ _ _ h => h) (fun wS hS => by clear hS; go_simp) hHeld ?_
                                    try simp only [Act.put, List.setIfInBounds_toArray, List.set_cons_zero, List.set_cons_succ]
                                    refine take_g (i := 20) (d := 135) (op := Op.binOp BinOp.eql 3 (Operand.tmp 134) (Operand.const (Value.int IntKind.i64 0)) 3) (ty := 4) (v := .bool true) (g := some (18, true)) (by kernel_rfl) (by kernel_rfl) (by rfl) (by kernel_rfl) (by kernel_rfl) (by kernel_rfl) (fun _ _ _ h => h) (fun wS hS => by clear hS; go_simp) hHeld ?_
                                    try simp only [Act.put, List.setIfInBounds_toArray, List.set_cons_zero, List.set_cons_succ]
                                    refine take_g (i := 21) (d := 136) (op := Op.move (Operand.tmp 135)) (ty := 4) (v := .bool true) (g := some (18, true)) (by kernel_rfl) (by kernel_rfl) (by rfl) (by kernel_rfl) (by kernel_rfl) (by kernel_rfl) (fun _ _ _ h => h) (fun wS hS => by clear hS; go_simp) hHeld ?_
                                    try simp only [Act.put, List.setIfInBounds_toArray, List.set_cons_zero, List.set_cons_succ]
                                    refine skip_g (i := 22) (d := 137) (g := (21, false)) (by kernel_rfl) (by kernel_rfl) (by rfl) (by kernel_rfl) (by kernel_rfl) (by kernel_rfl) (fun _ _ _ h => h) hHeld ?_
                                    try simp only [Act.put, List.setIfInBounds_toArray, List.set_cons_zero, List.set_cons_succ]
                                    refine skip_g (i := 23) (d := 138) (g := (21, false)) (by kernel_rfl) (by kernel_rfl) (by rfl) (by kernel_rfl) (by kernel_rfl) (by kernel_rfl) (fun _ _ _ h => h) hHeld ?_
                                    try simp only [Act.put, List.setIfInBounds_toArray, List.set_cons_zero, List.set_cons_succ]
                                    refine skip_g (i := 24) (d := 139) (g := (21, false)) (by kernel_rfl) (by kernel_rfl) (by rfl) (by kernel_rfl) (by kernel_rfl) (by kernel_rfl) (fun _ _ _ h => h) hHeld ?_
                                    try simp only [Act.put, List.setIfInBounds_toArray, List.set_cons_zero, List.set_cons_succ]
                                    refine skip_g (i := 25) (d := 140) (g := (21, false)) (by kernel_rfl) (by kernel_rfl) (by rfl) (by kernel_rfl) (by kernel_rfl) (by kernel_rfl) (fun _ _ _ h => h) hHeld ?_
                                    try simp only [Act.put, List.setIfInBounds_toArray, List.set_cons_zero, List.set_cons_succ]
                                    refine skip_g (i := 26) (d := 141) (g := (21, false)) (by kernel_rfl) (by kernel_rfl) (by rfl) (by kernel_rfl) (by kernel_rfl) (by kernel_rfl) (fun _ _ _ h => h) hHeld ?_
                                    try simp only [Act.put, List.setIfInBounds_toArray, List.set_cons_zero, List.set_cons_succ]
                                    refine skip_g (i := 27) (d := 142) (g := (21, false)) (by kernel_rfl) (by kernel_rfl) (by rfl) (by kernel_rfl) (by kernel_rfl) (by kernel_rfl) (fun _ _ _ h => h) hHeld ?_
                                    try simp only [Act.put, List.setIfInBounds_toArray, List.set_cons_zero, List.set_cons_succ]
                                    refine skip_g (i := 28) (d := 143) (g := (21, false)) (by kernel_rfl) (by kernel_rfl) (by rfl) (by kernel_rfl) (by kernel_rfl) (by kernel_rfl) (fun _ _ _ h => h) hHeld ?_
                                    try simp only [Act.put, List.setIfInBounds_toArray, List.set_cons_zero, List.set_cons_succ]
                                    refine skip_g (i := 29) (d := 144) (g := (21, false)) (by kernel_rfl) (by kernel_rfl) (by rfl) (by kernel_rfl) (by kernel_rfl) (by kernel_rfl) (fun _ _ _ h => h) hHeld ?_
                                    try simp only [Act.put, List.setIfInBounds_toArray, List.set_cons_zero, List.set_cons_succ]
                                    refine skip_g (i := 30) (d := 145) (g := (21, false)) (by kernel_rfl) (by kernel_rfl) (by rfl) (by kernel_rfl) (by kernel_rfl) (by kernel_rfl) (fun _ _ _ h => h) hHeld ?_
                                    try simp only [Act.put, List.setIfInBounds_toArray, List.set_cons_zero, List.set_cons_succ]
                                    refine skip_g (i := 31) (d := 146) (g := (21, false)) (by kernel_rfl) (by kernel_rfl) (by rfl) (by kernel_rfl) (by kernel_rfl) (by kernel_rfl) (fun _ _ _ h => h) hHeld ?_
                                    try simp only [Act.put, List.setIfInBounds_toArray, List.set_cons_zero, List.set_cons_succ]
                                    refine skip_g (i := 32) (d := 147) (g := (21, false)) (by kernel_rfl) (by kernel_rfl) (by rfl) (by kernel_rfl) (by kernel_rfl) (by kernel_rfl) (fun _ _ _ h => h) hHeld ?_
                                    try simp only [Act.put, List.setIfInBounds_toArray, List.set_cons_zero, List.set_cons_succ]
                                    refine skip_g (i := 33) (d := 148) (g := (21, false)) (by kernel_rfl) (by kernel_rfl) (by rfl) (by kernel_rfl) (by kernel_rfl) (by kernel_rfl) (fun _ _ _ h => h) hHeld ?_
                                    try simp only [Act.put, List.setIfInBounds_toArray, List.set_cons_zero, List.set_cons_succ]
                                    refine skip_g (i := 34) (d := 149) (g := (21, false)) (by kernel_rfl) (by kernel_rfl) (by rfl) (by kernel_rfl) (by kernel_rfl) (by kernel_rfl) (fun _ _ _ h => h) hHeld ?_
                                    try simp only [Act.put, List.setIfInBounds_toArray, List.set_cons_zero, List.set_cons_succ]
                                    refine skip_g (i := 35) (d := 150) (g := (21, false)) (by kernel_rfl) (by kernel_rfl) (by rfl) (by kernel_rfl) (by kernel_rfl) (by kernel_rfl) (fun _ _ _ h => h) hHeld ?_
                                    try simp only [Act.put, List.setIfInBounds_toArray, List.set_cons_zero, List.set_cons_succ]
                                    refine skip_g (i := 36) (d := 151) (g := (21, false)) (by kernel_rfl) (by kernel_rfl) (by rfl) (by kernel_rfl) (by kernel_rfl) (by kernel_rfl) (fun _ _ _ h => h) hHeld ?_
                                    try simp only [Act.put, List.setIfInBounds_toArray, List.set_cons_zero, List.set_cons_succ]
                                    refine skip_g (i := 37) (d := 152) (g := (21, false)) (by kernel_rfl) (by kernel_rfl) (by rfl) (by kernel_rfl) (by kernel_rfl) (by kernel_rfl) (fun _ _ _ h => h) hHeld ?_
                                    try simp only [Act.put, List.setIfInBounds_toArray, List.set_cons_zero, List.set_cons_succ]
                                    refine skip_g (i := 38) (d := 153) (g := (21, false)) (by kernel_rfl) (by kernel_rfl) (by rfl) (by kernel_rfl) (by kernel_rfl) (by kernel_rfl) (fun _ _ _ h => h) hHeld ?_
                                    try simp only [Act.put, List.setIfInBounds_toArray, List.set_cons_zero, List.set_cons_succ]
                                    refine skip_g (i := 39) (d := 154) (g := (21, false)) (by kernel_rfl) (by kernel_rfl) (by rfl) (by kernel_rfl) (by kernel_rfl) (by kernel_rfl) (fun _ _ _ h => h) hHeld ?_
                                    try simp only [Act.put, List.setIfInBounds_toArray, List.set_cons_zero, List.set_cons_succ]
                                    refine skip_g (i := 40) (d := 155) (g := (21, false)) (by kernel_rfl) (by kernel_rfl) (by rfl) (by kernel_rfl) (by kernel_rfl) (by kernel_rfl) (fun _ _ _ h => h) hHeld ?_
                                    try simp only [Act.put, List.setIfInBounds_toArray, List.set_cons_zero, List.set_cons_succ]
                                    refine take_g (i := 41) (d := 156) (op := Op.pick (Operand.tmp 136) (Operand.const (Value.bool true)) (Operand.tmp 155)) (ty := 4) (v := .bool true) (g := some (18, true)) (by kernel_rfl) (by kernel_rfl) (by rfl) (by kernel_rfl) (by kernel_rfl) (by kernel_rfl) (fun _ _ _ h => h) (fun wS hS => by clear hS; go_simp) hHeld ?_
                                    try simp only [Act.put, List.setIfInBounds_toArray, List.set_cons_zero, List.set_cons_succ]
                                    refine take_g (i := 42) (d := 157) (op := Op.pick (Operand.tmp 133) (Operand.tmp 156) (Operand.const (Value.bool false))) (ty := 4) (v := .bool true) (g := none) (by kernel_rfl) (by kernel_rfl) (by rfl) (by kernel_rfl) (by kernel_rfl) (by kernel_rfl) (fun _ _ _ h => h) (fun wS hS => by clear hS; go_simp) hHeld ?_
                                    try simp only [Act.put, List.setIfInBounds_toArray, List.set_cons_zero, List.set_cons_succ]
                                    refine take_g (i := 43) (d := 3) (op := Op.assign (Operand.tmp 157)) (ty := 4) (v := .bool true) (g := none) (by kernel_rfl) (by kernel_rfl) (by rfl) (by kernel_rfl) (by kernel_rfl) (by kernel_rfl) (fun _ _ _ h => h) (fun wS hS => by clear hS; go_simp) hHeld ?_
                                    try simp only [Act.put, List.setIfInBounds_toArray, List.set_cons_zero, List.set_cons_succ]
                                    refine wpAnyH_done (by kernel_rfl) ?_ _
                                    clear hHeld
                                    go_wp2
                                    go_roundw
                                    case rel => exact ⟨0 + 1, HKn.out, by go_num, by rw [HP1.out, HNN.out]; simp, Lib.hid (below_step HBs2.out (below_step HBA.out hb8))⟩
                                    case measure => have := HKn.out; simp [intOf]; omega
                                · have j0 : (k : Int) ≠ 0 := by omega
                                  have j1 : ((k : Int) == 0) = false := beq_eq_false_iff_ne.2 j0
                                  have j5 := j2.out hk0
                                  clear j2
                                  as_aux_lemma =>
                                    refine take_g (i := 17) (d := 132) (op := Op.pick (Operand.tmp 128) (Operand.tmp 131) (Operand.const (Value.bool false))) (ty := 4) (v := .bool true) (g := none) (by kernel_rfl) (by kernel_rfl) (by rfl) (by kernel_rfl) (by kernel_rfl) (by kernel_rfl) (fun _ _ _ h => h) (fun wS hS => by clear hS; go_simp) hHeld ?_
                                    try simp only [Act.put, List.setIfInBounds_toArray, List.set_cons_zero, List.set_cons_succ]
                                    refine take_g (i := 18) (d := 133) (op := Op.move (Operand.tmp 132)) (ty := 4) (v := .bool true) (g := none) (by kernel_rfl) (by kernel_rfl) (by rfl) (by kernel_rfl) (by kernel_rfl) (by kernel_rfl) (fun _ _ _ h => h) (fun wS hS => by clear hS; go_simp) hHeld ?_
                                    try simp only [Act.put, List.setIfInBounds_toArray, List.set_cons_zero, List.set_cons_succ]
                                    refine take_g (i := 19) (d := 134) (op := Op.move (Operand.tmp 6)) (ty := 3) (v := .int .i64 (k : Int)) (g := some (18, true)) (by kernel_rfl) (by kernel_rfl) (by rfl) (by kernel_rfl) (by kernel_rfl) (by kernel_rfl) (fun _ _ _ h => h) (fun wS hS => by clear hS; go_simp) hHeld ?_
                                    try simp only [Act.put, List.setIfInBounds_toArray, List.set_cons_zero, List.set_cons_succ]
                                    refine take_g (i := 20) (d := 135) (op := Op.binOp BinOp.eql 3 (Operand.tmp 134) (Operand.const (Value.int IntKind.i64 0)) 3) (ty := 4) (v := .bool false) (g := some (18, true)) (by kernel_rfl) (by kernel_rfl) (by rfl) (by kernel_rfl) (by kernel_rfl) (by kernel_rfl) (fun _ _ _ h => h) (fun wS hS => by clear hS; go_simp) hHeld ?_
                                    try simp only [Act.put, List.setIfInBounds_toArray, List.set_cons_zero, List.set_cons_succ]
                                    refine take_g (i := 21) (d := 136) (op := Op.move (Operand.tmp 135)) (ty := 4) (v := .bool false) (g := some (18, true)) (by kernel_rfl) (by kernel_rfl) (by rfl) (by kernel_rfl) (by kernel_rfl) (by kernel_rfl) (fun _ _ _ h => h) (fun wS hS => by clear hS; go_simp) hHeld ?_
                                    try simp only [Act.put, List.setIfInBounds_toArray, List.set_cons_zero, List.set_cons_succ]
                                    refine take_g (i := 22) (d := 137) (op := Op.fieldAddr 28 (Operand.tmp 1) 3) (ty := 0) (v := .pointer (some ⟨w.heap.size, 6, none⟩)) (g := some (21, false)) (by kernel_rfl) (by kernel_rfl) (by rfl) (by kernel_rfl) (by kernel_rfl) (by kernel_rfl) (fun _ _ _ h => h) (fun wS hS => by clear hS; go_simp) hHeld ?_
                                    try simp only [Act.put, List.setIfInBounds_toArray, List.set_cons_zero, List.set_cons_succ]
                                    refine take_g (i := 23) (d := 138) (op := Op.load 25 (Operand.tmp 137)) (ty := 25) (v := .slice (some ⟨b1, o1, none⟩) nb ck) (g := some (21, false)) (by kernel_rfl) (by kernel_rfl) (by rfl) (by kernel_rfl) (by kernel_rfl) (by kernel_rfl) (fun _ _ _ h => h) (fun wS hS => by (try dsimp only at hS); obtain ⟨s0, s1, s2, s3, s4, s5, s6, s7, s8, s9, sa, sb, sc⟩ := hS; go_simp) hHeld ?_
                                    try simp only [Act.put, List.setIfInBounds_toArray, List.set_cons_zero, List.set_cons_succ]
                                    refine take_g (i := 24) (d := 139) (op := Op.move (Operand.tmp 6)) (ty := 3) (v := .int .i64 (k : Int)) (g := some (21, false)) (by kernel_rfl) (by kernel_rfl) (by rfl) (by kernel_rfl) (by kernel_rfl) (by kernel_rfl) (fun _ _ _ h => h) (fun wS hS => by clear hS; go_simp) hHeld ?_
                                    try simp only [Act.put, List.setIfInBounds_toArray, List.set_cons_zero, List.set_cons_succ]
                                    refine take_g (i := 25) (d := 140) (op := Op.binOp BinOp.sub 3 (Operand.tmp 139) (Operand.const (Value.int IntKind.i64 1)) 3) (ty := 3) (v := .int .i64 (J : Int)) (g := some (21, false)) (by kernel_rfl) (by kernel_rfl) (by rfl) (by kernel_rfl) (by kernel_rfl) (by kernel_rfl) (fun _ _ _ h => h) (fun wS hS => by clear hS; go_simp) hHeld ?_
                                    try simp only [Act.put, List.setIfInBounds_toArray, List.set_cons_zero, List.set_cons_succ]
                                    refine take_g (i := 26) (d := 141) (op := Op.indexAddr 25 (Operand.tmp 138) (Operand.tmp 140)) (ty := 0) (v := .pointer (some ⟨b1, o1 + J * 3, none⟩)) (g := some (21, false)) (by kernel_rfl) (by kernel_rfl) (by rfl) (by kernel_rfl) (by kernel_rfl) (by kernel_rfl) (fun _ _ _ h => h) (fun wS hS => by clear hS; go_simp) hHeld ?_
                                    try simp only [Act.put, List.setIfInBounds_toArray, List.set_cons_zero, List.set_cons_succ]
                                    refine take_g (i := 27) (d := 142) (op := Op.fieldAddr 52 (Operand.tmp 141) 0) (ty := 0) (v := .pointer (some ⟨b1, o1 + J * 3, none⟩)) (g := some (21, false)) (by kernel_rfl) (by kernel_rfl) (by rfl) (by kernel_rfl) (by kernel_rfl) (by kernel_rfl) (fun _ _ _ h => h) (fun wS hS => by clear hS; go_simp) hHeld ?_
                                    try simp only [Act.put, List.setIfInBounds_toArray, List.set_cons_zero, List.set_cons_succ]
                                    refine take_g (i := 28) (d := 143) (op := Op.load 21 (Operand.tmp 142)) (ty := 21) (v := .int .i32 y.a) (g := some (21, false)) (by kernel_rfl) (by kernel_rfl) (by rfl) (by kernel_rfl) (by kernel_rfl) (by kernel_rfl) (fun _ _ _ h => h) (fun wS hS => by (try dsimp only at hS); obtain ⟨s0, s1, s2, s3, s4, s5, s6, s7, s8, s9, sa, sb, sc⟩ := hS; go_simp) hHeld ?_
                                    try simp only [Act.put, List.setIfInBounds_toArray, List.set_cons_zero, List.set_cons_succ]
                                    refine take_g (i := 29) (d := 144) (op := Op.fieldAddr 28 (Operand.tmp 1) 3) (ty := 0) (v := .pointer (some ⟨w.heap.size, 6, none⟩)) (g := some (21, false)) (by kernel_rfl) (by kernel_rfl) (by rfl) (by kernel_rfl) (by kernel_rfl) (by kernel_rfl) (fun _ _ _ h => h) (fun wS hS => by clear hS; go_simp) hHeld ?_
                                    try simp only [Act.put, List.setIfInBounds_toArray, List.set_cons_zero, List.set_cons_succ]
                                    refine take_g (i := 30) (d := 145) (op := Op.load 25 (Operand.tmp 144)) (ty := 25) (v := .slice (some ⟨b1, o1, none⟩) nb ck) (g := some (21, false)) (by kernel_rfl) (by kernel_rfl) (by rfl) (by kernel_rfl) (by kernel_rfl) (by kernel_rfl) (fun _ _ _ h => h) (fun wS hS => by (try dsimp only at hS); obtain ⟨s0, s1, s2, s3, s4, s5, s6, s7, s8, s9, sa, sb, sc⟩ := hS; go_simp) hHeld ?_
                                    try simp only [Act.put, List.setIfInBounds_toArray, List.set_cons_zero, List.set_cons_succ]
                                    refine take_g (i := 31) (d := 146) (op := Op.move (Operand.tmp 6)) (ty := 3) (v := .int .i64 (k : Int)) (g := some (21, false)) (by kernel_rfl) (by kernel_rfl) (by rfl) (by kernel_rfl) (by kernel_rfl) (by kernel_rfl) (fun _ _ _ h => h) (fun wS hS => by clear hS; go_simp) hHeld ?_
                                    try simp only [Act.put, List.setIfInBounds_toArray, List.set_cons_zero, List.set_cons_succ]
                                    refine take_g (i := 32) (d := 147) (op := Op.binOp BinOp.sub 3 (Operand.tmp 146) (Operand.const (Value.int IntKind.i64 1)) 3) (ty := 3) (v := .int .i64 (J : Int)) (g := some (21, false)) (by kernel_rfl) (by kernel_rfl) (by rfl) (by kernel_rfl) (by kernel_rfl) (by kernel_rfl) (fun _ _ _ h => h) (fun wS hS => by clear hS; go_simp) hHeld ?_
                                    try simp only [Act.put, List.setIfInBounds_toArray, List.set_cons_zero, List.set_cons_succ]
                                    refine take_g (i := 33) (d := 148) (op := Op.indexAddr 25 (Operand.tmp 145) (Operand.tmp 147)) (ty := 0) (v := .pointer (some ⟨b1, o1 + J * 3, none⟩)) (g := some (21, false)) (by kernel_rfl) (by kernel_rfl) (by rfl) (by kernel_rfl) (by kernel_rfl) (by kernel_rfl) (fun _ _ _ h => h) (fun wS hS => by clear hS; go_simp) hHeld ?_
                                    try simp only [Act.put, List.setIfInBounds_toArray, List.set_cons_zero, List.set_cons_succ]
                                    refine take_g (i := 34) (d := 149) (op := Op.fieldAddr 52 (Operand.tmp 148) 1) (ty := 0) (v := .pointer (some ⟨b1, o1 + J * 3 + 1, none⟩)) (g := some (21, false)) (by kernel_rfl) (by kernel_rfl) (by rfl) (by kernel_rfl) (by kernel_rfl) (by kernel_rfl) (fun _ _ _ h => h) (fun wS hS => by clear hS; go_simp) hHeld ?_
                                    try simp only [Act.put, List.setIfInBounds_toArray, List.set_cons_zero, List.set_cons_succ]
                                    refine take_g (i := 35) (d := 150) (op := Op.load 21 (Operand.tmp 149)) (ty := 21) (v := .int .i32 y.b) (g := some (21, false)) (by kernel_rfl) (by kernel_rfl) (by rfl) (by kernel_rfl) (by kernel_rfl) (by kernel_rfl) (fun _ _ _ h => h) (fun wS hS => by (try dsimp only at hS); obtain ⟨s0, s1, s2, s3, s4, s5, s6, s7, s8, s9, sa, sb, sc⟩ := hS; go_simp) hHeld ?_
                                    try simp only [Act.put, List.setIfInBounds_toArray, List.set_cons_zero, List.set_cons_succ]
                                    refine take_g (i := 36) (d := 151) (op := Op.fieldAddr 52 (Operand.tmp 7) 0) (ty := 0) (v := .pointer (some ⟨PB, 0, none⟩)) (g := some (21, false)) (by kernel_rfl) (by kernel_rfl) (by rfl) (by kernel_rfl) (by kernel_rfl) (by kernel_rfl) (fun _ _ _ h => h) (fun wS hS => by clear hS; go_simp) hHeld ?_
                                    try simp only [Act.put, List.setIfInBounds_toArray, List.set_cons_zero, List.set_cons_succ]
                                    refine take_g (i := 37) (d := 152) (op := Op.load 21 (Operand.tmp 151)) (ty := 21) (v := .int .i32 c.a) (g := some (21, false)) (by kernel_rfl) (by kernel_rfl) (by rfl) (by kernel_rfl) (by kernel_rfl) (by kernel_rfl) (fun _ _ _ h => h) (fun wS hS => by (try dsimp only at hS); obtain ⟨s0, s1, s2, s3, s4, s5, s6, s7, s8, s9, sa, sb, sc⟩ := hS; go_simp) hHeld ?_
                                    try simp only [Act.put, List.setIfInBounds_toArray, List.set_cons_zero, List.set_cons_succ]
                                    refine take_g (i := 38) (d := 153) (op := Op.fieldAddr 52 (Operand.tmp 7) 1) (ty := 0) (v := .pointer (some ⟨PB, 1, none⟩)) (g := some (21, false)) (by kernel_rfl) (by kernel_rfl) (by rfl) (by kernel_rfl) (by kernel_rfl) (by kernel_rfl) (fun _ _ _ h => h) (fun wS hS => by clear hS; go_simp) hHeld ?_
                                    try simp only [Act.put, List.setIfInBounds_toArray, List.set_cons_zero, List.set_cons_succ]
                                    refine take_g (i := 39) (d := 154) (op := Op.load 21 (Operand.tmp 153)) (ty := 21) (v := .int .i32 c.b) (g := some (21, false)) (by kernel_rfl) (by kernel_rfl) (by rfl) (by kernel_rfl) (by kernel_rfl) (by kernel_rfl) (fun _ _ _ h => h) (fun wS hS => by (try dsimp only at hS); obtain ⟨s0, s1, s2, s3, s4, s5, s6, s7, s8, s9, sa, sb, sc⟩ := hS; go_simp) hHeld ?_
                                    try simp only [Act.put, List.setIfInBounds_toArray, List.set_cons_zero, List.set_cons_succ]
                                    refine wpAnyH_ready (rs := [40]) (by kernel_rfl) (by simp) ?_
                                    refine AllReadyH.cons rfl (fun K hK => ?_) AllReadyH.nil
                                    go_simp
                                    go_at_call 59
                                    with_reducible refine (cT.out _).mono ?_
                                    rintro e w10 ⟨rfl, rfl⟩
                                    refine hK.out _ _ hHeld (fun hHeld => ?_)
                                    clear hK K
                                    try simp only [Act.put, List.setIfInBounds_toArray, List.set_cons_zero, List.set_cons_succ]
                                    refine take_g (i := 41) (d := 156) (op := Op.pick (Operand.tmp 136) (Operand.const (Value.bool true)) (Operand.tmp 155)) (ty := 4) (v := .bool T) (g := some (18, true)) (by kernel_rfl) (by kernel_rfl) (by rfl) (by kernel_rfl) (by kernel_rfl) (by kernel_rfl) (fun _ _ _ h => h) (fun wS hS => by clear hS; go_simp) hHeld ?_
                                    try simp only [Act.put, List.setIfInBounds_toArray, List.set_cons_zero, List.set_cons_succ]
                                    refine take_g (i := 42) (d := 157) (op := Op.pick (Operand.tmp 133) (Operand.tmp 156) (Operand.const (Value.bool false))) (ty := 4) (v := .bool T) (g := none) (by kernel_rfl) (by kernel_rfl) (by rfl) (by kernel_rfl) (by kernel_rfl) (by kernel_rfl) (fun _ _ _ h => h) (fun wS hS => by clear hS; go_simp) hHeld ?_
                                    try simp only [Act.put, List.setIfInBounds_toArray, List.set_cons_zero, List.set_cons_succ]
                                    refine take_g (i := 43) (d := 3) (op := Op.assign (Operand.tmp 157)) (ty := 4) (v := .bool T) (g := none) (by kernel_rfl) (by kernel_rfl) (by rfl) (by kernel_rfl) (by kernel_rfl) (by kernel_rfl) (fun _ _ _ h => h) (fun wS hS => by clear hS; go_simp) hHeld ?_
                                    try simp only [Act.put, List.setIfInBounds_toArray, List.set_cons_zero, List.set_cons_succ]
                                    refine wpAnyH_done (by kernel_rfl) ?_ _
                                    clear hHeld
                                    go_wp2
                                    go_roundw
                                    case rel => exact ⟨k + 1, HKn.out, by go_num, by rw [HP1.out, HNN.out]; simp, Lib.hid (below_step HBs2.out (below_step HBA.out hb8))⟩
                                    case measure => have := HKn.out; simp [intOf]; omega
            · have HLr := HLs
              have HMr := HMs
              have HBw := HBv
              have HBr := HBs2
              clear HLs HMs HBv HBs2
              have HE : Hid (preOk (Mt.knOk m) (fun a b => Mt.rises a.a a.b b.a b.b) m.kerns k = (m.kerns.all (Mt.knOk m) && Mt.up (fun a b => Mt.rises a.a a.b b.a b.b) m.kerns)) := Lib.hid (preOk_end _ _ (by rw [← Hnb.out]; omega))
              rw [HE.out]
              generalize (B1 && (m.kerns.all (Mt.knOk m) && Mt.up (fun a b => Mt.rises a.a a.b b.a b.b) m.kerns)) = B2 at HMay2 ⊢
              go_wp2_with fail
              clear y0 y1 y2 y3 y4 y5 y6 y7
              go_loopw [3, 8] (fun ov iv wr2 => ∃ k : Nat, k ≤ nc ∧ iv = .int .i64 k ∧ ov = .bool (B2 && preOk (Mt.lgOk m) (fun a b => Mt.rises a.a a.b b.a b.b) m.ligs k) ∧ Hid (Below wr.heap.size wr wr2)) (fun _ iv _ => nc - (intOf iv).toNat)
              case atStart => exact ⟨0, Nat.zero_le _, rfl, by rw [preOk_zero, Bool.and_true], Lib.hid (Below.refl _ _)⟩
              case round =>
                clear HE hk
                obtain ⟨k, hk, rfl, rfl, HBs⟩ := hrel
                have HLs := Lib.hid (HLr.out.mono HBs.out)
                have HMs := Lib.hid (HMr.out.mono HBs.out)
                have HBv := Lib.hid (below_step HBw.out HBs.out)
                have HBs2 := HBs
                clear HLr HMr HBw HBr HBs
                have y0 := HLs.out.at_ 0 _ rfl
                have y1 := HLs.out.at_ 1 _ rfl
                have y2 := HLs.out.at_ 2 _ rfl
                have y3 := HLs.out.at_ 3 _ rfl
                have y4 := HLs.out.at_ 4 _ rfl
                have y5 := HLs.out.at_ 5 _ rfl
                have y6 := HLs.out.at_ 6 _ rfl
                have y7 := HLs.out.at_ 7 _ rfl
                by_cases hlt : k < nc
                · obtain ⟨b1, o1, d1, e1, r1⟩ := HG.out.2.2 (by rw [← Hnc.out]; omega)
                  obtain ⟨rfl, rfl⟩ : pl = some ⟨b1, o1, none⟩ ∧ cl = d1 := by injection e1 with a1 a2 a3; exact ⟨a1, a3⟩
                  obtain ⟨c, hc⟩ : ∃ c, m.ligs[k]? = some c := ⟨_, List.getElem?_eq_getElem (by rw [← Hnc.out]; exact hlt)⟩
                  obtain ⟨J, hJ⟩ : ∃ J, J = k - 1 := ⟨_, rfl⟩
                  obtain ⟨y, hy⟩ : ∃ y, m.ligs[J]? = some y := ⟨_, List.getElem?_eq_getElem (by rw [← Hnc.out]; omega)⟩
                  obtain ⟨z0, z1, z2⟩ := lg_cells ((r1 k c hc).mono HBv.out)
                  obtain ⟨zp0, zp1, _⟩ := lg_cells ((r1 J y hy).mono HBv.out)
                  have k0 : (0 : Int) ≤ (k : Int) := by omega
                  have kl : (k : Int) < (nc : Int) := by omega
                  obtain ⟨T, hT, hTk⟩ : ∃ T, preOk (Mt.lgOk m) (fun a b => Mt.rises a.a a.b b.a b.b) m.ligs (k + 1) = (preOk (Mt.lgOk m) (fun a b => Mt.rises a.a a.b b.a b.b) m.ligs k && (Mt.has m c.a && Mt.has m c.b && Mt.has m c.to) && T) ∧ ((k = 0 ∧ T = true) ∨ (k ≠ 0 ∧ T = Mt.rises y.a y.b c.a c.b)) := by
                    cases k with
                    | zero => exact ⟨true, by rw [preOk_one _ _ hc, preOk_zero]; simp [Mt.knOk, Mt.lgOk], .inl ⟨rfl, rfl⟩⟩
                    | succ j =>
                      obtain rfl : J = j := by omega
                      exact ⟨_, by rw [preOk_step _ _ hy hc, Bool.and_assoc]; rfl, .inr ⟨by omega, rfl⟩⟩
                  have HN := Lib.hid hT
                  have HJ := Lib.hid hJ
                  have HTk := Lib.hid hTk
                  clear r1 e1 hc hy hT hTk hJ
                  have cA : Hid (∀ W, MetAt W (.agg #[.int .i64 sw, .int .i64 st, .int .i64 sk, .int .i64 0, .int .i32 hy, .slice pc na cc, .slice pk nb ck, .slice (some ⟨b1, o1, none⟩) nc cl]) m → Calls Tryz.prog 56 #[(.agg #[.int .i64 sw, .int .i64 st, .int .i64 sk, .int .i64 0, .int .i32 hy, .slice pc na cc, .slice pk nb ck, .slice (some ⟨b1, o1, none⟩) nc cl]), .int .i32 c.a] W (Ret (.bool (Mt.has m c.a)) W)) := Lib.hid (fun W h => HHas.out c.a _ W h)
                  have cB : Hid (∀ W, MetAt W (.agg #[.int .i64 sw, .int .i64 st, .int .i64 sk, .int .i64 0, .int .i32 hy, .slice pc na cc, .slice pk nb ck, .slice (some ⟨b1, o1, none⟩) nc cl]) m → Calls Tryz.prog 56 #[(.agg #[.int .i64 sw, .int .i64 st, .int .i64 sk, .int .i64 0, .int .i32 hy, .slice pc na cc, .slice pk nb ck, .slice (some ⟨b1, o1, none⟩) nc cl]), .int .i32 c.b] W (Ret (.bool (Mt.has m c.b)) W)) := Lib.hid (fun W h => HHas.out c.b _ W h)
                  have cC : Hid (∀ W, MetAt W (.agg #[.int .i64 sw, .int .i64 st, .int .i64 sk, .int .i64 0, .int .i32 hy, .slice pc na cc, .slice pk nb ck, .slice (some ⟨b1, o1, none⟩) nc cl]) m → Calls Tryz.prog 56 #[(.agg #[.int .i64 sw, .int .i64 st, .int .i64 sk, .int .i64 0, .int .i32 hy, .slice pc na cc, .slice pk nb ck, .slice (some ⟨b1, o1, none⟩) nc cl]), .int .i32 c.to] W (Ret (.bool (Mt.has m c.to)) W)) := Lib.hid (fun W h => HHas.out c.to _ W h)
                  have cT : Hid (∀ W, Calls Tryz.prog 59 #[.int .i32 y.a, .int .i32 y.b, .int .i32 c.a, .int .i32 c.b] W (Is (.bool (Mt.rises y.a y.b c.a c.b)) W)) := Lib.hid (fun W => rises_any y.a y.b c.a c.b W)
                  generalize Mt.has m c.a = hA at cA HN
                  generalize Mt.has m c.b = hB at cB HN
                  generalize Mt.has m c.to = hC at cC HN
                  generalize Mt.rises y.a y.b c.a c.b = tT at cT HTk
                  generalize hP1 : preOk (Mt.lgOk m) (fun a b => Mt.rises a.a a.b b.a b.b) m.ligs (k + 1) = P1 at HN
                  have HP1 := Lib.hid hP1
                  clear hP1
                  generalize preOk (Mt.lgOk m) (fun a b => Mt.rises a.a a.b b.a b.b) m.ligs k = P0 at HN ⊢
                  have HNN : Hid ((B2 && P1) = ((B2 && P0) && (hA && hB && hC) && T)) := Lib.hid (by rw [HN.out]; cases B2 <;> rfl)
                  clear HN
                  generalize (B2 && P0) = b0 at HNN ⊢
                  have hSw : wr.cell? ⟨w.heap.size, 0, none⟩ = some (.int .i64 sw) ∧ wr.cell? ⟨w.heap.size, 1, none⟩ = some (.int .i64 st) ∧ wr.cell? ⟨w.heap.size, 2, none⟩ = some (.int .i64 sk) ∧ wr.cell? ⟨w.heap.size, 3, none⟩ = some (.int .i64 0) ∧ wr.cell? ⟨w.heap.size, 4, none⟩ = some (.int .i32 hy) ∧ wr.cell? ⟨w.heap.size, 5, none⟩ = some (.slice pc na cc) ∧ wr.cell? ⟨w.heap.size, 6, none⟩ = some (.slice pk nb ck) ∧ wr.cell? ⟨w.heap.size, 7, none⟩ = some (.slice (some ⟨b1, o1, none⟩) nc cl) ∧ wr.cell? ⟨b1, o1 + J * 3, none⟩ = some (.int .i32 y.a) ∧ wr.cell? ⟨b1, o1 + J * 3 + 1, none⟩ = some (.int .i32 y.b) := ⟨y0, y1, y2, y3, y4, y5, y6, y7, zp0, zp1⟩
                  have HSw := Lib.hid hSw
                  clear hSw zp0 zp1
                  go_upto_region 18 with fail
                  clear y0 y1 y2 y3 y4 y5 y6 y7 z0 z1 z2
                  obtain ⟨PB, hPB⟩ : ∃ P, P = wr.heap.size := ⟨_, rfl⟩
                  obtain ⟨WA, hWA⟩ : ∃ W, W = wr.alloc (.cells #[.int .i32 c.a, .int .i32 c.b, .int .i32 c.to] 54) := ⟨_, rfl⟩
                  have hbA : Below wr.heap.size wr WA := by rw [hWA]; exact below_alloc _ _
                  have HBA := Lib.hid hbA
                  have hoA : WA.heap[PB]? = some (.cells #[.int .i32 c.a, .int .i32 c.b, .int .i32 c.to] 54 (0, 0)) := by rw [hWA]; subst hPB; exact heap_alloc_new _ _
                  have HMa := Lib.hid (HMs.out.mono hbA)
                  have HMd : Hid (MetAt WA.drew (.agg #[.int .i64 sw, .int .i64 st, .int .i64 sk, .int .i64 0, .int .i32 hy, .slice pc na cc, .slice pk nb ck, .slice (some ⟨b1, o1, none⟩) nc cl]) m) := Lib.hid (HMa.out.mono ((Below.refl _ _).drew))
                  have hS : WA.cell? ⟨w.heap.size, 0, none⟩ = some (.int .i64 sw) ∧ WA.cell? ⟨w.heap.size, 1, none⟩ = some (.int .i64 st) ∧ WA.cell? ⟨w.heap.size, 2, none⟩ = some (.int .i64 sk) ∧ WA.cell? ⟨w.heap.size, 3, none⟩ = some (.int .i64 0) ∧ WA.cell? ⟨w.heap.size, 4, none⟩ = some (.int .i32 hy) ∧ WA.cell? ⟨w.heap.size, 5, none⟩ = some (.slice pc na cc) ∧ WA.cell? ⟨w.heap.size, 6, none⟩ = some (.slice pk nb ck) ∧ WA.cell? ⟨w.heap.size, 7, none⟩ = some (.slice (some ⟨b1, o1, none⟩) nc cl) ∧ WA.cell? ⟨PB, 0, none⟩ = some (.int .i32 c.a) ∧ WA.cell? ⟨PB, 1, none⟩ = some (.int .i32 c.b) ∧ WA.cell? ⟨PB, 2, none⟩ = some (.int .i32 c.to) ∧ WA.cell? ⟨b1, o1 + J * 3, none⟩ = some (.int .i32 y.a) ∧ WA.cell? ⟨b1, o1 + J * 3 + 1, none⟩ = some (.int .i32 y.b) := by
                    obtain ⟨s0, s1, s2, s3, s4, s5, s6, s7, s8, s9⟩ := HSw.out
                    exact ⟨cell_below hbA s0, cell_below hbA s1, cell_below hbA s2, cell_below hbA s3, cell_below hbA s4, cell_below hbA s5, cell_below hbA s6, cell_below hbA s7, Lib.cell_of_heap hoA 0, Lib.cell_of_heap hoA 1, Lib.cell_of_heap hoA 2, cell_below hbA s8, cell_below hbA s9⟩
                  rw [← hWA, ← hPB]
                  clear hWA hPB hbA hoA HSw HMs
                  have j2 : Hid (k ≠ 0 → IntKind.i64.wrap ((k : Int) - 1) = (J : Int)) := Lib.hid fun h => by rw [show (k : Int) - 1 = (J : Int) by have := HJ.out; omega]; exact IntWalk.i64_in _ (by have := HJ.out; omega)
                  have j3 : (0 : Int) ≤ (J : Int) := by omega
                  have j4 : (J : Int) < (nc : Int) := by have := HJ.out; omega
                  have HKn := Lib.hid (show k + 1 ≤ nc from hlt)
                  clear hlt
                  · cases b0 with
                    | false =>
                      clear j2
                      go_quiet (fail)
                      go_wp2
                      go_roundw
                      case rel => exact ⟨k + 1, HKn.out, by go_num, by rw [HP1.out, HNN.out]; simp, Lib.hid (below_step HBs2.out (below_step HBA.out (below_drew _ _)))⟩
                      case measure => have := HKn.out; simp [intOf]; omega
                    | true =>
                      as_aux_lemma =>
                        have S0 : (fun w' : World => w'.cell? ⟨w.heap.size, 0, none⟩ = some (.int .i64 sw) ∧ w'.cell? ⟨w.heap.size, 1, none⟩ = some (.int .i64 st) ∧ w'.cell? ⟨w.heap.size, 2, none⟩ = some (.int .i64 sk) ∧ w'.cell? ⟨w.heap.size, 3, none⟩ = some (.int .i64 0) ∧ w'.cell? ⟨w.heap.size, 4, none⟩ = some (.int .i32 hy) ∧ w'.cell? ⟨w.heap.size, 5, none⟩ = some (.slice pc na cc) ∧ w'.cell? ⟨w.heap.size, 6, none⟩ = some (.slice pk nb ck) ∧ w'.cell? ⟨w.heap.size, 7, none⟩ = some (.slice (some ⟨b1, o1, none⟩) nc cl) ∧ w'.cell? ⟨PB, 0, none⟩ = some (.int .i32 c.a) ∧ w'.cell? ⟨PB, 1, none⟩ = some (.int .i32 c.b) ∧ w'.cell? ⟨PB, 2, none⟩ = some (.int .i32 c.to) ∧ w'.cell? ⟨b1, o1 + J * 3, none⟩ = some (.int .i32 y.a) ∧ w'.cell? ⟨b1, o1 + J * 3 + 1, none⟩ = some (.int .i32 y.b)) WA.drew := hS
                        refine wp_region_held_drew (S := fun w' : World => w'.cell? ⟨w.heap.size, 0, none⟩ = some (.int .i64 sw) ∧ w'.cell? ⟨w.heap.size, 1, none⟩ = some (.int .i64 st) ∧ w'.cell? ⟨w.heap.size, 2, none⟩ = some (.int .i64 sk) ∧ w'.cell? ⟨w.heap.size, 3, none⟩ = some (.int .i64 0) ∧ w'.cell? ⟨w.heap.size, 4, none⟩ = some (.int .i32 hy) ∧ w'.cell? ⟨w.heap.size, 5, none⟩ = some (.slice pc na cc) ∧ w'.cell? ⟨w.heap.size, 6, none⟩ = some (.slice pk nb ck) ∧ w'.cell? ⟨w.heap.size, 7, none⟩ = some (.slice (some ⟨b1, o1, none⟩) nc cl) ∧ w'.cell? ⟨PB, 0, none⟩ = some (.int .i32 c.a) ∧ w'.cell? ⟨PB, 1, none⟩ = some (.int .i32 c.b) ∧ w'.cell? ⟨PB, 2, none⟩ = some (.int .i32 c.to) ∧ w'.cell? ⟨b1, o1 + J * 3, none⟩ = some (.int .i32 y.a) ∧ w'.cell? ⟨b1, o1 + J * 3 + 1, none⟩ = some (.int .i32 y.b)) (by kernel_rfl) S0 (fun hHeld => ?_)
                        clear S0 hS
                        refine take_g (i := 0) (d := 170) (op := Op.move (Operand.tmp 3)) (ty := 4) (v := .bool true) (g := none) (by kernel_rfl) (by kernel_rfl) (by rfl) (by kernel_rfl) (by kernel_rfl) (by kernel_rfl) (fun _ _ _ h => h) (fun wS hS => by clear hS; go_simp) hHeld ?_
                        try simp only [Act.put, List.setIfInBounds_toArray, List.set_cons_zero, List.set_cons_succ]
                        refine take_g (i := 1) (d := 171) (op := Op.move (Operand.tmp 170)) (ty := 4) (v := .bool true) (g := none) (by kernel_rfl) (by kernel_rfl) (by rfl) (by kernel_rfl) (by kernel_rfl) (by kernel_rfl) (fun _ _ _ h => h) (fun wS hS => by clear hS; go_simp) hHeld ?_
                        try simp only [Act.put, List.setIfInBounds_toArray, List.set_cons_zero, List.set_cons_succ]
                        refine take_g (i := 2) (d := 172) (op := Op.load 28 (Operand.tmp 1)) (ty := 28) (v := (.agg #[.int .i64 sw, .int .i64 st, .int .i64 sk, .int .i64 0, .int .i32 hy, .slice pc na cc, .slice pk nb ck, .slice (some ⟨b1, o1, none⟩) nc cl])) (g := some (1, true)) (by kernel_rfl) (by kernel_rfl) (by rfl) (by kernel_rfl) (by kernel_rfl) (by kernel_rfl) (fun _ _ _ h => h) (fun wS hS => by (try dsimp only at hS); obtain ⟨s0, s1, s2, s3, s4, s5, s6, s7, s8, s9, sa, sb, sc⟩ := hS; go_simp) hHeld ?_
                        try simp only [Act.put, List.setIfInBounds_toArray, List.set_cons_zero, List.set_cons_succ]
                        refine take_g (i := 3) (d := 173) (op := Op.fieldAddr 54 (Operand.tmp 9) 0) (ty := 0) (v := .pointer (some ⟨PB, 0, none⟩)) (g := some (1, true)) (by kernel_rfl) (by kernel_rfl) (by rfl) (by kernel_rfl) (by kernel_rfl) (by kernel_rfl) (fun _ _ _ h => h) (fun wS hS => by clear hS; go_simp) hHeld ?_
                        try simp only [Act.put, List.setIfInBounds_toArray, List.set_cons_zero, List.set_cons_succ]
                        refine take_g (i := 4) (d := 174) (op := Op.load 21 (Operand.tmp 173)) (ty := 21) (v := .int .i32 c.a) (g := some (1, true)) (by kernel_rfl) (by kernel_rfl) (by rfl) (by kernel_rfl) (by kernel_rfl) (by kernel_rfl) (fun _ _ _ h => h) (fun wS hS => by (try dsimp only at hS); obtain ⟨s0, s1, s2, s3, s4, s5, s6, s7, s8, s9, sa, sb, sc⟩ := hS; go_simp) hHeld ?_
                        try simp only [Act.put, List.setIfInBounds_toArray, List.set_cons_zero, List.set_cons_succ]
                        refine wpAnyH_ready (rs := [5]) (by kernel_rfl) (by simp) ?_
                        refine AllReadyH.cons rfl (fun K hK => ?_) AllReadyH.nil
                        go_simp
                        go_at_call 56
                        with_reducible refine (cA.out _ HMd.out).mono ?_
                        rintro e w7 ⟨rfl, hb70⟩
                        have hb7 := undrew7m hb70
                        refine hK.out _ _ (cells13 hb70 hHeld) (fun hHeld => ?_)
                        clear hK K hb70
                        try simp only [Act.put, List.setIfInBounds_toArray, List.set_cons_zero, List.set_cons_succ]
                        cases hA with
                        | false =>
                          as_aux_lemma =>
                            refine take_g (i := 6) (d := 176) (op := Op.pick (Operand.tmp 171) (Operand.tmp 175) (Operand.const (Value.bool false))) (ty := 4) (v := .bool false) (g := none) (by kernel_rfl) (by kernel_rfl) (by rfl) (by kernel_rfl) (by kernel_rfl) (by kernel_rfl) (fun _ _ _ h => h) (fun wS hS => by clear hS; go_simp) hHeld ?_
                            try simp only [Act.put, List.setIfInBounds_toArray, List.set_cons_zero, List.set_cons_succ]
                            refine take_g (i := 7) (d := 177) (op := Op.move (Operand.tmp 176)) (ty := 4) (v := .bool false) (g := none) (by kernel_rfl) (by kernel_rfl) (by rfl) (by kernel_rfl) (by kernel_rfl) (by kernel_rfl) (fun _ _ _ h => h) (fun wS hS => by clear hS; go_simp) hHeld ?_
                            try simp only [Act.put, List.setIfInBounds_toArray, List.set_cons_zero, List.set_cons_succ]
                            refine skip_g (i := 8) (d := 178) (g := (7, true)) (by kernel_rfl) (by kernel_rfl) (by rfl) (by kernel_rfl) (by kernel_rfl) (by kernel_rfl) (fun _ _ _ h => h) hHeld ?_
                            try simp only [Act.put, List.setIfInBounds_toArray, List.set_cons_zero, List.set_cons_succ]
                            refine skip_g (i := 9) (d := 179) (g := (7, true)) (by kernel_rfl) (by kernel_rfl) (by rfl) (by kernel_rfl) (by kernel_rfl) (by kernel_rfl) (fun _ _ _ h => h) hHeld ?_
                            try simp only [Act.put, List.setIfInBounds_toArray, List.set_cons_zero, List.set_cons_succ]
                            refine skip_g (i := 10) (d := 180) (g := (7, true)) (by kernel_rfl) (by kernel_rfl) (by rfl) (by kernel_rfl) (by kernel_rfl) (by kernel_rfl) (fun _ _ _ h => h) hHeld ?_
                            try simp only [Act.put, List.setIfInBounds_toArray, List.set_cons_zero, List.set_cons_succ]
                            refine skip_g (i := 11) (d := 181) (g := (7, true)) (by kernel_rfl) (by kernel_rfl) (by rfl) (by kernel_rfl) (by kernel_rfl) (by kernel_rfl) (fun _ _ _ h => h) hHeld ?_
                            try simp only [Act.put, List.setIfInBounds_toArray, List.set_cons_zero, List.set_cons_succ]
                            refine take_g (i := 12) (d := 182) (op := Op.pick (Operand.tmp 177) (Operand.tmp 181) (Operand.const (Value.bool false))) (ty := 4) (v := .bool false) (g := none) (by kernel_rfl) (by kernel_rfl) (by rfl) (by kernel_rfl) (by kernel_rfl) (by kernel_rfl) (fun _ _ _ h => h) (fun wS hS => by clear hS; go_simp) hHeld ?_
                            try simp only [Act.put, List.setIfInBounds_toArray, List.set_cons_zero, List.set_cons_succ]
                            refine take_g (i := 13) (d := 183) (op := Op.move (Operand.tmp 182)) (ty := 4) (v := .bool false) (g := none) (by kernel_rfl) (by kernel_rfl) (by rfl) (by kernel_rfl) (by kernel_rfl) (by kernel_rfl) (fun _ _ _ h => h) (fun wS hS => by clear hS; go_simp) hHeld ?_
                            try simp only [Act.put, List.setIfInBounds_toArray, List.set_cons_zero, List.set_cons_succ]
                            refine skip_g (i := 14) (d := 184) (g := (13, true)) (by kernel_rfl) (by kernel_rfl) (by rfl) (by kernel_rfl) (by kernel_rfl) (by kernel_rfl) (fun _ _ _ h => h) hHeld ?_
                            try simp only [Act.put, List.setIfInBounds_toArray, List.set_cons_zero, List.set_cons_succ]
                            refine skip_g (i := 15) (d := 185) (g := (13, true)) (by kernel_rfl) (by kernel_rfl) (by rfl) (by kernel_rfl) (by kernel_rfl) (by kernel_rfl) (fun _ _ _ h => h) hHeld ?_
                            try simp only [Act.put, List.setIfInBounds_toArray, List.set_cons_zero, List.set_cons_succ]
                            refine skip_g (i := 16) (d := 186) (g := (13, true)) (by kernel_rfl) (by kernel_rfl) (by rfl) (by kernel_rfl) (by kernel_rfl) (by kernel_rfl) (fun _ _ _ h => h) hHeld ?_
                            try simp only [Act.put, List.setIfInBounds_toArray, List.set_cons_zero, List.set_cons_succ]
                            refine skip_g (i := 17) (d := 187) (g := (13, true)) (by kernel_rfl) (by kernel_rfl) (by rfl) (by kernel_rfl) (by kernel_rfl) (by kernel_rfl) (fun _ _ _ h => h) hHeld ?_
                            try simp only [Act.put, List.setIfInBounds_toArray, List.set_cons_zero, List.set_cons_succ]
                            refine take_g (i := 18) (d := 188) (op := Op.pick (Operand.tmp 183) (Operand.tmp 187) (Operand.const (Value.bool false))) (ty := 4) (v := .bool false) (g := none) (by kernel_rfl) (by kernel_rfl) (by rfl) (by kernel_rfl) (by kernel_rfl) (by kernel_rfl) (fun _ _ _ h => h) (fun wS hS => by clear hS; go_simp) hHeld ?_
                            try simp only [Act.put, List.setIfInBounds_toArray, List.set_cons_zero, List.set_cons_succ]
                            refine take_g (i := 19) (d := 189) (op := Op.move (Operand.tmp 188)) (ty := 4) (v := .bool false) (g := none) (by kernel_rfl) (by kernel_rfl) (by rfl) (by kernel_rfl) (by kernel_rfl) (by kernel_rfl) (fun _ _ _ h => h) (fun wS hS => by clear hS; go_simp) hHeld ?_
                            try simp only [Act.put, List.setIfInBounds_toArray, List.set_cons_zero, List.set_cons_succ]
                            refine skip_g (i := 20) (d := 190) (g := (19, true)) (by kernel_rfl) (by kernel_rfl) (by rfl) (by kernel_rfl) (by kernel_rfl) (by kernel_rfl) (fun _ _ _ h => h) hHeld ?_
                            try simp only [Act.put, List.setIfInBounds_toArray, List.set_cons_zero, List.set_cons_succ]
                            refine skip_g (i := 21) (d := 191) (g := (19, true)) (by kernel_rfl) (by kernel_rfl) (by rfl) (by kernel_rfl) (by kernel_rfl) (by kernel_rfl) (fun _ _ _ h => h) hHeld ?_
                            try simp only [Act.put, List.setIfInBounds_toArray, List.set_cons_zero, List.set_cons_succ]
                            refine skip_g (i := 22) (d := 192) (g := (19, true)) (by kernel_rfl) (by kernel_rfl) (by rfl) (by kernel_rfl) (by kernel_rfl) (by kernel_rfl) (fun _ _ _ h => h) hHeld ?_
                            try simp only [Act.put, List.setIfInBounds_toArray, List.set_cons_zero, List.set_cons_succ]
                            refine skip_g (i := 23) (d := 193) (g := (22, false)) (by kernel_rfl) (by kernel_rfl) (by rfl) (by kernel_rfl) (by kernel_rfl) (by kernel_rfl) (fun _ _ _ h => h) hHeld ?_
                            try simp only [Act.put, List.setIfInBounds_toArray, List.set_cons_zero, List.set_cons_succ]
                            refine skip_g (i := 24) (d := 194) (g := (22, false)) (by kernel_rfl) (by kernel_rfl) (by rfl) (by kernel_rfl) (by kernel_rfl) (by kernel_rfl) (fun _ _ _ h => h) hHeld ?_
                            try simp only [Act.put, List.setIfInBounds_toArray, List.set_cons_zero, List.set_cons_succ]
                            refine skip_g (i := 25) (d := 195) (g := (22, false)) (by kernel_rfl) (by kernel_rfl) (by rfl) (by kernel_rfl) (by kernel_rfl) (by kernel_rfl) (fun _ _ _ h => h) hHeld ?_
                            try simp only [Act.put, List.setIfInBounds_toArray, List.set_cons_zero, List.set_cons_succ]
                            refine skip_g (i := 26) (d := 196) (g := (22, false)) (by kernel_rfl) (by kernel_rfl) (by rfl) (by kernel_rfl) (by kernel_rfl) (by kernel_rfl) (fun _ _ _ h => h) hHeld ?_
                            try simp only [Act.put, List.setIfInBounds_toArray, List.set_cons_zero, List.set_cons_succ]
                            refine skip_g (i := 27) (d := 197) (g := (22, false)) (by kernel_rfl) (by kernel_rfl) (by rfl) (by kernel_rfl) (by kernel_rfl) (by kernel_rfl) (fun _ _ _ h => h) hHeld ?_
                            try simp only [Act.put, List.setIfInBounds_toArray, List.set_cons_zero, List.set_cons_succ]
                            refine skip_g (i := 28) (d := 198) (g := (22, false)) (by kernel_rfl) (by kernel_rfl) (by rfl) (by kernel_rfl) (by kernel_rfl) (by kernel_rfl) (fun _ _ _ h => h) hHeld ?_
                            try simp only [Act.put, List.setIfInBounds_toArray, List.set_cons_zero, List.set_cons_succ]
                            refine skip_g (i := 29) (d := 199) (g := (22, false)) (by kernel_rfl) (by kernel_rfl) (by rfl) (by kernel_rfl) (by kernel_rfl) (by kernel_rfl) (fun _ _ _ h => h) hHeld ?_
                            try simp only [Act.put, List.setIfInBounds_toArray, List.set_cons_zero, List.set_cons_succ]
                            refine skip_g (i := 30) (d := 200) (g := (22, false)) (by kernel_rfl) (by kernel_rfl) (by rfl) (by kernel_rfl) (by kernel_rfl) (by kernel_rfl) (fun _ _ _ h => h) hHeld ?_
                            try simp only [Act.put, List.setIfInBounds_toArray, List.set_cons_zero, List.set_cons_succ]
                            refine skip_g (i := 31) (d := 201) (g := (22, false)) (by kernel_rfl) (by kernel_rfl) (by rfl) (by kernel_rfl) (by kernel_rfl) (by kernel_rfl) (fun _ _ _ h => h) hHeld ?_
                            try simp only [Act.put, List.setIfInBounds_toArray, List.set_cons_zero, List.set_cons_succ]
                            refine skip_g (i := 32) (d := 202) (g := (22, false)) (by kernel_rfl) (by kernel_rfl) (by rfl) (by kernel_rfl) (by kernel_rfl) (by kernel_rfl) (fun _ _ _ h => h) hHeld ?_
                            try simp only [Act.put, List.setIfInBounds_toArray, List.set_cons_zero, List.set_cons_succ]
                            refine skip_g (i := 33) (d := 203) (g := (22, false)) (by kernel_rfl) (by kernel_rfl) (by rfl) (by kernel_rfl) (by kernel_rfl) (by kernel_rfl) (fun _ _ _ h => h) hHeld ?_
                            try simp only [Act.put, List.setIfInBounds_toArray, List.set_cons_zero, List.set_cons_succ]
                            refine skip_g (i := 34) (d := 204) (g := (22, false)) (by kernel_rfl) (by kernel_rfl) (by rfl) (by kernel_rfl) (by kernel_rfl) (by kernel_rfl) (fun _ _ _ h => h) hHeld ?_
                            try simp only [Act.put, List.setIfInBounds_toArray, List.set_cons_zero, List.set_cons_succ]
                            refine skip_g (i := 35) (d := 205) (g := (22, false)) (by kernel_rfl) (by kernel_rfl) (by rfl) (by kernel_rfl) (by kernel_rfl) (by kernel_rfl) (fun _ _ _ h => h) hHeld ?_
                            try simp only [Act.put, List.setIfInBounds_toArray, List.set_cons_zero, List.set_cons_succ]
                            refine skip_g (i := 36) (d := 206) (g := (22, false)) (by kernel_rfl) (by kernel_rfl) (by rfl) (by kernel_rfl) (by kernel_rfl) (by kernel_rfl) (fun _ _ _ h => h) hHeld ?_
                            try simp only [Act.put, List.setIfInBounds_toArray, List.set_cons_zero, List.set_cons_succ]
                            refine skip_g (i := 37) (d := 207) (g := (22, false)) (by kernel_rfl) (by kernel_rfl) (by rfl) (by kernel_rfl) (by kernel_rfl) (by kernel_rfl) (fun _ _ _ h => h) hHeld ?_
                            try simp only [Act.put, List.setIfInBounds_toArray, List.set_cons_zero, List.set_cons_succ]
                            refine skip_g (i := 38) (d := 208) (g := (22, false)) (by kernel_rfl) (by kernel_rfl) (by rfl) (by kernel_rfl) (by kernel_rfl) (by kernel_rfl) (fun _ _ _ h => h) hHeld ?_
                            try simp only [Act.put, List.setIfInBounds_toArray, List.set_cons_zero, List.set_cons_succ]
                            refine skip_g (i := 39) (d := 209) (g := (22, false)) (by kernel_rfl) (by kernel_rfl) (by rfl) (by kernel_rfl) (by kernel_rfl) (by kernel_rfl) (fun _ _ _ h => h) hHeld ?_
                            try simp only [Act.put, List.setIfInBounds_toArray, List.set_cons_zero, List.set_cons_succ]
                            refine skip_g (i := 40) (d := 210) (g := (22, false)) (by kernel_rfl) (by kernel_rfl) (by rfl) (by kernel_rfl) (by kernel_rfl) (by kernel_rfl) (fun _ _ _ h => h) hHeld ?_
                            try simp only [Act.put, List.setIfInBounds_toArray, List.set_cons_zero, List.set_cons_succ]
                            refine skip_g (i := 41) (d := 211) (g := (22, false)) (by kernel_rfl) (by kernel_rfl) (by rfl) (by kernel_rfl) (by kernel_rfl) (by kernel_rfl) (fun _ _ _ h => h) hHeld ?_
                            try simp only [Act.put, List.setIfInBounds_toArray, List.set_cons_zero, List.set_cons_succ]
                            refine skip_g (i := 42) (d := 212) (g := (19, true)) (by kernel_rfl) (by kernel_rfl) (by rfl) (by kernel_rfl) (by kernel_rfl) (by kernel_rfl) (fun _ _ _ h => h) hHeld ?_
                            try simp only [Act.put, List.setIfInBounds_toArray, List.set_cons_zero, List.set_cons_succ]
                            refine take_g (i := 43) (d := 213) (op := Op.pick (Operand.tmp 189) (Operand.tmp 212) (Operand.const (Value.bool false))) (ty := 4) (v := .bool false) (g := none) (by kernel_rfl) (by kernel_rfl) (by rfl) (by kernel_rfl) (by kernel_rfl) (by kernel_rfl) (fun _ _ _ h => h) (fun wS hS => by clear hS; go_simp) hHeld ?_
                            try simp only [Act.put, List.setIfInBounds_toArray, List.set_cons_zero, List.set_cons_succ]
                            refine take_g (i := 44) (d := 3) (op := Op.assign (Operand.tmp 213)) (ty := 4) (v := .bool false) (g := none) (by kernel_rfl) (by kernel_rfl) (by rfl) (by kernel_rfl) (by kernel_rfl) (by kernel_rfl) (fun _ _ _ h => h) (fun wS hS => by clear hS; go_simp) hHeld ?_
                            try simp only [Act.put, List.setIfInBounds_toArray, List.set_cons_zero, List.set_cons_succ]
                            refine wpAnyH_done (by kernel_rfl) ?_ _
                            clear hHeld
                            go_wp2
                            go_roundw
                            case rel => exact ⟨k + 1, HKn.out, by go_num, by rw [HP1.out, HNN.out]; simp, Lib.hid (below_step HBs2.out (below_step HBA.out hb7))⟩
                            case measure => have := HKn.out; simp [intOf]; omega
                        | true =>
                          as_aux_lemma =>
                            refine take_g (i := 6) (d := 176) (op := Op.pick (Operand.tmp 171) (Operand.tmp 175) (Operand.const (Value.bool false))) (ty := 4) (v := .bool true) (g := none) (by kernel_rfl) (by kernel_rfl) (by rfl) (by kernel_rfl) (by kernel_rfl) (by kernel_rfl) (fun _ _ _ h => h) (fun wS hS => by clear hS; go_simp) hHeld ?_
                            try simp only [Act.put, List.setIfInBounds_toArray, List.set_cons_zero, List.set_cons_succ]
                            refine take_g (i := 7) (d := 177) (op := Op.move (Operand.tmp 176)) (ty := 4) (v := .bool true) (g := none) (by kernel_rfl) (by kernel_rfl) (by rfl) (by kernel_rfl) (by kernel_rfl) (by kernel_rfl) (fun _ _ _ h => h) (fun wS hS => by clear hS; go_simp) hHeld ?_
                            try simp only [Act.put, List.setIfInBounds_toArray, List.set_cons_zero, List.set_cons_succ]
                            refine take_g (i := 8) (d := 178) (op := Op.load 28 (Operand.tmp 1)) (ty := 28) (v := (.agg #[.int .i64 sw, .int .i64 st, .int .i64 sk, .int .i64 0, .int .i32 hy, .slice pc na cc, .slice pk nb ck, .slice (some ⟨b1, o1, none⟩) nc cl])) (g := some (7, true)) (by kernel_rfl) (by kernel_rfl) (by rfl) (by kernel_rfl) (by kernel_rfl) (by kernel_rfl) (fun _ _ _ h => h) (fun wS hS => by (try dsimp only at hS); obtain ⟨s0, s1, s2, s3, s4, s5, s6, s7, s8, s9, sa, sb, sc⟩ := hS; go_simp) hHeld ?_
                            try simp only [Act.put, List.setIfInBounds_toArray, List.set_cons_zero, List.set_cons_succ]
                            refine take_g (i := 9) (d := 179) (op := Op.fieldAddr 54 (Operand.tmp 9) 1) (ty := 0) (v := .pointer (some ⟨PB, 1, none⟩)) (g := some (7, true)) (by kernel_rfl) (by kernel_rfl) (by rfl) (by kernel_rfl) (by kernel_rfl) (by kernel_rfl) (fun _ _ _ h => h) (fun wS hS => by clear hS; go_simp) hHeld ?_
                            try simp only [Act.put, List.setIfInBounds_toArray, List.set_cons_zero, List.set_cons_succ]
                            refine take_g (i := 10) (d := 180) (op := Op.load 21 (Operand.tmp 179)) (ty := 21) (v := .int .i32 c.b) (g := some (7, true)) (by kernel_rfl) (by kernel_rfl) (by rfl) (by kernel_rfl) (by kernel_rfl) (by kernel_rfl) (fun _ _ _ h => h) (fun wS hS => by (try dsimp only at hS); obtain ⟨s0, s1, s2, s3, s4, s5, s6, s7, s8, s9, sa, sb, sc⟩ := hS; go_simp) hHeld ?_
                            try simp only [Act.put, List.setIfInBounds_toArray, List.set_cons_zero, List.set_cons_succ]
                            refine wpAnyH_ready (rs := [11]) (by kernel_rfl) (by simp) ?_
                            refine AllReadyH.cons rfl (fun K hK => ?_) AllReadyH.nil
                            go_simp
                            go_at_call 56
                            with_reducible refine (cB.out _ (HMa.out.mono hb7)).mono ?_
                            rintro e w8 ⟨rfl, hb80⟩
                            have hb8 := below_step hb7 hb80
                            refine hK.out _ _ (cells13 hb80 hHeld) (fun hHeld => ?_)
                            clear hK K hb80
                            try simp only [Act.put, List.setIfInBounds_toArray, List.set_cons_zero, List.set_cons_succ]
                            cases hB with
                            | false =>
                              as_aux_lemma =>
                                refine take_g (i := 12) (d := 182) (op := Op.pick (Operand.tmp 177) (Operand.tmp 181) (Operand.const (Value.bool false))) (ty := 4) (v := .bool false) (g := none) (by kernel_rfl) (by kernel_rfl) (by rfl) (by kernel_rfl) (by kernel_rfl) (by kernel_rfl) (fun _ _ _ h => h) (fun wS hS => by clear hS; go_simp) hHeld ?_
                                try simp only [Act.put, List.setIfInBounds_toArray, List.set_cons_zero, List.set_cons_succ]
                                refine take_g (i := 13) (d := 183) (op := Op.move (Operand.tmp 182)) (ty := 4) (v := .bool false) (g := none) (by kernel_rfl) (by kernel_rfl) (by rfl) (by kernel_rfl) (by kernel_rfl) (by kernel_rfl) (fun _ _ _ h => h) (fun wS hS => by clear hS; go_simp) hHeld ?_
                                try simp only [Act.put, List.setIfInBounds_toArray, List.set_cons_zero, List.set_cons_succ]
                                refine skip_g (i := 14) (d := 184) (g := (13, true)) (by kernel_rfl) (by kernel_rfl) (by rfl) (by kernel_rfl) (by kernel_rfl) (by kernel_rfl) (fun _ _ _ h => h) hHeld ?_
                                try simp only [Act.put, List.setIfInBounds_toArray, List.set_cons_zero, List.set_cons_succ]
                                refine skip_g (i := 15) (d := 185) (g := (13, true)) (by kernel_rfl) (by kernel_rfl) (by rfl) (by kernel_rfl) (by kernel_rfl) (by kernel_rfl) (fun _ _ _ h => h) hHeld ?_
                                try simp only [Act.put, List.setIfInBounds_toArray, List.set_cons_zero, List.set_cons_succ]
                                refine skip_g (i := 16) (d := 186) (g := (13, true)) (by kernel_rfl) (by kernel_rfl) (by rfl) (by kernel_rfl) (by kernel_rfl) (by kernel_rfl) (fun _ _ _ h => h) hHeld ?_
                                try simp only [Act.put, List.setIfInBounds_toArray, List.set_cons_zero, List.set_cons_succ]
                                refine skip_g (i := 17) (d := 187) (g := (13, true)) (by kernel_rfl) (by kernel_rfl) (by rfl) (by kernel_rfl) (by kernel_rfl) (by kernel_rfl) (fun _ _ _ h => h) hHeld ?_
                                try simp only [Act.put, List.setIfInBounds_toArray, List.set_cons_zero, List.set_cons_succ]
                                refine take_g (i := 18) (d := 188) (op := Op.pick (Operand.tmp 183) (Operand.tmp 187) (Operand.const (Value.bool false))) (ty := 4) (v := .bool false) (g := none) (by kernel_rfl) (by kernel_rfl) (by rfl) (by kernel_rfl) (by kernel_rfl) (by kernel_rfl) (fun _ _ _ h => h) (fun wS hS => by clear hS; go_simp) hHeld ?_
                                try simp only [Act.put, List.setIfInBounds_toArray, List.set_cons_zero, List.set_cons_succ]
                                refine take_g (i := 19) (d := 189) (op := Op.move (Operand.tmp 188)) (ty := 4) (v := .bool false) (g := none) (by kernel_rfl) (by kernel_rfl) (by rfl) (by kernel_rfl) (by kernel_rfl) (by kernel_rfl) (fun _ _ _ h => h) (fun wS hS => by clear hS; go_simp) hHeld ?_
                                try simp only [Act.put, List.setIfInBounds_toArray, List.set_cons_zero, List.set_cons_succ]
                                refine skip_g (i := 20) (d := 190) (g := (19, true)) (by kernel_rfl) (by kernel_rfl) (by rfl) (by kernel_rfl) (by kernel_rfl) (by kernel_rfl) (fun _ _ _ h => h) hHeld ?_
                                try simp only [Act.put, List.setIfInBounds_toArray, List.set_cons_zero, List.set_cons_succ]
                                refine skip_g (i := 21) (d := 191) (g := (19, true)) (by kernel_rfl) (by kernel_rfl) (by rfl) (by kernel_rfl) (by kernel_rfl) (by kernel_rfl) (fun _ _ _ h => h) hHeld ?_
                                try simp only [Act.put, List.setIfInBounds_toArray, List.set_cons_zero, List.set_cons_succ]
                                refine skip_g (i := 22) (d := 192) (g := (19, true)) (by kernel_rfl) (by kernel_rfl) (by rfl) (by kernel_rfl) (by kernel_rfl) (by kernel_rfl) (fun _ _ _ h => h) hHeld ?_
                                try simp only [Act.put, List.setIfInBounds_toArray, List.set_cons_zero, List.set_cons_succ]
                                refine skip_g (i := 23) (d := 193) (g := (22, false)) (by kernel_rfl) (by kernel_rfl) (by rfl) (by kernel_rfl) (by kernel_rfl) (by kernel_rfl) (fun _ _ _ h => h) hHeld ?_
                                try simp only [Act.put, List.setIfInBounds_toArray, List.set_cons_zero, List.set_cons_succ]
                                refine skip_g (i := 24) (d := 194) (g := (22, false)) (by kernel_rfl) (by kernel_rfl) (by rfl) (by kernel_rfl) (by kernel_rfl) (by kernel_rfl) (fun _ _ _ h => h) hHeld ?_
                                try simp only [Act.put, List.setIfInBounds_toArray, List.set_cons_zero, List.set_cons_succ]
                                refine skip_g (i := 25) (d := 195) (g := (22, false)) (by kernel_rfl) (by kernel_rfl) (by rfl) (by kernel_rfl) (by kernel_rfl) (by kernel_rfl) (fun _ _ _ h => h) hHeld ?_
                                try simp only [Act.put, List.setIfInBounds_toArray, List.set_cons_zero, List.set_cons_succ]
                                refine skip_g (i := 26) (d := 196) (g := (22, false)) (by kernel_rfl) (by kernel_rfl) (by rfl) (by kernel_rfl) (by kernel_rfl) (by kernel_rfl) (fun _ _ _ h => h) hHeld ?_
                                try simp only [Act.put, List.setIfInBounds_toArray, List.set_cons_zero, List.set_cons_succ]
                                refine skip_g (i := 27) (d := 197) (g := (22, false)) (by kernel_rfl) (by kernel_rfl) (by rfl) (by kernel_rfl) (by kernel_rfl) (by kernel_rfl) (fun _ _ _ h => h) hHeld ?_
                                try simp only [Act.put, List.setIfInBounds_toArray, List.set_cons_zero, List.set_cons_succ]
                                refine skip_g (i := 28) (d := 198) (g := (22, false)) (by kernel_rfl) (by kernel_rfl) (by rfl) (by kernel_rfl) (by kernel_rfl) (by kernel_rfl) (fun _ _ _ h => h) hHeld ?_
                                try simp only [Act.put, List.setIfInBounds_toArray, List.set_cons_zero, List.set_cons_succ]
                                refine skip_g (i := 29) (d := 199) (g := (22, false)) (by kernel_rfl) (by kernel_rfl) (by rfl) (by kernel_rfl) (by kernel_rfl) (by kernel_rfl) (fun _ _ _ h => h) hHeld ?_
                                try simp only [Act.put, List.setIfInBounds_toArray, List.set_cons_zero, List.set_cons_succ]
                                refine skip_g (i := 30) (d := 200) (g := (22, false)) (by kernel_rfl) (by kernel_rfl) (by rfl) (by kernel_rfl) (by kernel_rfl) (by kernel_rfl) (fun _ _ _ h => h) hHeld ?_
                                try simp only [Act.put, List.setIfInBounds_toArray, List.set_cons_zero, List.set_cons_succ]
                                refine skip_g (i := 31) (d := 201) (g := (22, false)) (by kernel_rfl) (by kernel_rfl) (by rfl) (by kernel_rfl) (by kernel_rfl) (by kernel_rfl) (fun _ _ _ h => h) hHeld ?_
                                try simp only [Act.put, List.setIfInBounds_toArray, List.set_cons_zero, List.set_cons_succ]
                                refine skip_g (i := 32) (d := 202) (g := (22, false)) (by kernel_rfl) (by kernel_rfl) (by rfl) (by kernel_rfl) (by kernel_rfl) (by kernel_rfl) (fun _ _ _ h => h) hHeld ?_
                                try simp only [Act.put, List.setIfInBounds_toArray, List.set_cons_zero, List.set_cons_succ]
                                refine skip_g (i := 33) (d := 203) (g := (22, false)) (by kernel_rfl) (by kernel_rfl) (by rfl) (by kernel_rfl) (by kernel_rfl) (by kernel_rfl) (fun _ _ _ h => h) hHeld ?_
                                try simp only [Act.put, List.setIfInBounds_toArray, List.set_cons_zero, List.set_cons_succ]
                                refine skip_g (i := 34) (d := 204) (g := (22, false)) (by kernel_rfl) (by kernel_rfl) (by rfl) (by kernel_rfl) (by kernel_rfl) (by kernel_rfl) (fun _ _ _ h => h) hHeld ?_
                                try simp only [Act.put, List.setIfInBounds_toArray, List.set_cons_zero, List.set_cons_succ]
                                refine skip_g (i := 35) (d := 205) (g := (22, false)) (by kernel_rfl) (by kernel_rfl) (by rfl) (by kernel_rfl) (by kernel_rfl) (by kernel_rfl) (fun _ _ _ h => h) hHeld ?_
                                try simp only [Act.put, List.setIfInBounds_toArray, List.set_cons_zero, List.set_cons_succ]
                                refine skip_g (i := 36) (d := 206) (g := (22, false)) (by kernel_rfl) (by kernel_rfl) (by rfl) (by kernel_rfl) (by kernel_rfl) (by kernel_rfl) (fun _ _ _ h => h) hHeld ?_
                                try simp only [Act.put, List.setIfInBounds_toArray, List.set_cons_zero, List.set_cons_succ]
                                refine skip_g (i := 37) (d := 207) (g := (22, false)) (by kernel_rfl) (by kernel_rfl) (by rfl) (by kernel_rfl) (by kernel_rfl) (by kernel_rfl) (fun _ _ _ h => h) hHeld ?_
                                try simp only [Act.put, List.setIfInBounds_toArray, List.set_cons_zero, List.set_cons_succ]
                                refine skip_g (i := 38) (d := 208) (g := (22, false)) (by kernel_rfl) (by kernel_rfl) (by rfl) (by kernel_rfl) (by kernel_rfl) (by kernel_rfl) (fun _ _ _ h => h) hHeld ?_
                                try simp only [Act.put, List.setIfInBounds_toArray, List.set_cons_zero, List.set_cons_succ]
                                refine skip_g (i := 39) (d := 209) (g := (22, false)) (by kernel_rfl) (by kernel_rfl) (by rfl) (by kernel_rfl) (by kernel_rfl) (by kernel_rfl) (fun _ _ _ h => h) hHeld ?_
                                try simp only [Act.put, List.setIfInBounds_toArray, List.set_cons_zero, List.set_cons_succ]
                                refine skip_g (i := 40) (d := 210) (g := (22, false)) (by kernel_rfl) (by kernel_rfl) (by rfl) (by kernel_rfl) (by kernel_rfl) (by kernel_rfl) (fun _ _ _ h => h) hHeld ?_
                                try simp only [Act.put, List.setIfInBounds_toArray, List.set_cons_zero, List.set_cons_succ]
                                refine skip_g (i := 41) (d := 211) (g := (22, false)) (by kernel_rfl) (by kernel_rfl) (by rfl) (by kernel_rfl) (by kernel_rfl) (by kernel_rfl) (fun _ _ _ h => h) hHeld ?_
                                try simp only [Act.put, List.setIfInBounds_toArray, List.set_cons_zero, List.set_cons_succ]
                                refine skip_g (i := 42) (d := 212) (g := (19, true)) (by kernel_rfl) (by kernel_rfl) (by rfl) (by kernel_rfl) (by kernel_rfl) (by kernel_rfl) (fun _ _ _ h => h) hHeld ?_
                                try simp only [Act.put, List.setIfInBounds_toArray, List.set_cons_zero, List.set_cons_succ]
                                refine take_g (i := 43) (d := 213) (op := Op.pick (Operand.tmp 189) (Operand.tmp 212) (Operand.const (Value.bool false))) (ty := 4) (v := .bool false) (g := none) (by kernel_rfl) (by kernel_rfl) (by rfl) (by kernel_rfl) (by kernel_rfl) (by kernel_rfl) (fun _ _ _ h => h) (fun wS hS => by clear hS; go_simp) hHeld ?_
                                try simp only [Act.put, List.setIfInBounds_toArray, List.set_cons_zero, List.set_cons_succ]
                                refine take_g (i := 44) (d := 3) (op := Op.assign (Operand.tmp 213)) (ty := 4) (v := .bool false) (g := none) (by kernel_rfl) (by kernel_rfl) (by rfl) (by kernel_rfl) (by kernel_rfl) (by kernel_rfl) (fun _ _ _ h => h) (fun wS hS => by clear hS; go_simp) hHeld ?_
                                try simp only [Act.put, List.setIfInBounds_toArray, List.set_cons_zero, List.set_cons_succ]
                                refine wpAnyH_done (by kernel_rfl) ?_ _
                                clear hHeld
                                go_wp2
                                go_roundw
                                case rel => exact ⟨k + 1, HKn.out, by go_num, by rw [HP1.out, HNN.out]; simp, Lib.hid (below_step HBs2.out (below_step HBA.out hb8))⟩
                                case measure => have := HKn.out; simp [intOf]; omega
                            | true =>
                              as_aux_lemma =>
                                refine take_g (i := 12) (d := 182) (op := Op.pick (Operand.tmp 177) (Operand.tmp 181) (Operand.const (Value.bool false))) (ty := 4) (v := .bool true) (g := none) (by kernel_rfl) (by kernel_rfl) (by rfl) (by kernel_rfl) (by kernel_rfl) (by kernel_rfl) (fun _ _ _ h => h) (fun wS hS => by clear hS; go_simp) hHeld ?_
                                try simp only [Act.put, List.setIfInBounds_toArray, List.set_cons_zero, List.set_cons_succ]
                                refine take_g (i := 13) (d := 183) (op := Op.move (Operand.tmp 182)) (ty := 4) (v := .bool true) (g := none) (by kernel_rfl) (by kernel_rfl) (by rfl) (by kernel_rfl) (by kernel_rfl) (by kernel_rfl) (fun _ _ _ h => h) (fun wS hS => by clear hS; go_simp) hHeld ?_
                                try simp only [Act.put, List.setIfInBounds_toArray, List.set_cons_zero, List.set_cons_succ]
                                refine take_g (i := 14) (d := 184) (op := Op.load 28 (Operand.tmp 1)) (ty := 28) (v := (.agg #[.int .i64 sw, .int .i64 st, .int .i64 sk, .int .i64 0, .int .i32 hy, .slice pc na cc, .slice pk nb ck, .slice (some ⟨b1, o1, none⟩) nc cl])) (g := some (13, true)) (by kernel_rfl) (by kernel_rfl) (by rfl) (by kernel_rfl) (by kernel_rfl) (by kernel_rfl) (fun _ _ _ h => h) (fun wS hS => by (try dsimp only at hS); obtain ⟨s0, s1, s2, s3, s4, s5, s6, s7, s8, s9, sa, sb, sc⟩ := hS; go_simp) hHeld ?_
                                try simp only [Act.put, List.setIfInBounds_toArray, List.set_cons_zero, List.set_cons_succ]
                                refine take_g (i := 15) (d := 185) (op := Op.fieldAddr 54 (Operand.tmp 9) 2) (ty := 0) (v := .pointer (some ⟨PB, 2, none⟩)) (g := some (13, true)) (by kernel_rfl) (by kernel_rfl) (by rfl) (by kernel_rfl) (by kernel_rfl) (by kernel_rfl) (fun _ _ _ h => h) (fun wS hS => by clear hS; go_simp) hHeld ?_
                                try simp only [Act.put, List.setIfInBounds_toArray, List.set_cons_zero, List.set_cons_succ]
                                refine take_g (i := 16) (d := 186) (op := Op.load 21 (Operand.tmp 185)) (ty := 21) (v := .int .i32 c.to) (g := some (13, true)) (by kernel_rfl) (by kernel_rfl) (by rfl) (by kernel_rfl) (by kernel_rfl) (by kernel_rfl) (fun _ _ _ h => h) (fun wS hS => by (try dsimp only at hS); obtain ⟨s0, s1, s2, s3, s4, s5, s6, s7, s8, s9, sa, sb, sc⟩ := hS; go_simp) hHeld ?_
                                try simp only [Act.put, List.setIfInBounds_toArray, List.set_cons_zero, List.set_cons_succ]
                                refine wpAnyH_ready (rs := [17]) (by kernel_rfl) (by simp) ?_
                                refine AllReadyH.cons rfl (fun K hK => ?_) AllReadyH.nil
                                go_simp
                                go_at_call 56
                                with_reducible refine (cC.out _ (HMa.out.mono hb8)).mono ?_
                                rintro e w9 ⟨rfl, hb90⟩
                                have hb9 := below_step hb8 hb90
                                refine hK.out _ _ (cells13 hb90 hHeld) (fun hHeld => ?_)
                                clear hK K hb90
                                try simp only [Act.put, List.setIfInBounds_toArray, List.set_cons_zero, List.set_cons_succ]
                                cases hC with
                                | false =>
                                  as_aux_lemma =>
                                    refine take_g (i := 18) (d := 188) (op := Op.pick (Operand.tmp 183) (Operand.tmp 187) (Operand.const (Value.bool false))) (ty := 4) (v := .bool false) (g := none) (by kernel_rfl) (by kernel_rfl) (by rfl) (by kernel_rfl) (by kernel_rfl) (by kernel_rfl) (fun _ _ _ h => h) (fun wS hS => by clear hS; go_simp) hHeld ?_
                                    try simp only [Act.put, List.setIfInBounds_toArray, List.set_cons_zero, List.set_cons_succ]
                                    refine take_g (i := 19) (d := 189) (op := Op.move (Operand.tmp 188)) (ty := 4) (v := .bool false) (g := none) (by kernel_rfl) (by kernel_rfl) (by rfl) (by kernel_rfl) (by kernel_rfl) (by kernel_rfl) (fun _ _ _ h => h) (fun wS hS => by clear hS; go_simp) hHeld ?_
                                    try simp only [Act.put, List.setIfInBounds_toArray, List.set_cons_zero, List.set_cons_succ]
                                    refine skip_g (i := 20) (d := 190) (g := (19, true)) (by kernel_rfl) (by kernel_rfl) (by rfl) (by kernel_rfl) (by kernel_rfl) (by kernel_rfl) (fun _ _ _ h => h) hHeld ?_
                                    try simp only [Act.put, List.setIfInBounds_toArray, List.set_cons_zero, List.set_cons_succ]
                                    refine skip_g (i := 21) (d := 191) (g := (19, true)) (by kernel_rfl) (by kernel_rfl) (by rfl) (by kernel_rfl) (by kernel_rfl) (by kernel_rfl) (fun _ _ _ h => h) hHeld ?_
                                    try simp only [Act.put, List.setIfInBounds_toArray, List.set_cons_zero, List.set_cons_succ]
                                    refine skip_g (i := 22) (d := 192) (g := (19, true)) (by kernel_rfl) (by kernel_rfl) (by rfl) (by kernel_rfl) (by kernel_rfl) (by kernel_rfl) (fun _ _ _ h => h) hHeld ?_
                                    try simp only [Act.put, List.setIfInBounds_toArray, List.set_cons_zero, List.set_cons_succ]
                                    refine skip_g (i := 23) (d := 193) (g := (22, false)) (by kernel_rfl) (by kernel_rfl) (by rfl) (by kernel_rfl) (by kernel_rfl) (by kernel_rfl) (fun _ _ _ h => h) hHeld ?_
                                    try simp only [Act.put, List.setIfInBounds_toArray, List.set_cons_zero, List.set_cons_succ]
                                    refine skip_g (i := 24) (d := 194) (g := (22, false)) (by kernel_rfl) (by kernel_rfl) (by rfl) (by kernel_rfl) (by kernel_rfl) (by kernel_rfl) (fun _ _ _ h => h) hHeld ?_
                                    try simp only [Act.put, List.setIfInBounds_toArray, List.set_cons_zero, List.set_cons_succ]
                                    refine skip_g (i := 25) (d := 195) (g := (22, false)) (by kernel_rfl) (by kernel_rfl) (by rfl) (by kernel_rfl) (by kernel_rfl) (by kernel_rfl) (fun _ _ _ h => h) hHeld ?_
                                    try simp only [Act.put, List.setIfInBounds_toArray, List.set_cons_zero, List.set_cons_succ]
                                    refine skip_g (i := 26) (d := 196) (g := (22, false)) (by kernel_rfl) (by kernel_rfl) (by rfl) (by kernel_rfl) (by kernel_rfl) (by kernel_rfl) (fun _ _ _ h => h) hHeld ?_
                                    try simp only [Act.put, List.setIfInBounds_toArray, List.set_cons_zero, List.set_cons_succ]
                                    refine skip_g (i := 27) (d := 197) (g := (22, false)) (by kernel_rfl) (by kernel_rfl) (by rfl) (by kernel_rfl) (by kernel_rfl) (by kernel_rfl) (fun _ _ _ h => h) hHeld ?_
                                    try simp only [Act.put, List.setIfInBounds_toArray, List.set_cons_zero, List.set_cons_succ]
                                    refine skip_g (i := 28) (d := 198) (g := (22, false)) (by kernel_rfl) (by kernel_rfl) (by rfl) (by kernel_rfl) (by kernel_rfl) (by kernel_rfl) (fun _ _ _ h => h) hHeld ?_
                                    try simp only [Act.put, List.setIfInBounds_toArray, List.set_cons_zero, List.set_cons_succ]
                                    refine skip_g (i := 29) (d := 199) (g := (22, false)) (by kernel_rfl) (by kernel_rfl) (by rfl) (by kernel_rfl) (by kernel_rfl) (by kernel_rfl) (fun _ _ _ h => h) hHeld ?_
                                    try simp only [Act.put, List.setIfInBounds_toArray, List.set_cons_zero, List.set_cons_succ]
                                    refine skip_g (i := 30) (d := 200) (g := (22, false)) (by kernel_rfl) (by kernel_rfl) (by rfl) (by kernel_rfl) (by kernel_rfl) (by kernel_rfl) (fun _ _ _ h => h) hHeld ?_
                                    try simp only [Act.put, List.setIfInBounds_toArray, List.set_cons_zero, List.set_cons_succ]
                                    refine skip_g (i := 31) (d := 201) (g := (22, false)) (by kernel_rfl) (by kernel_rfl) (by rfl) (by kernel_rfl) (by kernel_rfl) (by kernel_rfl) (fun _ _ _ h => h) hHeld ?_
                                    try simp only [Act.put, List.setIfInBounds_toArray, List.set_cons_zero, List.set_cons_succ]
                                    refine skip_g (i := 32) (d := 202) (g := (22, false)) (by kernel_rfl) (by kernel_rfl) (by rfl) (by kernel_rfl) (by kernel_rfl) (by kernel_rfl) (fun _ _ _ h => h) hHeld ?_
                                    try simp only [Act.put, List.setIfInBounds_toArray, List.set_cons_zero, List.set_cons_succ]
                                    refine skip_g (i := 33) (d := 203) (g := (22, false)) (by kernel_rfl) (by kernel_rfl) (by rfl) (by kernel_rfl) (by kernel_rfl) (by kernel_rfl) (fun _ _ _ h => h) hHeld ?_
                                    try simp only [Act.put, List.setIfInBounds_toArray, List.set_cons_zero, List.set_cons_succ]
                                    refine skip_g (i := 34) (d := 204) (g := (22, false)) (by kernel_rfl) (by kernel_rfl) (by rfl) (by kernel_rfl) (by kernel_rfl) (by kernel_rfl) (fun _ _ _ h => h) hHeld ?_
                                    try simp only [Act.put, List.setIfInBounds_toArray, List.set_cons_zero, List.set_cons_succ]
                                    refine skip_g (i := 35) (d := 205) (g := (22, false)) (by kernel_rfl) (by kernel_rfl) (by rfl) (by kernel_rfl) (by kernel_rfl) (by kernel_rfl) (fun _ _ _ h => h) hHeld ?_
                                    try simp only [Act.put, List.setIfInBounds_toArray, List.set_cons_zero, List.set_cons_succ]
                                    refine skip_g (i := 36) (d := 206) (g := (22, false)) (by kernel_rfl) (by kernel_rfl) (by rfl) (by kernel_rfl) (by kernel_rfl) (by kernel_rfl) (fun _ _ _ h => h) hHeld ?_
                                    try simp only [Act.put, List.setIfInBounds_toArray, List.set_cons_zero, List.set_cons_succ]
                                    refine skip_g (i := 37) (d := 207) (g := (22, false)) (by kernel_rfl) (by kernel_rfl) (by rfl) (by kernel_rfl) (by kernel_rfl) (by kernel_rfl) (fun _ _ _ h => h) hHeld ?_
                                    try simp only [Act.put, List.setIfInBounds_toArray, List.set_cons_zero, List.set_cons_succ]
                                    refine skip_g (i := 38) (d := 208) (g := (22, false)) (by kernel_rfl) (by kernel_rfl) (by rfl) (by kernel_rfl) (by kernel_rfl) (by kernel_rfl) (fun _ _ _ h => h) hHeld ?_
                                    try simp only [Act.put, List.setIfInBounds_toArray, List.set_cons_zero, List.set_cons_succ]
                                    refine skip_g (i := 39) (d := 209) (g := (22, false)) (by kernel_rfl) (by kernel_rfl) (by rfl) (by kernel_rfl) (by kernel_rfl) (by kernel_rfl) (fun _ _ _ h => h) hHeld ?_
                                    try simp only [Act.put, List.setIfInBounds_toArray, List.set_cons_zero, List.set_cons_succ]
                                    refine skip_g (i := 40) (d := 210) (g := (22, false)) (by kernel_rfl) (by kernel_rfl) (by rfl) (by kernel_rfl) (by kernel_rfl) (by kernel_rfl) (fun _ _ _ h => h) hHeld ?_
                                    try simp only [Act.put, List.setIfInBounds_toArray, List.set_cons_zero, List.set_cons_succ]
                                    refine skip_g (i := 41) (d := 211) (g := (22, false)) (by kernel_rfl) (by kernel_rfl) (by rfl) (by kernel_rfl) (by kernel_rfl) (by kernel_rfl) (fun _ _ _ h => h) hHeld ?_
                                    try simp only [Act.put, List.setIfInBounds_toArray, List.set_cons_zero, List.set_cons_succ]
                                    refine skip_g (i := 42) (d := 212) (g := (19, true)) (by kernel_rfl) (by kernel_rfl) (by rfl) (by kernel_rfl) (by kernel_rfl) (by kernel_rfl) (fun _ _ _ h => h) hHeld ?_
                                    try simp only [Act.put, List.setIfInBounds_toArray, List.set_cons_zero, List.set_cons_succ]
                                    refine take_g (i := 43) (d := 213) (op := Op.pick (Operand.tmp 189) (Operand.tmp 212) (Operand.const (Value.bool false))) (ty := 4) (v := .bool false) (g := none) (by kernel_rfl) (by kernel_rfl) (by rfl) (by kernel_rfl) (by kernel_rfl) (by kernel_rfl) (fun _ _ _ h => h) (fun wS hS => by clear hS; go_simp) hHeld ?_
                                    try simp only [Act.put, List.setIfInBounds_toArray, List.set_cons_zero, List.set_cons_succ]
                                    refine take_g (i := 44) (d := 3) (op := Op.assign (Operand.tmp 213)) (ty := 4) (v := .bool false) (g := none) (by kernel_rfl) (by kernel_rfl) (by rfl) (by kernel_rfl) (by kernel_rfl) (by kernel_rfl) (fun _ _ _ h => h) (fun wS hS => by clear hS; go_simp) hHeld ?_
                                    try simp only [Act.put, List.setIfInBounds_toArray, List.set_cons_zero, List.set_cons_succ]
                                    refine wpAnyH_done (by kernel_rfl) ?_ _
                                    clear hHeld
                                    go_wp2
                                    go_roundw
                                    case rel => exact ⟨k + 1, HKn.out, by go_num, by rw [HP1.out, HNN.out]; simp, Lib.hid (below_step HBs2.out (below_step HBA.out hb9))⟩
                                    case measure => have := HKn.out; simp [intOf]; omega
                                | true =>
                                  as_aux_lemma =>
                                    rcases HTk.out with ⟨hkz, rfl⟩ | ⟨hk0, rfl⟩
                                    · subst hkz
                                      clear j2
                                      as_aux_lemma =>
                                        refine take_g (i := 18) (d := 188) (op := Op.pick (Operand.tmp 183) (Operand.tmp 187) (Operand.const (Value.bool false))) (ty := 4) (v := .bool true) (g := none) (by kernel_rfl) (by kernel_rfl) (by rfl) (by kernel_rfl) (by kernel_rfl) (by kernel_rfl) (fun _ _ _ h => h) (fun wS hS => by clear hS; go_simp) hHeld ?_
                                        try simp only [Act.put, List.setIfInBounds_toArray, List.set_cons_zero, List.set_cons_succ]
                                        refine take_g (i := 19) (d := 189) (op := Op.move (Operand.tmp 188)) (ty := 4) (v := .bool true) (g := none) (by kernel_rfl) (by kernel_rfl) (by rfl) (by kernel_rfl) (by kernel_rfl) (by kernel_rfl) (fun _ _ _ h => h) (fun wS hS => by clear hS; go_simp) hHeld ?_
                                        try simp only [Act.put, List.setIfInBounds_toArray, List.set_cons_zero, List.set_cons_succ]
                                        refine take_g (i := 20) (d := 190) (op := Op.move (Operand.tmp 8)) (ty := 3) (v := .int .i64 ((0 : Nat) : Int)) (g := some (19, true)) (by kernel_rfl) (by kernel_rfl) (by rfl) (by kernel_rfl) (by kernel_rfl) (by kernel_rfl) (fun _ _ _ h => h) (fun wS hS => by clear hS; go_simp) hHeld ?_
                                        try simp only [Act.put, List.setIfInBounds_toArray, List.set_cons_zero, List.set_cons_succ]
                                        refine take_g (i := 21) (d := 191) (op := Op.binOp BinOp.eql 3 (Operand.tmp 190) (Operand.const (Value.int IntKind.i64 0)) 3) (ty := 4) (v := .bool true) (g := some (19, true)) (by kernel_rfl) (by kernel_rfl) (by rfl) (by kernel_rfl) (by kernel_rfl) (by kernel_rfl) (fun _ _ _ h => h) (fun wS hS => by clear hS; go_simp) hHeld ?_
                                        try simp only [Act.put, List.setIfInBounds_toArray, List.set_cons_zero, List.set_cons_succ]
                                        refine take_g (i := 22) (d := 192) (op := Op.move (Operand.tmp 191)) (ty := 4) (v := .bool true) (g := some (19, true)) (by kernel_rfl) (by kernel_rfl) (by rfl) (by kernel_rfl) (by kernel_rfl) (by kernel_rfl) (fun _ _ _ h => h) (fun wS hS => by clear hS; go_simp) hHeld ?_
                                        try simp only [Act.put, List.setIfInBounds_toArray, List.set_cons_zero, List.set_cons_succ]
                                        refine skip_g (i := 23) (d := 193) (g := (22, false)) (by kernel_rfl) (by kernel_rfl) (by rfl) (by kernel_rfl) (by kernel_rfl) (by kernel_rfl) (fun _ _ _ h => h) hHeld ?_
                                        try simp only [Act.put, List.setIfInBounds_toArray, List.set_cons_zero, List.set_cons_succ]
                                        refine skip_g (i := 24) (d := 194) (g := (22, false)) (by kernel_rfl) (by kernel_rfl) (by rfl) (by kernel_rfl) (by kernel_rfl) (by kernel_rfl) (fun _ _ _ h => h) hHeld ?_
                                        try simp only [Act.put, List.setIfInBounds_toArray, List.set_cons_zero, List.set_cons_succ]
                                        refine skip_g (i := 25) (d := 195) (g := (22, false)) (by kernel_rfl) (by kernel_rfl) (by rfl) (by kernel_rfl) (by kernel_rfl) (by kernel_rfl) (fun _ _ _ h => h) hHeld ?_
                                        try simp only [Act.put, List.setIfInBounds_toArray, List.set_cons_zero, List.set_cons_succ]
                                        refine skip_g (i := 26) (d := 196) (g := (22, false)) (by kernel_rfl) (by kernel_rfl) (by rfl) (by kernel_rfl) (by kernel_rfl) (by kernel_rfl) (fun _ _ _ h => h) hHeld ?_
                                        try simp only [Act.put, List.setIfInBounds_toArray, List.set_cons_zero, List.set_cons_succ]
                                        refine skip_g (i := 27) (d := 197) (g := (22, false)) (by kernel_rfl) (by kernel_rfl) (by rfl) (by kernel_rfl) (by kernel_rfl) (by kernel_rfl) (fun _ _ _ h => h) hHeld ?_
                                        try simp only [Act.put, List.setIfInBounds_toArray, List.set_cons_zero, List.set_cons_succ]
                                        refine skip_g (i := 28) (d := 198) (g := (22, false)) (by kernel_rfl) (by kernel_rfl) (by rfl) (by kernel_rfl) (by kernel_rfl) (by kernel_rfl) (fun _ _ _ h => h) hHeld ?_
                                        try simp only [Act.put, List.setIfInBounds_toArray, List.set_cons_zero, List.set_cons_succ]
                                        refine skip_g (i := 29) (d := 199) (g := (22, false)) (by kernel_rfl) (by kernel_rfl) (by rfl) (by kernel_rfl) (by kernel_rfl) (by kernel_rfl) (fun _ _ _ h => h) hHeld ?_
                                        try simp only [Act.put, List.setIfInBounds_toArray, List.set_cons_zero, List.set_cons_succ]
                                        refine skip_g (i := 30) (d := 200) (g := (22, false)) (by kernel_rfl) (by kernel_rfl) (by rfl) (by kernel_rfl) (by kernel_rfl) (by kernel_rfl) (fun _ _ _ h => h) hHeld ?_
                                        try simp only [Act.put, List.setIfInBounds_toArray, List.set_cons_zero, List.set_cons_succ]
                                        refine skip_g (i := 31) (d := 201) (g := (22, false)) (by kernel_rfl) (by kernel_rfl) (by rfl) (by kernel_rfl) (by kernel_rfl) (by kernel_rfl) (fun _ _ _ h => h) hHeld ?_
                                        try simp only [Act.put, List.setIfInBounds_toArray, List.set_cons_zero, List.set_cons_succ]
                                        refine skip_g (i := 32) (d := 202) (g := (22, false)) (by kernel_rfl) (by kernel_rfl) (by rfl) (by kernel_rfl) (by kernel_rfl) (by kernel_rfl) (fun _ _ _ h => h) hHeld ?_
                                        try simp only [Act.put, List.setIfInBounds_toArray, List.set_cons_zero, List.set_cons_succ]
                                        refine skip_g (i := 33) (d := 203) (g := (22, false)) (by kernel_rfl) (by kernel_rfl) (by rfl) (by kernel_rfl) (by kernel_rfl) (by kernel_rfl) (fun _ _ _ h => h) hHeld ?_
                                        try simp only [Act.put, List.setIfInBounds_toArray, List.set_cons_zero, List.set_cons_succ]
                                        refine skip_g (i := 34) (d := 204) (g := (22, false)) (by kernel_rfl) (by kernel_rfl) (by rfl) (by kernel_rfl) (by kernel_rfl) (by kernel_rfl) (fun _ _ _ h => h) hHeld ?_
                                        try simp only [Act.put, List.setIfInBounds_toArray, List.set_cons_zero, List.set_cons_succ]
                                        refine skip_g (i := 35) (d := 205) (g := (22, false)) (by kernel_rfl) (by kernel_rfl) (by rfl) (by kernel_rfl) (by kernel_rfl) (by kernel_rfl) (fun _ _ _ h => h) hHeld ?_
                                        try simp only [Act.put, List.setIfInBounds_toArray, List.set_cons_zero, List.set_cons_succ]
                                        refine skip_g (i := 36) (d := 206) (g := (22, false)) (by kernel_rfl) (by kernel_rfl) (by rfl) (by kernel_rfl) (by kernel_rfl) (by kernel_rfl) (fun _ _ _ h => h) hHeld ?_
                                        try simp only [Act.put, List.setIfInBounds_toArray, List.set_cons_zero, List.set_cons_succ]
                                        refine skip_g (i := 37) (d := 207) (g := (22, false)) (by kernel_rfl) (by kernel_rfl) (by rfl) (by kernel_rfl) (by kernel_rfl) (by kernel_rfl) (fun _ _ _ h => h) hHeld ?_
                                        try simp only [Act.put, List.setIfInBounds_toArray, List.set_cons_zero, List.set_cons_succ]
                                        refine skip_g (i := 38) (d := 208) (g := (22, false)) (by kernel_rfl) (by kernel_rfl) (by rfl) (by kernel_rfl) (by kernel_rfl) (by kernel_rfl) (fun _ _ _ h => h) hHeld ?_
                                        try simp only [Act.put, List.setIfInBounds_toArray, List.set_cons_zero, List.set_cons_succ]
                                        refine skip_g (i := 39) (d := 209) (g := (22, false)) (by kernel_rfl) (by kernel_rfl) (by rfl) (by kernel_rfl) (by kernel_rfl) (by kernel_rfl) (fun _ _ _ h => h) hHeld ?_
                                        try simp only [Act.put, List.setIfInBounds_toArray, List.set_cons_zero, List.set_cons_succ]
                                        refine skip_g (i := 40) (d := 210) (g := (22, false)) (by kernel_rfl) (by kernel_rfl) (by rfl) (by kernel_rfl) (by kernel_rfl) (by kernel_rfl) (fun _ _ _ h => h) hHeld ?_
                                        try simp only [Act.put, List.setIfInBounds_toArray, List.set_cons_zero, List.set_cons_succ]
                                        refine skip_g (i := 41) (d := 211) (g := (22, false)) (by kernel_rfl) (by kernel_rfl) (by rfl) (by kernel_rfl) (by kernel_rfl) (by kernel_rfl) (fun _ _ _ h => h) hHeld ?_
                                        try simp only [Act.put, List.setIfInBounds_toArray, List.set_cons_zero, List.set_cons_succ]
                                        refine take_g (i := 42) (d := 212) (op := Op.pick (Operand.tmp 192) (Operand.const (Value.bool true)) (Operand.tmp 211)) (ty := 4) (v := .bool true) (g := some (19, true)) (by kernel_rfl) (by kernel_rfl) (by rfl) (by kernel_rfl) (by kernel_rfl) (by kernel_rfl) (fun _ _ _ h => h) (fun wS hS => by clear hS; go_simp) hHeld ?_
                                        try simp only [Act.put, List.setIfInBounds_toArray, List.set_cons_zero, List.set_cons_succ]
                                        refine take_g (i := 43) (d := 213) (op := Op.pick (Operand.tmp 189) (Operand.tmp 212) (Operand.const (Value.bool false))) (ty := 4) (v := .bool true) (g := none) (by kernel_rfl) (by kernel_rfl) (by rfl) (by kernel_rfl) (by kernel_rfl) (by kernel_rfl) (fun _ _ _ h => h) (fun wS hS => by clear hS; go_simp) hHeld ?_
                                        try simp only [Act.put, List.setIfInBounds_toArray, List.set_cons_zero, List.set_cons_succ]
                                        refine take_g (i := 44) (d := 3) (op := Op.assign (Operand.tmp 213)) (ty := 4) (v := .bool true) (g := none) (by kernel_rfl) (by kernel_rfl) (by rfl) (by kernel_rfl) (by kernel_rfl) (by kernel_rfl) (fun _ _ _ h => h) (fun wS hS => by clear hS; go_simp) hHeld ?_
                                        try simp only [Act.put, List.setIfInBounds_toArray, List.set_cons_zero, List.set_cons_succ]
                                        refine wpAnyH_done (by kernel_rfl) ?_ _
                                        clear hHeld
                                        go_wp2
                                        go_roundw
                                        case rel => exact ⟨0 + 1, HKn.out, by go_num, by rw [HP1.out, HNN.out]; simp, Lib.hid (below_step HBs2.out (below_step HBA.out hb9))⟩
                                        case measure => have := HKn.out; simp [intOf]; omega
                                    · have j0 : (k : Int) ≠ 0 := by omega
                                      have j1 : ((k : Int) == 0) = false := beq_eq_false_iff_ne.2 j0
                                      have j5 := j2.out hk0
                                      clear j2
                                      as_aux_lemma =>
                                        refine take_g (i := 18) (d := 188) (op := Op.pick (Operand.tmp 183) (Operand.tmp 187) (Operand.const (Value.bool false))) (ty := 4) (v := .bool true) (g := none) (by kernel_rfl) (by kernel_rfl) (by rfl) (by kernel_rfl) (by kernel_rfl) (by kernel_rfl) (fun _ _ _ h => h) (fun wS hS => by clear hS; go_simp) hHeld ?_
                                        try simp only [Act.put, List.setIfInBounds_toArray, List.set_cons_zero, List.set_cons_succ]
                                        refine take_g (i := 19) (d := 189) (op := Op.move (Operand.tmp 188)) (ty := 4) (v := .bool true) (g := none) (by kernel_rfl) (by kernel_rfl) (by rfl) (by kernel_rfl) (by kernel_rfl) (by kernel_rfl) (fun _ _ _ h => h) (fun wS hS => by clear hS; go_simp) hHeld ?_
                                        try simp only [Act.put, List.setIfInBounds_toArray, List.set_cons_zero, List.set_cons_succ]
                                        refine take_g (i := 20) (d := 190) (op := Op.move (Operand.tmp 8)) (ty := 3) (v := .int .i64 (k : Int)) (g := some (19, true)) (by kernel_rfl) (by kernel_rfl) (by rfl) (by kernel_rfl) (by kernel_rfl) (by kernel_rfl) (fun _ _ _ h => h) (fun wS hS => by clear hS; go_simp) hHeld ?_
                                        try simp only [Act.put, List.setIfInBounds_toArray, List.set_cons_zero, List.set_cons_succ]
                                        refine take_g (i := 21) (d := 191) (op := Op.binOp BinOp.eql 3 (Operand.tmp 190) (Operand.const (Value.int IntKind.i64 0)) 3) (ty := 4) (v := .bool false) (g := some (19, true)) (by kernel_rfl) (by kernel_rfl) (by rfl) (by kernel_rfl) (by kernel_rfl) (by kernel_rfl) (fun _ _ _ h => h) (fun wS hS => by clear hS; go_simp) hHeld ?_
                                        try simp only [Act.put, List.setIfInBounds_toArray, List.set_cons_zero, List.set_cons_succ]
                                        refine take_g (i := 22) (d := 192) (op := Op.move (Operand.tmp 191)) (ty := 4) (v := .bool false) (g := some (19, true)) (by kernel_rfl) (by kernel_rfl) (by rfl) (by kernel_rfl) (by kernel_rfl) (by kernel_rfl) (fun _ _ _ h => h) (fun wS hS => by clear hS; go_simp) hHeld ?_
                                        try simp only [Act.put, List.setIfInBounds_toArray, List.set_cons_zero, List.set_cons_succ]
                                        refine take_g (i := 23) (d := 193) (op := Op.fieldAddr 28 (Operand.tmp 1) 4) (ty := 0) (v := .pointer (some ⟨w.heap.size, 7, none⟩)) (g := some (22, false)) (by kernel_rfl) (by kernel_rfl) (by rfl) (by kernel_rfl) (by kernel_rfl) (by kernel_rfl) (fun _ _ _ h => h) (fun wS hS => by clear hS; go_simp) hHeld ?_
                                        try simp only [Act.put, List.setIfInBounds_toArray, List.set_cons_zero, List.set_cons_succ]
                                        refine take_g (i := 24) (d := 194) (op := Op.load 26 (Operand.tmp 193)) (ty := 26) (v := .slice (some ⟨b1, o1, none⟩) nc cl) (g := some (22, false)) (by kernel_rfl) (by kernel_rfl) (by rfl) (by kernel_rfl) (by kernel_rfl) (by kernel_rfl) (fun _ _ _ h => h) (fun wS hS => by (try dsimp only at hS); obtain ⟨s0, s1, s2, s3, s4, s5, s6, s7, s8, s9, sa, sb, sc⟩ := hS; go_simp) hHeld ?_
                                        try simp only [Act.put, List.setIfInBounds_toArray, List.set_cons_zero, List.set_cons_succ]
                                        refine take_g (i := 25) (d := 195) (op := Op.move (Operand.tmp 8)) (ty := 3) (v := .int .i64 (k : Int)) (g := some (22, false)) (by kernel_rfl) (by kernel_rfl) (by rfl) (by kernel_rfl) (by kernel_rfl) (by kernel_rfl) (fun _ _ _ h => h) (fun wS hS => by clear hS; go_simp) hHeld ?_
                                        try simp only [Act.put, List.setIfInBounds_toArray, List.set_cons_zero, List.set_cons_succ]
                                        refine take_g (i := 26) (d := 196) (op := Op.binOp BinOp.sub 3 (Operand.tmp 195) (Operand.const (Value.int IntKind.i64 1)) 3) (ty := 3) (v := .int .i64 (J : Int)) (g := some (22, false)) (by kernel_rfl) (by kernel_rfl) (by rfl) (by kernel_rfl) (by kernel_rfl) (by kernel_rfl) (fun _ _ _ h => h) (fun wS hS => by clear hS; go_simp) hHeld ?_
                                        try simp only [Act.put, List.setIfInBounds_toArray, List.set_cons_zero, List.set_cons_succ]
                                        refine take_g (i := 27) (d := 197) (op := Op.indexAddr 26 (Operand.tmp 194) (Operand.tmp 196)) (ty := 0) (v := .pointer (some ⟨b1, o1 + J * 3, none⟩)) (g := some (22, false)) (by kernel_rfl) (by kernel_rfl) (by rfl) (by kernel_rfl) (by kernel_rfl) (by kernel_rfl) (fun _ _ _ h => h) (fun wS hS => by clear hS; go_simp) hHeld ?_
                                        try simp only [Act.put, List.setIfInBounds_toArray, List.set_cons_zero, List.set_cons_succ]
                                        refine take_g (i := 28) (d := 198) (op := Op.fieldAddr 54 (Operand.tmp 197) 0) (ty := 0) (v := .pointer (some ⟨b1, o1 + J * 3, none⟩)) (g := some (22, false)) (by kernel_rfl) (by kernel_rfl) (by rfl) (by kernel_rfl) (by kernel_rfl) (by kernel_rfl) (fun _ _ _ h => h) (fun wS hS => by clear hS; go_simp) hHeld ?_
                                        try simp only [Act.put, List.setIfInBounds_toArray, List.set_cons_zero, List.set_cons_succ]
                                        refine take_g (i := 29) (d := 199) (op := Op.load 21 (Operand.tmp 198)) (ty := 21) (v := .int .i32 y.a) (g := some (22, false)) (by kernel_rfl) (by kernel_rfl) (by rfl) (by kernel_rfl) (by kernel_rfl) (by kernel_rfl) (fun _ _ _ h => h) (fun wS hS => by (try dsimp only at hS); obtain ⟨s0, s1, s2, s3, s4, s5, s6, s7, s8, s9, sa, sb, sc⟩ := hS; go_simp) hHeld ?_
                                        try simp only [Act.put, List.setIfInBounds_toArray, List.set_cons_zero, List.set_cons_succ]
                                        refine take_g (i := 30) (d := 200) (op := Op.fieldAddr 28 (Operand.tmp 1) 4) (ty := 0) (v := .pointer (some ⟨w.heap.size, 7, none⟩)) (g := some (22, false)) (by kernel_rfl) (by kernel_rfl) (by rfl) (by kernel_rfl) (by kernel_rfl) (by kernel_rfl) (fun _ _ _ h => h) (fun wS hS => by clear hS; go_simp) hHeld ?_
                                        try simp only [Act.put, List.setIfInBounds_toArray, List.set_cons_zero, List.set_cons_succ]
                                        refine take_g (i := 31) (d := 201) (op := Op.load 26 (Operand.tmp 200)) (ty := 26) (v := .slice (some ⟨b1, o1, none⟩) nc cl) (g := some (22, false)) (by kernel_rfl) (by kernel_rfl) (by rfl) (by kernel_rfl) (by kernel_rfl) (by kernel_rfl) (fun _ _ _ h => h) (fun wS hS => by (try dsimp only at hS); obtain ⟨s0, s1, s2, s3, s4, s5, s6, s7, s8, s9, sa, sb, sc⟩ := hS; go_simp) hHeld ?_
                                        try simp only [Act.put, List.setIfInBounds_toArray, List.set_cons_zero, List.set_cons_succ]
                                        refine take_g (i := 32) (d := 202) (op := Op.move (Operand.tmp 8)) (ty := 3) (v := .int .i64 (k : Int)) (g := some (22, false)) (by kernel_rfl) (by kernel_rfl) (by rfl) (by kernel_rfl) (by kernel_rfl) (by kernel_rfl) (fun _ _ _ h => h) (fun wS hS => by clear hS; go_simp) hHeld ?_
                                        try simp only [Act.put, List.setIfInBounds_toArray, List.set_cons_zero, List.set_cons_succ]
                                        refine take_g (i := 33) (d := 203) (op := Op.binOp BinOp.sub 3 (Operand.tmp 202) (Operand.const (Value.int IntKind.i64 1)) 3) (ty := 3) (v := .int .i64 (J : Int)) (g := some (22, false)) (by kernel_rfl) (by kernel_rfl) (by rfl) (by kernel_rfl) (by kernel_rfl) (by kernel_rfl) (fun _ _ _ h => h) (fun wS hS => by clear hS; go_simp) hHeld ?_
                                        try simp only [Act.put, List.setIfInBounds_toArray, List.set_cons_zero, List.set_cons_succ]
                                        refine take_g (i := 34) (d := 204) (op := Op.indexAddr 26 (Operand.tmp 201) (Operand.tmp 203)) (ty := 0) (v := .pointer (some ⟨b1, o1 + J * 3, none⟩)) (g := some (22, false)) (by kernel_rfl) (by kernel_rfl) (by rfl) (by kernel_rfl) (by kernel_rfl) (by kernel_rfl) (fun _ _ _ h => h) (fun wS hS => by clear hS; go_simp) hHeld ?_
                                        try simp only [Act.put, List.setIfInBounds_toArray, List.set_cons_zero, List.set_cons_succ]
                                        refine take_g (i := 35) (d := 205) (op := Op.fieldAddr 54 (Operand.tmp 204) 1) (ty := 0) (v := .pointer (some ⟨b1, o1 + J * 3 + 1, none⟩)) (g := some (22, false)) (by kernel_rfl) (by kernel_rfl) (by rfl) (by kernel_rfl) (by kernel_rfl) (by kernel_rfl) (fun _ _ _ h => h) (fun wS hS => by clear hS; go_simp) hHeld ?_
                                        try simp only [Act.put, List.setIfInBounds_toArray, List.set_cons_zero, List.set_cons_succ]
                                        refine take_g (i := 36) (d := 206) (op := Op.load 21 (Operand.tmp 205)) (ty := 21) (v := .int .i32 y.b) (g := some (22, false)) (by kernel_rfl) (by kernel_rfl) (by rfl) (by kernel_rfl) (by kernel_rfl) (by kernel_rfl) (fun _ _ _ h => h) (fun wS hS => by (try dsimp only at hS); obtain ⟨s0, s1, s2, s3, s4, s5, s6, s7, s8, s9, sa, sb, sc⟩ := hS; go_simp) hHeld ?_
                                        try simp only [Act.put, List.setIfInBounds_toArray, List.set_cons_zero, List.set_cons_succ]
                                        refine take_g (i := 37) (d := 207) (op := Op.fieldAddr 54 (Operand.tmp 9) 0) (ty := 0) (v := .pointer (some ⟨PB, 0, none⟩)) (g := some (22, false)) (by kernel_rfl) (by kernel_rfl) (by rfl) (by kernel_rfl) (by kernel_rfl) (by kernel_rfl) (fun _ _ _ h => h) (fun wS hS => by clear hS; go_simp) hHeld ?_
                                        try simp only [Act.put, List.setIfInBounds_toArray, List.set_cons_zero, List.set_cons_succ]
                                        refine take_g (i := 38) (d := 208) (op := Op.load 21 (Operand.tmp 207)) (ty := 21) (v := .int .i32 c.a) (g := some (22, false)) (by kernel_rfl) (by kernel_rfl) (by rfl) (by kernel_rfl) (by kernel_rfl) (by kernel_rfl) (fun _ _ _ h => h) (fun wS hS => by (try dsimp only at hS); obtain ⟨s0, s1, s2, s3, s4, s5, s6, s7, s8, s9, sa, sb, sc⟩ := hS; go_simp) hHeld ?_
                                        try simp only [Act.put, List.setIfInBounds_toArray, List.set_cons_zero, List.set_cons_succ]
                                        refine take_g (i := 39) (d := 209) (op := Op.fieldAddr 54 (Operand.tmp 9) 1) (ty := 0) (v := .pointer (some ⟨PB, 1, none⟩)) (g := some (22, false)) (by kernel_rfl) (by kernel_rfl) (by rfl) (by kernel_rfl) (by kernel_rfl) (by kernel_rfl) (fun _ _ _ h => h) (fun wS hS => by clear hS; go_simp) hHeld ?_
                                        try simp only [Act.put, List.setIfInBounds_toArray, List.set_cons_zero, List.set_cons_succ]
                                        refine take_g (i := 40) (d := 210) (op := Op.load 21 (Operand.tmp 209)) (ty := 21) (v := .int .i32 c.b) (g := some (22, false)) (by kernel_rfl) (by kernel_rfl) (by rfl) (by kernel_rfl) (by kernel_rfl) (by kernel_rfl) (fun _ _ _ h => h) (fun wS hS => by (try dsimp only at hS); obtain ⟨s0, s1, s2, s3, s4, s5, s6, s7, s8, s9, sa, sb, sc⟩ := hS; go_simp) hHeld ?_
                                        try simp only [Act.put, List.setIfInBounds_toArray, List.set_cons_zero, List.set_cons_succ]
                                        refine wpAnyH_ready (rs := [41]) (by kernel_rfl) (by simp) ?_
                                        refine AllReadyH.cons rfl (fun K hK => ?_) AllReadyH.nil
                                        go_simp
                                        go_at_call 59
                                        with_reducible refine (cT.out _).mono ?_
                                        rintro e w10 ⟨rfl, rfl⟩
                                        refine hK.out _ _ hHeld (fun hHeld => ?_)
                                        clear hK K
                                        try simp only [Act.put, List.setIfInBounds_toArray, List.set_cons_zero, List.set_cons_succ]
                                        refine take_g (i := 42) (d := 212) (op := Op.pick (Operand.tmp 192) (Operand.const (Value.bool true)) (Operand.tmp 211)) (ty := 4) (v := .bool T) (g := some (19, true)) (by kernel_rfl) (by kernel_rfl) (by rfl) (by kernel_rfl) (by kernel_rfl) (by kernel_rfl) (fun _ _ _ h => h) (fun wS hS => by clear hS; go_simp) hHeld ?_
                                        try simp only [Act.put, List.setIfInBounds_toArray, List.set_cons_zero, List.set_cons_succ]
                                        refine take_g (i := 43) (d := 213) (op := Op.pick (Operand.tmp 189) (Operand.tmp 212) (Operand.const (Value.bool false))) (ty := 4) (v := .bool T) (g := none) (by kernel_rfl) (by kernel_rfl) (by rfl) (by kernel_rfl) (by kernel_rfl) (by kernel_rfl) (fun _ _ _ h => h) (fun wS hS => by clear hS; go_simp) hHeld ?_
                                        try simp only [Act.put, List.setIfInBounds_toArray, List.set_cons_zero, List.set_cons_succ]
                                        refine take_g (i := 44) (d := 3) (op := Op.assign (Operand.tmp 213)) (ty := 4) (v := .bool T) (g := none) (by kernel_rfl) (by kernel_rfl) (by rfl) (by kernel_rfl) (by kernel_rfl) (by kernel_rfl) (fun _ _ _ h => h) (fun wS hS => by clear hS; go_simp) hHeld ?_
                                        try simp only [Act.put, List.setIfInBounds_toArray, List.set_cons_zero, List.set_cons_succ]
                                        refine wpAnyH_done (by kernel_rfl) ?_ _
                                        clear hHeld
                                        go_wp2
                                        go_roundw
                                        case rel => exact ⟨k + 1, HKn.out, by go_num, by rw [HP1.out, HNN.out]; simp, Lib.hid (below_step HBs2.out (below_step HBA.out hb9))⟩
                                        case measure => have := HKn.out; simp [intOf]; omega
                · have HE : Hid (preOk (Mt.lgOk m) (fun a b => Mt.rises a.a a.b b.a b.b) m.ligs k = (m.ligs.all (Mt.lgOk m) && Mt.up (fun a b => Mt.rises a.a a.b b.a b.b) m.ligs)) := Lib.hid (preOk_end _ _ (by rw [← Hnc.out]; omega))
                  go_wp2
                  go_ret
                  rw [HMay2.out, HE.out]
                  exact ⟨rfl, HBv.out⟩
  · have HMay2 : Hid (Mt.may m = false) := Lib.hid (by rw [HMay.out, decide_eq_false hz]; rfl)
    have hz2 : 256 < na ∨ (na ≤ 256 ∧ 1000 < nb) ∨ (na ≤ 256 ∧ nb ≤ 1000 ∧ 1000 < nc) ∨ (na ≤ 256 ∧ nb ≤ 1000 ∧ nc ≤ 1000 ∧ so ≠ 0) := by omega
    clear HMay hz
    generalize Mt.may m = R at HMay2 ⊢
    rcases hz2 with z | ⟨z1, z2⟩ | ⟨z1, z2, z3⟩ | ⟨z1, z2, z3, z4⟩
    · go_enter Tryz.func27, Tryz.ntmps27
      go_wp2
      go_ret
      rw [HMay2.out]
      exact ⟨rfl, HB.out⟩
    · go_enter Tryz.func27, Tryz.ntmps27
      go_wp2
      go_ret
      rw [HMay2.out]
      exact ⟨rfl, HB.out⟩
    · go_enter Tryz.func27, Tryz.ntmps27
      go_wp2
      go_ret
      rw [HMay2.out]
      exact ⟨rfl, HB.out⟩
    · have q : (so == 0) = false := beq_eq_false_iff_ne.2 z4
      have q2 : (so != 0) = true := by simp only [bne, q]; rfl
      go_enter Tryz.func27, Tryz.ntmps27
      go_wp2
      go_ret
      rw [HMay2.out]
      exact ⟨rfl, HB.out⟩
end Go.Proofs.YtmehldekebphfaaGreatDoor
