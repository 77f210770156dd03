/-
  The walk of the law UtfParts: it returns true.
-/
import Derived.Test.YtacghcpkkfhfhaaDoorFixed4
import Derived.Laws.AppendOwnNone
set_option linter.unusedVariables false
set_option linter.unusedSimpArgs false
namespace Go.Proofs.YtacghcpkkfhfhaaDoor
open Go.RowKit

/-- 'append(v, u...)' of letters, u nil or not, behind a guard that holds -/
theorem wpList_append_ints {w : World} {ops : Array Oper} {rest : List Oper} {o : Oper} {a : Act} {Q : Exit → Act → World → Prop} (hw : Region.wanted o (yielded ops a.tmps) = true) (s x : Operand)
    (ho : o.op = .call { callee := .builtin .append, args := #[s, x], argTypes := #[22, 22] })
    (base B2 : Nat) (v u : Value) (xs ys : List Int) (hs : a.eval s = v) (hown : OwnI .i32 21 base v xs w) (hx : a.eval x = u) (hsrc : OwnI .i32 21 B2 u ys w) (hlen : (xs.length + ys.length) * 4 ≤ 140737488355328) (hbase : base ≤ w.heap.size)
    (h : ∀ v' w', OwnI .i32 21 base v' (xs ++ ys) w' → Below base w w' → wpList Tryd.prog ops Q rest (a.put o.dst v') w') : wpList Tryd.prog ops Q (o :: rest) a w := by
  obtain ⟨i0, hi, hz0, hz1, hz2⟩ := info_parts info32
  have hs0 := hsrc
  refine wpList_step fun K hK => ?_
  rw [if_pos hw]
  rcases hsrc.2 with ⟨rfl, hn⟩ | ⟨g, cap, cur, rfl, _, hg, hcap, hmax, hsz, htake⟩
  · obtain rfl : ys = [] := List.eq_nil_of_length_eq_zero hn
    have hrun := run_append_owned_none (P := Tryd.prog) (w := w) base 22 o.type 21 i0 1 Tryd.underlying22 hi v xs.length _ hown
    unfold Oper.wp
    simp [execOp, ho, resolve, invoke, builtin, hs, hx, hrun, Result.andThen]
    exact hK _ _ (h v w (by rw [List.append_nil]; exact hown) (Below.refl _ _))
  · refine wp_append_own w s x _ ho base 21 i0 (.int .i32 0) 1 4 Tryd.underlying22 hi hz0 hz1 hz2 rfl (by decide) v xs.length _ hs hown ⟨g, 0, none⟩ ys.length cap (ys.map (Value.int .i32)) hx (by simp) (fun j u hu => ?_) (fun u hu => ?_) (by unfold maxLen; omega) hlen hbase fun v' w' h1 h2 _ => hK _ _ (h v' w' ?_ ((Below.refl base w).grown h2 hbase (fun q hq => (World.ownsRow.lt hown q hq).1)))
    · exact World.ownsRow.cells hs0 (g := g) rfl j u hu
    · obtain ⟨s, _, rfl⟩ := List.mem_map.1 hu
      rfl
    · show World.ownsRow _ _ _ _ _ _ _
      rw [List.length_append, List.map_append]
      exact h1

/-- the two lie in no block together -/
def Apart (x y : Value) : Prop := ∀ g, x.ownBlock = some g → y.ownBlock ≠ some g
theorem Apart.kept {x y : Value} (h : Apart x y) : y.ownBlock = none ∨ y.ownBlock ≠ x.ownBlock := by
  cases hy : y.ownBlock with
  | none => exact .inl rfl
  | some g => exact .inr fun e => h g e.symm hy
theorem Apart.step {x x' y : Value} (h : Apart x y) {w : World} {B : Nat} {E : TypeId} {s n : Nat} {ys : List Value} (hy : w.ownsRow B E s y n ys) (hat : x'.ownBlock = x.ownBlock ∨ x'.ownBlock = some w.heap.size) : Apart x' y := by
  intro g hg e
  rcases hat with hat | hat
  · exact h g (by rw [← hat]; exact hg) e
  · have := (World.ownsRow.lt hy g e).2
    rw [hat] at hg
    injection hg with hg
    omega
theorem apart_new {w1 : World} {x y : Value} {B1 n m : Nat} {E1 E2 : TypeId} {s1 s2 : Nat} {xs ys : List Value} {w2 : World} (hx : w1.ownsRow B1 E1 s1 x n xs) (hy : w2.ownsRow w1.heap.size E2 s2 y m ys) : Apart x y := by
  intro g hg e
  have h1 := (World.ownsRow.lt hx g hg).2
  have h2 := (World.ownsRow.lt hy g e).1
  omega

/-- where the letters of the second text begin -/
theorem parts_places {l m : List UInt8} (h : Ut.clean l = true) : asInts (Ut.places 0 ((Ut.dec l).1 ++ (Ut.dec m).1)) = asInts (Ut.places 0 (Ut.dec l).1) ++ (asInts (Ut.places 0 (Ut.dec m).1)).map (fun x => (l.length : Int) + x) := by
  have e : (Ut.encs (Ut.dec l).1).length = l.length := by rw [← Ut.clean_iff.1 h]
  rw [Ut.places_append, e]
  have e2 := Ut.places_shift (Ut.dec m).1 l.length 0
  rw [Nat.add_zero] at e2
  rw [Nat.zero_add, e2]
  unfold asInts
  rw [List.map_append, List.map_map, List.map_map]
  congr 1
theorem parts_letters (l m : List Nat) : asInts (l ++ m) = asInts l ++ asInts m := by unfold asInts; rw [List.map_append]
theorem parts_clean {l m : List UInt8} (hl : Ut.clean l = true) : Ut.clean (l ++ m) = Ut.clean m ∧ (Ut.dec (l ++ m)).1 = (Ut.dec l).1 ++ (Ut.dec m).1 ∧ Ut.stop (l ++ m) = l.length + Ut.stop m := by
  have h := Ut.dec_parts hl m
  have e : (Ut.encs (Ut.dec l).1).length = l.length := by rw [← Ut.clean_iff.1 hl]
  refine ⟨?_, by rw [h], ?_⟩
  · unfold Ut.clean; rw [h]
  · unfold Ut.stop
    rw [h, Ut.encs_append, List.length_append, e]
theorem cat_text (s t : ByteArray) : (s ++ t).data.toList = s.data.toList ++ t.data.toList := by rw [ByteArray.data_append, Array.toList_append]

set_option maxHeartbeats 2000000 in
set_option maxRecDepth 100000 in
theorem parts_bad (s t : ByteArray) (hs : (s.size + t.size) * 8 ≤ 140737488355328) (hc : Ut.clean s.data.toList = false) (w : World) (hT : Tabs w) : Calls Tryd.prog 7 #[.string s, .string t] w (Ret (.bool true) w) := by
  have HT := Lib.hid hT
  clear hT
  have HX := dec_no hc
  obtain ⟨st, hst⟩ : ∃ st : Int, st = (Ut.stop s.data.toList : Int) := ⟨_, rfl⟩
  rw [← hst] at HX
  obtain ⟨c2, hc2⟩ : ∃ c2, c2 = decC t.data.toList := ⟨_, rfl⟩
  obtain ⟨a2, ha2⟩ : ∃ a2, a2 = decA t.data.toList := ⟨_, rfl⟩
  have HD := Lib.hid (fun w hT => decode_is s (by omega) _ 40 st rfl HX.2.1 HX.2.2.1 w hT)
  have HE := Lib.hid (fun w hT => decode_is t (by omega) _ c2 a2 rfl hc2.symm ha2.symm w hT)
  clear HX hc hst hc2 ha2 hs
  go_enter Tryd.func7, Tryd.ntmps7
  go_wp2_with fail
  refine (HD.out _ HT.out).mono ?_
  rintro e w1 ⟨v1, rfl, h1, hb1⟩
  have HB1 := Lib.hid (below_step hb1 (below_alloc w1 (.cells #[.int .i64 40, .int .i64 st] 25)))
  have HF1 := Lib.hid (flt_new w1 40 st)
  clear h1 hb1
  go_wp2_with fail
  refine (HE.out _ (HT.out.mono HB1.out)).mono ?_
  rintro e w2 ⟨v2, rfl, h2, hb2⟩
  have hb2' := below_step hb2 (below_alloc w2 (.cells #[.int .i64 c2, .int .i64 a2] 25))
  have HB2 := Lib.hid (below_step HB1.out hb2')
  have HF2 := Lib.hid (HF1.out.mono hb2')
  clear h2 hb2 hb2'
  go_wp2_with fail
  refine (fixed_any _ (HT.out.mono HB2.out)).mono ?_
  rintro e w3 ⟨rfl, hb3⟩
  have HB3 := Lib.hid (below_step HB2.out hb3)
  have HF3 := Lib.hid (HF2.out.mono hb3)
  clear hb3
  have x0 := HF3.out.c0
  have x1 := HF3.out.c1
  go_wp2_with fail
  refine (fixed_any _ (HT.out.mono HB3.out)).mono ?_
  rintro e w4 ⟨rfl, hb4⟩
  have HB4 := Lib.hid (below_step HB3.out hb4)
  clear hb4 x0 x1
  go_wp2_with fail
  go_ret
  exact ⟨rfl, HB4.out⟩

set_option maxHeartbeats 2000000 in
set_option maxRecDepth 100000 in
theorem parts_half (s t : ByteArray) (hs : (s.size + t.size) * 8 ≤ 140737488355328) (hc : Ut.clean s.data.toList = true) (ht : Ut.clean t.data.toList = false) (w : World) (hT : Tabs w) : Calls Tryd.prog 7 #[.string s, .string t] w (Ret (.bool true) w) := by
  have HT := Lib.hid hT
  clear hT
  have HX := dec_yes hc
  have HY := dec_no ht
  have hp := parts_clean (m := t.data.toList) hc
  rw [← cat_text, ht] at hp
  have HZ := dec_no hp.1
  obtain ⟨st, hst⟩ : ∃ st : Nat, st = Ut.stop t.data.toList := ⟨_, rfl⟩
  have hsum : (Ut.stop (s ++ t).data.toList : Int) = (s.size : Int) + (st : Int) := by rw [hp.2.2, ← Lib.size_eq, hst]; omega
  have hlt := Ut.stop_lt ht
  rw [← Lib.size_eq, ← hst] at hlt
  rw [hsum] at HZ
  rw [← hst] at HY
  have HD := Lib.hid (fun w hT => decode_is s (by omega) _ 0 0 rfl HX.2.1 HX.2.2.1 w hT)
  have HE := Lib.hid (fun w hT => decode_is t (by omega) _ 40 (st : Int) rfl HY.2.1 HY.2.2.1 w hT)
  have HG := Lib.hid (fun w hT => decode_is (s ++ t) (by rw [ByteArray.size_append]; omega) [] 40 ((s.size : Int) + (st : Int)) HZ.1 HZ.2.1 HZ.2.2.1 w hT)
  have q1 : ∀ wx, (binOp .eql 25 (.agg #[.int .i64 40, .int .i64 ((s.size : Int) + (st : Int))]) (.agg #[.int .i64 40, .int .i64 ((s.size : Int) + (st : Int))])).run Tryd.prog wx = .ok (.bool true) wx := fun wx => by rw [eqFlt]; simp
  have s0 : 0 ≤ (st : Int) := by omega
  have s1 : (st : Int) ≤ 17592186044416 := by omega
  have s2 : (s.size : Int) ≤ 17592186044416 := by omega
  have s3 : ¬ 9223372036854775807 < s.size + t.size := by omega
  clear HX HY HZ hp hst hsum hlt hc ht hs
  go_enter Tryd.func7, Tryd.ntmps7
  go_wp2_with fail
  refine (HD.out _ HT.out).mono ?_
  rintro e w1 ⟨v1, rfl, h1, hb1⟩
  have HB1 := Lib.hid (below_step hb1 (below_alloc w1 (.cells #[.int .i64 0, .int .i64 0] 25)))
  have HF1 := Lib.hid (flt_new w1 0 0)
  clear h1 hb1
  go_wp2_with fail
  refine (HE.out _ (HT.out.mono HB1.out)).mono ?_
  rintro e w2 ⟨v2, rfl, h2, hb2⟩
  have hb2' := below_step hb2 (below_alloc w2 (.cells #[.int .i64 40, .int .i64 (st : Int)] 25))
  have HB2 := Lib.hid (below_step HB1.out hb2')
  have HF2 := Lib.hid (HF1.out.mono hb2')
  have HG2 := Lib.hid (flt_new w2 40 (st : Int))
  clear h2 hb2 hb2'
  go_wp2_with fail
  refine (fixed_any _ (HT.out.mono HB2.out)).mono ?_
  rintro e w3 ⟨rfl, hb3⟩
  have HB3 := Lib.hid (below_step HB2.out hb3)
  have HF3 := Lib.hid (HF2.out.mono hb3)
  have HG3 := Lib.hid (HG2.out.mono hb3)
  clear hb3
  have x0 := HF3.out.c0
  have x1 := HF3.out.c1
  go_wp2_with fail
  refine (HG.out _ (HT.out.mono HB3.out)).mono ?_
  rintro e w4 ⟨v4, rfl, h4, hb4⟩
  have hb4' := below_step hb4 (below_alloc w4 (.cells #[.int .i64 40, .int .i64 ((s.size : Int) + (st : Int))] 25))
  have HB4 := Lib.hid (below_step HB3.out hb4')
  have HG4 := Lib.hid (HG3.out.mono hb4')
  have HH4 := Lib.hid (flt_new w4 40 ((s.size : Int) + (st : Int)))
  obtain ⟨p4, c4, e4, _⟩ := h4.at.1
  have e4 : v4 = .slice p4 0 c4 := e4
  subst e4
  clear h4 hb4 hb4' x0 x1
  have x0 := HG4.out.c0
  have x1 := HG4.out.c1
  have y0 := HH4.out.c0
  have y1 := HH4.out.c1
  go_wp2_with fail
  go_ret
  exact ⟨rfl, HB4.out⟩
end Go.Proofs.YtacghcpkkfhfhaaDoor
