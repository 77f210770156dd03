/-
  Slices of numbers, and the reference's Runes and Ints: whether two are the same.
-/
import Derived.Test.YtacghcpkkfhfhaaDoorBase
set_option linter.unusedVariables false
set_option linter.unusedSimpArgs false
namespace Go.Proofs.YtacghcpkkfhfhaaDoor
open Go.RowKit

/-- v is a slice of the numbers xs of kind k -/
def IntsAt (k : IntKind) (w : World) (v : Value) (xs : List Int) : Prop :=
  (∃ a cap, v = .slice a xs.length cap ∧ xs.length ≤ cap) ∧ xs.length ≤ maxLen ∧ (0 < xs.length → ∃ b o cap, v = .slice (some ⟨b, o, none⟩) xs.length cap ∧ ∀ i x, xs[i]? = some x → w.cell? ⟨b, o + i, none⟩ = some (.int k x))
theorem IntsAt.mono {k : IntKind} {w w' : World} {v : Value} {xs : List Int} (hb : Below w.heap.size w w') (h : IntsAt k w v xs) : IntsAt k w' v xs := by
  obtain ⟨h1, h2, h3⟩ := h
  refine ⟨h1, h2, fun hp => ?_⟩
  obtain ⟨b, o, cap, e, hc⟩ := h3 hp
  exact ⟨b, o, cap, e, fun i s hs => cell_below hb (hc i s hs)⟩
theorem ints_none (k : IntKind) (w : World) : IntsAt k w (.slice none 0 0) [] := ⟨⟨none, 0, rfl, Nat.le_refl _⟩, by unfold maxLen; simp, fun h => by simp at h⟩
/-- v is a slice of the call's own, of the numbers xs -/
def OwnI (k : IntKind) (E : TypeId) (B : Nat) (v : Value) (xs : List Int) (w : World) : Prop := w.ownsRow B E 1 v xs.length (xs.map (Value.int k))
theorem OwnI.kept {k : IntKind} {E : TypeId} {B : Nat} {v : Value} {xs : List Int} {w w' : World} (h : OwnI k E B v xs w) (hb : Below w.heap.size w w') : OwnI k E B v xs w' :=
  World.ownsRow.kept h (row := none) ⟨hb.os, hb.tape, hb.output, hb.size, fun i hi _ => hb.block i hi⟩ (by cases v.ownBlock <;> simp)
theorem OwnI.mono {k : IntKind} {E : TypeId} {B : Nat} {v : Value} {xs : List Int} {w w' : World} (h : OwnI k E B v xs w) (hb : Below w.heap.size w w') : OwnI k E B v xs w' := h.kept hb
theorem OwnI.base {k : IntKind} {E : TypeId} {B B' : Nat} {v : Value} {xs : List Int} {w : World} (h : OwnI k E B v xs w) (hB : B' ≤ B) : OwnI k E B' v xs w := by
  refine ⟨h.1, ?_⟩
  rcases h.2 with h2 | ⟨g, cap, cur, e, hg, rest⟩
  · exact .inl h2
  · exact .inr ⟨g, cap, cur, e, Nat.le_trans hB hg, rest⟩
theorem OwnI.set {k : IntKind} {E : TypeId} {B p i : Nat} {v y : Value} {xs : List Int} {w : World} (h : OwnI k E B v xs w) (hp : p < B) : OwnI k E B v xs (w.setCell ⟨p, i, none⟩ y) := by
  refine World.ownsRow.kept h (row := some p) ?_ ?_
  · have hb : Below 0 w (w.setCell ⟨p, i, none⟩ y) := (Below.refl 0 w).setCell (p := ⟨p, i, none⟩) (Nat.zero_le _) y
    refine ⟨hb.os, hb.tape, hb.output, hb.size, fun j hj hne => ?_⟩
    exact Below.heap_setCell w ⟨p, i, none⟩ y j (fun e => hne (by rw [e]))
  · exact .inr fun e => by
      have := (World.ownsRow.lt h p e).1
      omega
theorem add_none (b o i : Nat) : (⟨b, o, none⟩ : Addr).add i = ⟨b, o + i, none⟩ := by unfold Addr.add; split <;> simp_all
theorem OwnI.at {k : IntKind} {E : TypeId} {B : Nat} {v : Value} {xs : List Int} {w : World} (h : OwnI k E B v xs w) : IntsAt k w v xs := by
  have h0 := h
  rcases h.2 with ⟨rfl, hn⟩ | ⟨g, cap, cur, rfl, _, hg, hcap, hmax, hsz, htake⟩
  · refine ⟨⟨none, 0, by rw [hn], by omega⟩, by omega, fun hp => by omega⟩
  · refine ⟨⟨_, _, rfl, hcap⟩, by omega, fun hp => ⟨g, 0, cap, rfl, fun i s hs => ?_⟩⟩
    have hc := World.ownsRow.cells h0 (g := g) rfl i (.int k s) (by rw [List.getElem?_map, hs]; rfl)
    rw [add_none] at hc
    exact hc
theorem ownI_nil (k : IntKind) (E : TypeId) (w : World) (B : Nat) : OwnI k E B (.slice none 0 0) [] w := World.ownsRow_nil _ _ _ _
theorem ownI_snoc {k : IntKind} {E : TypeId} {B : Nat} {v : Value} {xs : List Int} {x : Int} {w : World} (h : w.ownsRow B E 1 v (xs.length + 1) (xs.map (Value.int k) ++ [Value.int k x])) : Hid (OwnI k E B v (xs ++ [x]) w) := by
  show World.ownsRow _ _ _ _ _ _ _
  rw [List.length_append, List.map_append]
  exact h
theorem own_ne {w : World} {B bt : Nat} {e : TypeId} {size : Nat} {v : Value} {n : Nat} {xs : List Value} (h : w.ownsRow B e size v n xs) (hb : bt < B) : some bt ≠ v.ownBlock := by
  intro hk
  have := (World.ownsRow.lt h bt hk.symm).1
  omega

theorem same_next {xs ys : List Int} {k : Nat} {x y : Int} (hx : xs[k]? = some x) (hy : ys[k]? = some y) (e : x = y) (h : xs.take k = ys.take k) : xs.take (k + 1) = ys.take (k + 1) := by
  rw [List.take_add_one, List.take_add_one, hx, hy, h, e]
theorem same_bad {xs ys : List Int} {k : Nat} {x y : Int} (hx : xs[k]? = some x) (hy : ys[k]? = some y) (e : x ≠ y) : decide (xs = ys) = false := by
  refine decide_eq_false fun h => e ?_
  rw [h, hy] at hx
  exact (Option.some.inj hx).symm
theorem same_end {xs ys : List Int} {k : Nat} (hk : xs.length ≤ k) (hl : ys.length = xs.length) (h : xs.take k = ys.take k) : decide (xs = ys) = true := by
  rw [List.take_of_length_le hk, List.take_of_length_le (by omega)] at h
  exact decide_eq_true h
def BoolDrew (b : Bool) (w : World) (e : Ending) (w' : World) : Prop := e = .returned (.bool b) ∧ ∃ n, w' = w.drewN n
theorem BoolDrew.ret {b : Bool} {w w' : World} {e : Ending} (h : BoolDrew b w e w') : Ret (.bool b) w e w' := by
  obtain ⟨he, n, rfl⟩ := h
  exact ⟨he, below_drew _ _⟩

set_option maxHeartbeats 2000000 in
set_option maxRecDepth 100000 in
theorem runes_len (p1 p2 : Option Addr) (m1 m2 c1 c2 : Nat) (h : m1 ≠ m2) (w : World) :
    Calls Tryd.prog 13 #[.slice p1 m1 c1, .slice p2 m2 c2] w (BoolDrew false w) := by
  have h1 : ((m1 : Int) == (m2 : Int)) = false := beq_eq_false_iff_ne.2 (by omega)
  have h2 : ((m1 : Int) != (m2 : Int)) = true := bne_iff_ne.2 (by omega)
  clear h
  go_enter Tryd.func13, Tryd.ntmps13
  go_wp2
  go_ret
  exact ⟨rfl, 0, rfl⟩

set_option maxHeartbeats 2000000 in
set_option maxRecDepth 100000 in
theorem runes_nil (p1 p2 : Option Addr) (c1 c2 : Nat) (w : World) :
    Calls Tryd.prog 13 #[.slice p1 0 c1, .slice p2 0 c2] w (BoolDrew true w) := by
  go_enter Tryd.func13, Tryd.ntmps13
  go_wp2
  refine wp_loop_rounds 1 ?_
  rw [rounds_succ]
  go_wp2
  go_ret
  exact ⟨rfl, 0, rfl⟩

set_option maxHeartbeats 4000000 in
set_option maxRecDepth 100000 in
theorem runes_some (b1 o1 c1 b2 o2 c2 : Nat) (xs ys : List Int) (hn : xs.length ≤ 9223372036854775807) (hl : ys.length = xs.length) (w : World)
    (hc1 : ∀ i s, xs[i]? = some s → w.cell? ⟨b1, o1 + i, none⟩ = some (.int .i32 s)) (hc2 : ∀ i s, ys[i]? = some s → w.cell? ⟨b2, o2 + i, none⟩ = some (.int .i32 s)) :
    Calls Tryd.prog 13 #[.slice (some ⟨b1, o1, none⟩) xs.length c1, .slice (some ⟨b2, o2, none⟩) xs.length c2] w (BoolDrew (decide (xs = ys)) w) := by
  have HC1 := Lib.hid hc1
  have HC2 := Lib.hid hc2
  have HL := Lib.hid hl
  clear hc1 hc2 hl
  go_enter Tryd.func13, Tryd.ntmps13
  go_wp2
  go_loopw [5] (fun i wr => ∃ k m : Nat, k ≤ xs.length ∧ i = .int .i64 k ∧ Hid (xs.take k = ys.take k) ∧ wr = w.drewN m) (fun i _ => xs.length - (intOf i).toNat)
  case atStart => exact ⟨0, 0, Nat.zero_le _, rfl, by show _ = _; simp, rfl⟩
  case round =>
    obtain ⟨k, m, hk, rfl, H, rfl⟩ := hrel
    by_cases hlt : k < xs.length
    · obtain ⟨s, hs⟩ : ∃ s, xs[k]? = some s := ⟨_, List.getElem?_eq_getElem hlt⟩
      obtain ⟨t, ht⟩ : ∃ t, ys[k]? = some t := ⟨_, List.getElem?_eq_getElem (by rw [HL.out]; exact hlt)⟩
      have d1 : w.cell? ⟨b1, o1 + k, none⟩ = some (.int .i32 s) := HC1.out k s hs
      have d2 : w.cell? ⟨b2, o2 + k, none⟩ = some (.int .i32 t) := HC2.out k t ht
      have k0 : (0 : Int) ≤ (k : Int) := by omega
      have k1 : (k : Int) < (xs.length : Int) := by omega
      by_cases he : s = t
      · have HN := Lib.hid (same_next hs ht he H.out)
        have e1 : (s == t) = true := beq_iff_eq.2 he
        have e2 : (s != t) = false := by rw [he]; simp
        clear he hs ht
        go_wp2_with fail
        go_quiet (fail)
        go_wp2
        go_roundw
        case rel => exact ⟨k + 1, m + nq, by omega, by go_num, HN, rfl⟩
        case measure => simp [intOf]; omega
      · have HN := Lib.hid (same_bad hs ht he)
        have e1 : (s == t) = false := beq_eq_false_iff_ne.2 he
        have e2 : (s != t) = true := bne_iff_ne.2 he
        clear he hs ht
        go_wp2_with fail
        go_quiet (fail)
        go_wp2
        go_ret
        exact ⟨ret_bool HN.out.symm, m + nq, by simp [World.drewN, Nat.add_assoc]⟩
    · have HN := Lib.hid (same_end (show xs.length ≤ k by omega) HL.out H.out)
      go_wp2
      go_ret
      exact ⟨ret_bool HN.out.symm, m, rfl⟩

theorem runes_any (v1 v2 : Value) (xs ys : List Int) (w : World) (h1 : IntsAt .i32 w v1 xs) (h2 : IntsAt .i32 w v2 ys) :
    Calls Tryd.prog 13 #[v1, v2] w (Ret (.bool (decide (xs = ys))) w) := by
  obtain ⟨⟨p1, c1, rfl, _⟩, m1, k1⟩ := h1
  obtain ⟨⟨p2, c2, rfl, _⟩, m2, k2⟩ := h2
  by_cases hl : xs.length = ys.length
  · rcases Nat.eq_zero_or_pos xs.length with h0 | h0
    · obtain rfl : xs = [] := List.eq_nil_of_length_eq_zero h0
      obtain rfl : ys = [] := List.eq_nil_of_length_eq_zero (by omega)
      exact (runes_nil p1 p2 c1 c2 w).mono fun _ _ h => h.ret
    · obtain ⟨b1, o1, d1, e1, q1⟩ := k1 h0
      obtain ⟨b2, o2, d2, e2, q2⟩ := k2 (by omega)
      obtain ⟨rfl, rfl⟩ : p1 = some ⟨b1, o1, none⟩ ∧ c1 = d1 := by injection e1 with a1 a2 a3; exact ⟨a1, a3⟩
      obtain ⟨rfl, rfl⟩ : p2 = some ⟨b2, o2, none⟩ ∧ c2 = d2 := by injection e2 with a1 a2 a3; exact ⟨a1, a3⟩
      rw [← hl]
      exact (runes_some b1 o1 _ b2 o2 _ xs ys (by unfold maxLen at m1; omega) hl.symm w q1 q2).mono fun _ _ h => h.ret
  · have e : decide (xs = ys) = false := decide_eq_false fun h => hl (by rw [h])
    rw [e]
    exact (runes_len p1 p2 _ _ c1 c2 hl w).mono fun _ _ h => h.ret

set_option maxHeartbeats 2000000 in
set_option maxRecDepth 100000 in
theorem ints_len (p1 p2 : Option Addr) (m1 m2 c1 c2 : Nat) (h : m1 ≠ m2) (w : World) :
    Calls Tryd.prog 14 #[.slice p1 m1 c1, .slice p2 m2 c2] w (BoolDrew false w) := by
  have h1 : ((m1 : Int) == (m2 : Int)) = false := beq_eq_false_iff_ne.2 (by omega)
  have h2 : ((m1 : Int) != (m2 : Int)) = true := bne_iff_ne.2 (by omega)
  clear h
  go_enter Tryd.func14, Tryd.ntmps14
  go_wp2
  go_ret
  exact ⟨rfl, 0, rfl⟩

set_option maxHeartbeats 2000000 in
set_option maxRecDepth 100000 in
theorem ints_nil (p1 p2 : Option Addr) (c1 c2 : Nat) (w : World) :
    Calls Tryd.prog 14 #[.slice p1 0 c1, .slice p2 0 c2] w (BoolDrew true w) := by
  go_enter Tryd.func14, Tryd.ntmps14
  go_wp2
  refine wp_loop_rounds 1 ?_
  rw [rounds_succ]
  go_wp2
  go_ret
  exact ⟨rfl, 0, rfl⟩

set_option maxHeartbeats 4000000 in
set_option maxRecDepth 100000 in
theorem ints_some (b1 o1 c1 b2 o2 c2 : Nat) (xs ys : List Int) (hn : xs.length ≤ 9223372036854775807) (hl : ys.length = xs.length) (w : World)
    (hc1 : ∀ i s, xs[i]? = some s → w.cell? ⟨b1, o1 + i, none⟩ = some (.int .i64 s)) (hc2 : ∀ i s, ys[i]? = some s → w.cell? ⟨b2, o2 + i, none⟩ = some (.int .i64 s)) :
    Calls Tryd.prog 14 #[.slice (some ⟨b1, o1, none⟩) xs.length c1, .slice (some ⟨b2, o2, none⟩) xs.length c2] w (BoolDrew (decide (xs = ys)) w) := by
  have HC1 := Lib.hid hc1
  have HC2 := Lib.hid hc2
  have HL := Lib.hid hl
  clear hc1 hc2 hl
  go_enter Tryd.func14, Tryd.ntmps14
  go_wp2
  go_loopw [5] (fun i wr => ∃ k m : Nat, k ≤ xs.length ∧ i = .int .i64 k ∧ Hid (xs.take k = ys.take k) ∧ wr = w.drewN m) (fun i _ => xs.length - (intOf i).toNat)
  case atStart => exact ⟨0, 0, Nat.zero_le _, rfl, by show _ = _; simp, rfl⟩
  case round =>
    obtain ⟨k, m, hk, rfl, H, rfl⟩ := hrel
    by_cases hlt : k < xs.length
    · obtain ⟨s, hs⟩ : ∃ s, xs[k]? = some s := ⟨_, List.getElem?_eq_getElem hlt⟩
      obtain ⟨t, ht⟩ : ∃ t, ys[k]? = some t := ⟨_, List.getElem?_eq_getElem (by rw [HL.out]; exact hlt)⟩
      have d1 : w.cell? ⟨b1, o1 + k, none⟩ = some (.int .i64 s) := HC1.out k s hs
      have d2 : w.cell? ⟨b2, o2 + k, none⟩ = some (.int .i64 t) := HC2.out k t ht
      have k0 : (0 : Int) ≤ (k : Int) := by omega
      have k1 : (k : Int) < (xs.length : Int) := by omega
      by_cases he : s = t
      · have HN := Lib.hid (same_next hs ht he H.out)
        have e1 : (s == t) = true := beq_iff_eq.2 he
        have e2 : (s != t) = false := by rw [he]; simp
        clear he hs ht
        go_wp2_with fail
        go_quiet (fail)
        go_wp2
        go_roundw
        case rel => exact ⟨k + 1, m + nq, by omega, by go_num, HN, rfl⟩
        case measure => simp [intOf]; omega
      · have HN := Lib.hid (same_bad hs ht he)
        have e1 : (s == t) = false := beq_eq_false_iff_ne.2 he
        have e2 : (s != t) = true := bne_iff_ne.2 he
        clear he hs ht
        go_wp2_with fail
        go_quiet (fail)
        go_wp2
        go_ret
        exact ⟨ret_bool HN.out.symm, m + nq, by simp [World.drewN, Nat.add_assoc]⟩
    · have HN := Lib.hid (same_end (show xs.length ≤ k by omega) HL.out H.out)
      go_wp2
      go_ret
      exact ⟨ret_bool HN.out.symm, m, rfl⟩

theorem ints_any (v1 v2 : Value) (xs ys : List Int) (w : World) (h1 : IntsAt .i64 w v1 xs) (h2 : IntsAt .i64 w v2 ys) :
    Calls Tryd.prog 14 #[v1, v2] w (Ret (.bool (decide (xs = ys))) w) := by
  obtain ⟨⟨p1, c1, rfl, _⟩, m1, k1⟩ := h1
  obtain ⟨⟨p2, c2, rfl, _⟩, m2, k2⟩ := h2
  by_cases hl : xs.length = ys.length
  · rcases Nat.eq_zero_or_pos xs.length with h0 | h0
    · obtain rfl : xs = [] := List.eq_nil_of_length_eq_zero h0
      obtain rfl : ys = [] := List.eq_nil_of_length_eq_zero (by omega)
      exact (ints_nil p1 p2 c1 c2 w).mono fun _ _ h => h.ret
    · obtain ⟨b1, o1, d1, e1, q1⟩ := k1 h0
      obtain ⟨b2, o2, d2, e2, q2⟩ := k2 (by omega)
      obtain ⟨rfl, rfl⟩ : p1 = some ⟨b1, o1, none⟩ ∧ c1 = d1 := by injection e1 with a1 a2 a3; exact ⟨a1, a3⟩
      obtain ⟨rfl, rfl⟩ : p2 = some ⟨b2, o2, none⟩ ∧ c2 = d2 := by injection e2 with a1 a2 a3; exact ⟨a1, a3⟩
      rw [← hl]
      exact (ints_some b1 o1 _ b2 o2 _ xs ys (by unfold maxLen at m1; omega) hl.symm w q1 q2).mono fun _ _ h => h.ret
  · have e : decide (xs = ys) = false := decide_eq_false fun h => hl (by rw [h])
    rw [e]
    exact (ints_len p1 p2 _ _ c1 c2 hl w).mono fun _ _ h => h.ret
end Go.Proofs.YtacghcpkkfhfhaaDoor
