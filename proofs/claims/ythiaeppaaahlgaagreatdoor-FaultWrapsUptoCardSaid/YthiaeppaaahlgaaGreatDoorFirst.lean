/-
  The first one of some faults: what the program's First returns; and whether two lists of texts are the same.
-/
import Derived.Test.YthiaeppaaahlgaaGreatDoorRead2
set_option linter.unusedVariables false
set_option linter.unusedSimpArgs false
namespace Go.Proofs.YthiaeppaaahlgaaGreatDoor
open Go.RowKit Go.Extern.Stop Go.Stop Go.Extern

abbrev Flt := Int × Int
/-- f stands ahead of g: its place is smaller, or its place is the same and its code smaller -/
def aheadB (f g : Flt) : Bool := decide (f.2 < g.2) || ((f.2 == g.2) && decide (f.1 < g.1))
def best (cur : Option Flt) (f : Flt) : Option Flt := if f.1 = 0 then cur else match cur with
  | none => some f
  | some g => if aheadB f g = true then some f else some g
def firstOf (l : List Flt) : Option Flt := l.foldl best none
theorem first_next {l : List Flt} {k : Nat} {f : Flt} (h : l[k]? = some f) : firstOf (l.take (k + 1)) = best (firstOf (l.take k)) f := by
  unfold firstOf
  rw [List.take_add_one, h]
  simp

/-- v is a slice of the faults l -/
def FltsAt (w : World) (v : Value) (l : List Flt) : Prop :=
  (∃ a cap, v = .slice a l.length cap) ∧ l.length ≤ maxLen ∧ (0 < l.length → ∃ b o cap, v = .slice (some ⟨b, o, none⟩) l.length cap ∧
    ∀ i f, l[i]? = some f → w.cell? ⟨b, o + i * 2, none⟩ = some (.int .i64 f.1) ∧ w.cell? ⟨b, o + i * 2 + 1, none⟩ = some (.int .i64 f.2))

set_option maxHeartbeats 2000000 in
set_option maxRecDepth 100000 in
theorem ahead_any (c a c' a' : Int) (w : World) :
    Calls Tryz.prog 19 #[.agg #[.int .i64 c, .int .i64 a], .agg #[.int .i64 c', .int .i64 a']] w fun e w' => e = .returned (.bool (aheadB (c, a) (c', a'))) ∧ Below w.heap.size w w' := by
  have hb : Below w.heap.size w ((w.alloc (.cells #[.int .i64 c, .int .i64 a] 24)).alloc (.cells #[.int .i64 c', .int .i64 a'] 24)) := ((Below.refl _ _).alloc (Nat.le_refl _) _).alloc (by simp) _
  by_cases h : a = a'
  · subst h
    have HB := Lib.hid hb
    clear hb
    go_enter Tryz.func19, Tryz.ntmps19
    go_wp2
    go_ret
    refine ⟨ret_bool ?_, HB.out⟩
    show _ = aheadB _ _
    simp [aheadB]
  · have h1 : (a == a') = false := beq_eq_false_iff_ne.2 h
    have h2 : (a != a') = true := bne_iff_ne.2 h
    have H := Lib.hid h
    have HB := Lib.hid hb
    clear h hb
    go_enter Tryz.func19, Tryz.ntmps19
    go_wp2
    go_ret
    refine ⟨ret_bool ?_, HB.out⟩
    show _ = aheadB _ _
    simp [aheadB, H.out]


theorem texts_next {n1 n2 : List ByteArray} {k : Nat} {s t : ByteArray} (h1 : n1[k]? = some s) (h2 : n2[k]? = some t) (he : s.data.toList = t.data.toList) (h : lns (n1.take k) = lns (n2.take k)) : lns (n1.take (k + 1)) = lns (n2.take (k + 1)) := by
  rw [List.take_add_one, List.take_add_one, h1, h2]
  unfold lns at h ⊢
  simp only [List.map_append, Option.toList_some, List.map_cons, List.map_nil]
  rw [h, he]
theorem texts_bad {n1 n2 : List ByteArray} {k : Nat} {s t : ByteArray} (h1 : n1[k]? = some s) (h2 : n2[k]? = some t) (he : s.data.toList ≠ t.data.toList) : decide (lns n1 = lns n2) = false := by
  refine decide_eq_false fun h => he ?_
  have e1 : (lns n1)[k]? = some s.data.toList := by unfold lns; rw [List.getElem?_map, h1]; rfl
  have e2 : (lns n2)[k]? = some t.data.toList := by unfold lns; rw [List.getElem?_map, h2]; rfl
  rw [h, e2] at e1
  exact (Option.some.inj e1).symm
theorem texts_lens {n1 n2 : List ByteArray} (h : n1.length ≠ n2.length) : decide (lns n1 = lns n2) = false :=
  decide_eq_false fun e => h (by have := congrArg List.length e; simpa [lns] using this)
def BoolDrew (b : Bool) (w : World) (e : Ending) (w' : World) : Prop := e = .returned (.bool b) ∧ ∃ n, w' = w.drewN n

set_option maxHeartbeats 2000000 in
set_option maxRecDepth 100000 in
theorem texts_len (p1 p2 : Option Addr) (m1 m2 c1 c2 : Nat) (h : m1 ≠ m2) (w : World) :
    Calls Tryz.prog 7 #[.slice p1 m1 c1, .slice p2 m2 c2] w (BoolDrew false w) := by
  have h1 : ((m1 : Int) == (m2 : Int)) = false := beq_eq_false_iff_ne.2 (by omega)
  have h2 : ((m1 : Int) != (m2 : Int)) = true := bne_iff_ne.2 (by omega)
  clear h
  go_enter Tryz.func7, Tryz.ntmps7
  go_wp2
  go_ret
  exact ⟨rfl, 0, rfl⟩

set_option maxHeartbeats 2000000 in
set_option maxRecDepth 100000 in
theorem texts_nil (p1 p2 : Option Addr) (c1 c2 : Nat) (w : World) :
    Calls Tryz.prog 7 #[.slice p1 0 c1, .slice p2 0 c2] w (BoolDrew true w) := by
  go_enter Tryz.func7, Tryz.ntmps7
  go_wp2
  refine wp_loop_rounds 1 ?_
  rw [rounds_succ]
  go_wp2
  go_ret
  exact ⟨rfl, 0, rfl⟩

set_option maxHeartbeats 4000000 in
set_option maxRecDepth 100000 in
theorem texts_some (b1 o1 c1 b2 o2 c2 : Nat) (n1 n2 : List ByteArray) (hn : n1.length ≤ 9223372036854775807) (hl : n2.length = n1.length) (w : World)
    (hc1 : ∀ i s, n1[i]? = some s → w.cell? ⟨b1, o1 + i, none⟩ = some (.string s)) (hc2 : ∀ i s, n2[i]? = some s → w.cell? ⟨b2, o2 + i, none⟩ = some (.string s)) :
    Calls Tryz.prog 7 #[.slice (some ⟨b1, o1, none⟩) n1.length c1, .slice (some ⟨b2, o2, none⟩) n1.length c2] w (BoolDrew (decide (lns n1 = lns n2)) w) := by
  have HC1 := Lib.hid hc1
  have HC2 := Lib.hid hc2
  have HL := Lib.hid hl
  clear hc1 hc2 hl
  go_enter Tryz.func7, Tryz.ntmps7
  go_wp2
  go_loopw [5] (fun i wr => ∃ k m : Nat, k ≤ n1.length ∧ i = .int .i64 k ∧ Hid (lns (n1.take k) = lns (n2.take k)) ∧ wr = w.drewN m) (fun i _ => n1.length - (intOf i).toNat)
  case atStart => exact ⟨0, 0, Nat.zero_le _, rfl, by show _ = _; simp, rfl⟩
  case round =>
    obtain ⟨k, m, hk, rfl, H, rfl⟩ := hrel
    by_cases hlt : k < n1.length
    · obtain ⟨s, hs⟩ : ∃ s, n1[k]? = some s := ⟨_, List.getElem?_eq_getElem hlt⟩
      obtain ⟨t, ht⟩ : ∃ t, n2[k]? = some t := ⟨_, List.getElem?_eq_getElem (by rw [HL.out]; exact hlt)⟩
      have d1 : w.cell? ⟨b1, o1 + k, none⟩ = some (.string s) := HC1.out k s hs
      have d2 : w.cell? ⟨b2, o2 + k, none⟩ = some (.string t) := HC2.out k t ht
      have k0 : (0 : Int) ≤ (k : Int) := by omega
      have k1 : (k : Int) < (n1.length : Int) := by omega
      by_cases he : s.data.toList = t.data.toList
      · have HN := Lib.hid (texts_next hs ht he H.out)
        have e1 : (s.toList == t.toList) = true := by rw [Lib.toList_data, Lib.toList_data, he]; simp
        have e2 : (s.toList != t.toList) = false := by rw [Lib.toList_data, Lib.toList_data, he]; simp
        clear he hs ht
        go_wp2_with fail
        go_quiet (fail)
        go_wp2
        go_roundw
        case rel => exact ⟨k + 1, m + nq, by omega, by go_num, HN, rfl⟩
        case measure => simp [intOf]; omega
      · have HN := Lib.hid (texts_bad hs ht he)
        have e1 : (s.toList == t.toList) = false := by rw [Lib.toList_data, Lib.toList_data]; exact beq_eq_false_iff_ne.2 he
        have e2 : (s.toList != t.toList) = true := by rw [Lib.toList_data, Lib.toList_data]; exact bne_iff_ne.2 he
        clear he hs ht
        go_wp2_with fail
        go_quiet (fail)
        go_wp2
        go_ret
        exact ⟨by rw [HN.out]; rfl, m + nq, by rw [← World.drewN_drewN]⟩
    · have HE : Hid (decide (lns n1 = lns n2) = true) := by
        have h := H.out
        rw [List.take_of_length_le (by omega), List.take_of_length_le (by rw [HL.out]; omega)] at h
        exact decide_eq_true h
      go_wp2
      go_ret
      exact ⟨by rw [HE.out]; rfl, m, rfl⟩

/-- Texts: are two lists of texts the same? -/
theorem texts_any (v1 v2 : Value) (n1 n2 : List ByteArray) (w : World) (h1 : StrsAt w v1 n1) (h2 : StrsAt w v2 n2) :
    Calls Tryz.prog 7 #[v1, v2] w (BoolDrew (decide (lns n1 = lns n2)) w) := by
  obtain ⟨⟨p1, c1, rfl⟩, hm1, k1⟩ := h1
  obtain ⟨⟨p2, c2, rfl⟩, hm2, k2⟩ := h2
  by_cases hl : n1.length = n2.length
  · rcases Nat.eq_zero_or_pos n1.length with h0 | h0
    · obtain rfl : n1 = [] := List.eq_nil_of_length_eq_zero h0
      obtain rfl : n2 = [] := List.eq_nil_of_length_eq_zero (by rw [← hl]; exact h0)
      have := texts_nil p1 p2 c1 c2 w
      rw [decide_eq_true rfl]
      exact this
    · obtain ⟨b1, o1, c1', e1, hc1⟩ := k1 h0
      obtain ⟨b2, o2, c2', e2, hc2⟩ := k2 (by omega)
      obtain ⟨rfl, rfl⟩ : p1 = some ⟨b1, o1, none⟩ ∧ c1 = c1' := by injection e1 with a1 a2 a3; exact ⟨a1, a3⟩
      obtain ⟨rfl, rfl⟩ : p2 = some ⟨b2, o2, none⟩ ∧ c2 = c2' := by injection e2 with a1 a2 a3; exact ⟨a1, a3⟩
      have := texts_some b1 o1 c1 b2 o2 c2 n1 n2 (by unfold maxLen at hm1; omega) hl.symm w hc1 hc2
      rw [← hl]
      exact this
  · rw [texts_lens hl]
    exact texts_len p1 p2 _ _ c1 c2 hl w

/-! ### First -/
def fltOf : Option Flt → Flt
  | some f => f
  | none => (0, 0)
/-- the two blocks that First lays first: its result (block w.heap.size) and its best one so far (the next block) -/
structure Inv (w wr : World) (g : Option Flt) : Prop where
  top : w.heap.size + 2 ≤ wr.heap.size
  bel : Below w.heap.size w wr
  r0 : wr.cell? ⟨w.heap.size, 0, none⟩ = some (.int .i64 0)
  r1 : wr.cell? ⟨w.heap.size, 1, none⟩ = some (.int .i64 0)
  r2 : wr.frozen? ⟨w.heap.size, 0, none⟩ = false
  r3 : wr.frozen? ⟨w.heap.size, 1, none⟩ = false
  s0 : wr.cell? ⟨w.heap.size + 1, 0, none⟩ = some (.int .i64 (fltOf g).1)
  s1 : wr.cell? ⟨w.heap.size + 1, 1, none⟩ = some (.int .i64 (fltOf g).2)
  s2 : wr.frozen? ⟨w.heap.size + 1, 0, none⟩ = false
  s3 : wr.frozen? ⟨w.heap.size + 1, 1, none⟩ = false
theorem Inv.mono {w wr w' : World} {g : Option Flt} (h : Inv w wr g) (hb : Below wr.heap.size wr w') : Inv w w' g where
  top := Nat.le_trans h.top hb.size
  bel := h.bel.trans (hb.mono h.bel.size)
  r0 := cell_below hb h.r0
  r1 := cell_below hb h.r1
  r2 := by rw [hb.frozen (by have := h.top; show w.heap.size < _; omega)]; exact h.r2
  r3 := by rw [hb.frozen (by have := h.top; show w.heap.size < _; omega)]; exact h.r3
  s0 := cell_below hb h.s0
  s1 := cell_below hb h.s1
  s2 := by rw [hb.frozen (by have := h.top; show w.heap.size + 1 < _; omega)]; exact h.s2
  s3 := by rw [hb.frozen (by have := h.top; show w.heap.size + 1 < _; omega)]; exact h.s3
theorem Inv.start (w : World) : Inv w ((w.alloc (.cells #[.int .i64 0, .int .i64 0] 24)).alloc (.cells #[.int .i64 0, .int .i64 0] 24)) none where
  top := by simp
  bel := ((Below.refl _ _).alloc (Nat.le_refl _) _).alloc (by simp) _
  r0 := by simp
  r1 := by simp
  r2 := by rw [World.frozen?_alloc_old _ _ _ (by simp)]; simp
  r3 := by rw [World.frozen?_alloc_old _ _ _ (by simp)]; simp
  s0 := by simp [fltOf]
  s1 := by simp [fltOf]
  s2 := by simp
  s3 := by simp
theorem Inv.set {w wr : World} {g : Option Flt} (h : Inv w wr g) (f : Flt) :
    Inv w ((wr.setCell ⟨w.heap.size + 1, 0, none⟩ (.int .i64 f.1)).setCell ⟨w.heap.size + 1, 1, none⟩ (.int .i64 f.2)) (some f) := by
  obtain ⟨top, bel, r0, r1, r2, r3, s0, s1, s2, s3⟩ := h
  refine ⟨by simpa using top, (bel.setCell (p := ⟨w.heap.size + 1, 0, none⟩) (by show _ ≤ w.heap.size + 1; omega) _).setCell (p := ⟨w.heap.size + 1, 1, none⟩) (by show _ ≤ w.heap.size + 1; omega) _, ?_, ?_, ?_, ?_, ?_, ?_, ?_, ?_⟩
  · simp [go_sem, r0]
  · simp [go_sem, r1]
  · simp [go_sem, r2]
  · simp [go_sem, r3]
  · simp [go_sem, s0, s1, fltOf]
  · simp [go_sem, s0, s1, fltOf]
  · simp [s2]
  · simp [s3]

def firstVal : Option Flt → Value
  | some f => .tuple #[.agg #[.int .i64 f.1, .int .i64 f.2], .bool true]
  | none => .tuple #[.agg #[.int .i64 0, .int .i64 0], .bool false]
def FirstPost (o : Option Flt) (w : World) (e : Ending) (w' : World) : Prop := e = .returned (.tuple #[.agg #[.int .i64 (fltOf o).1, .int .i64 (fltOf o).2], .bool o.isSome]) ∧ Below w.heap.size w w'
theorem best_zero {cur : Option Flt} {f : Flt} (h : f.1 = 0) : best cur f = cur := by unfold best; rw [if_pos h]
theorem best_none {f : Flt} (h : ¬ f.1 = 0) : best none f = some f := by unfold best; rw [if_neg h]
theorem best_yes {f g : Flt} (h : ¬ f.1 = 0) (ha : aheadB f g = true) : best (some g) f = some f := by unfold best; rw [if_neg h]; simp only [ha, if_true]
theorem best_no {f g : Flt} (h : ¬ f.1 = 0) (ha : aheadB f g = false) : best (some g) f = some g := by unfold best; rw [if_neg h]; simp [ha]

set_option maxHeartbeats 8000000 in
set_option maxRecDepth 100000 in
theorem first_some (l : List Flt) (hn : l.length ≤ 9223372036854775807) (b o cap : Nat) (w : World)
    (hc : ∀ i f, l[i]? = some f → w.cell? ⟨b, o + i * 2, none⟩ = some (.int .i64 f.1) ∧ w.cell? ⟨b, o + i * 2 + 1, none⟩ = some (.int .i64 f.2)) :
    Calls Tryz.prog 11 #[.slice (some ⟨b, o, none⟩) l.length cap] w (FirstPost (firstOf l) w) := by
  have HC := Lib.hid hc
  clear hc
  go_enter Tryz.func11, Tryz.ntmps11
  go_wp2
  go_loopw [5, 10] (fun v i wr => ∃ (k : Nat), k ≤ l.length ∧ i = .int .i64 k ∧ v = .bool (firstOf (l.take k)).isSome ∧ Inv w wr (firstOf (l.take k))) (fun _ i _ => l.length - (intOf i).toNat)
  case atStart => exact ⟨0, Nat.zero_le _, rfl, rfl, Inv.start w⟩
  case round =>
    obtain ⟨k, hk, rfl, rfl, hI⟩ := hrel
    obtain ⟨cur, hcur⟩ : ∃ cur, firstOf (l.take k) = cur := ⟨_, rfl⟩
    rw [hcur] at hI
    rw [hcur]
    have HCUR := Lib.hid hcur
    have HI := Lib.hid hI
    obtain ⟨top, bel, r0, r1, r2, r3, s0, s1, s2, s3⟩ := hI
    have HBel := Lib.hid bel
    clear bel hcur
    by_cases hlt : k < l.length
    · obtain ⟨⟨c, a⟩, hf⟩ : ∃ f, l[k]? = some f := ⟨_, List.getElem?_eq_getElem hlt⟩
      have HN := Lib.hid (first_next hf)
      obtain ⟨d0, d1⟩ := HC.out k _ hf
      have e0 : wr.cell? ⟨b, o + k * 2, none⟩ = some (.int .i64 c) := cell_below HBel.out d0
      have e1 : wr.cell? ⟨b, o + k * 2 + 1, none⟩ = some (.int .i64 a) := cell_below HBel.out d1
      have HA : Hid (Below wr.heap.size wr (wr.alloc (.cells #[.int .i64 c, .int .i64 a] 24))) := (Below.refl _ _).alloc (Nat.le_refl _) _
      clear d0 d1 hf
      by_cases hz : c = 0
      · have HZ := Lib.hid (best_zero (cur := cur) (f := (c, a)) hz)
        have hz1 : (c == 0) = true := by simp [hz]
        clear hz
        go_wp2
        go_roundw
        case rel => exact ⟨k + 1, by omega, by go_num, by rw [HN.out, HCUR.out, HZ.out], by rw [HN.out, HCUR.out, HZ.out]; exact HI.out.mono HA.out⟩
        case measure => simp [intOf]; omega
      · have hz1 : (c == 0) = false := beq_eq_false_iff_ne.2 hz
        cases cur with
        | none =>
          have HZ := Lib.hid (best_none (f := (c, a)) hz)
          have HJ := Lib.hid ((HI.out.mono HA.out).set (c, a))
          obtain ⟨_, _, _, _, _, _, t0, t1, t2, t3⟩ := HI.out.mono HA.out
          clear hz
          go_wp2
          go_roundw
          case rel => exact ⟨k + 1, by omega, by go_num, by rw [HN.out, HCUR.out, HZ.out]; rfl, by rw [HN.out, HCUR.out, HZ.out]; exact HJ.out⟩
          case measure => simp [intOf]; omega
        | some g =>
          obtain ⟨gc, ga⟩ := g
          have s0' : wr.cell? ⟨w.heap.size + 1, 0, none⟩ = some (.int .i64 gc) := s0
          have s1' : wr.cell? ⟨w.heap.size + 1, 1, none⟩ = some (.int .i64 ga) := s1
          obtain ⟨_, _, _, _, _, _, t0, t1, t2, t3⟩ := HI.out.mono HA.out
          have t0' : (wr.alloc (.cells #[.int .i64 c, .int .i64 a] 24)).cell? ⟨w.heap.size + 1, 0, none⟩ = some (.int .i64 gc) := t0
          have t1' : (wr.alloc (.cells #[.int .i64 c, .int .i64 a] 24)).cell? ⟨w.heap.size + 1, 1, none⟩ = some (.int .i64 ga) := t1
          clear s0 s1 t0 t1
          cases hah : aheadB (c, a) (gc, ga) with
          | true =>
            have HZ := Lib.hid (best_yes (f := (c, a)) (g := (gc, ga)) hz hah)
            have HAH := Lib.hid hah
            clear hz hah
            go_wp2_with fail
            refine (ahead_any c a gc ga _).mono ?_
            rw [HAH.out]
            rintro e w1 ⟨rfl, hb1⟩
            have HI1 := Lib.hid ((HI.out.mono HA.out).mono hb1)
            have HJ := Lib.hid (HI1.out.set (c, a))
            have v0 : w1.cell? ⟨wr.heap.size, 0, none⟩ = some (.int .i64 c) := cell_below hb1 (by simp)
            have v1 : w1.cell? ⟨wr.heap.size, 1, none⟩ = some (.int .i64 a) := cell_below hb1 (by simp)
            have x0 : w1.cell? ⟨w.heap.size + 1, 0, none⟩ = some (.int .i64 gc) := HI1.out.s0
            have x1 : w1.cell? ⟨w.heap.size + 1, 1, none⟩ = some (.int .i64 ga) := HI1.out.s1
            have x2 := HI1.out.s2
            have x3 := HI1.out.s3
            clear hb1
            go_wp2
            go_roundw
            case rel => exact ⟨k + 1, by omega, by go_num, by rw [HN.out, HCUR.out, HZ.out]; rfl, by rw [HN.out, HCUR.out, HZ.out]; exact HJ.out⟩
            case measure => simp [intOf]; omega
          | false =>
            have HZ := Lib.hid (best_no (f := (c, a)) (g := (gc, ga)) hz hah)
            have HAH := Lib.hid hah
            clear hz hah
            go_wp2_with fail
            refine (ahead_any c a gc ga _).mono ?_
            rw [HAH.out]
            rintro e w1 ⟨rfl, hb1⟩
            have HI1 := Lib.hid ((HI.out.mono HA.out).mono hb1)
            clear hb1
            go_wp2
            go_roundw
            case rel => exact ⟨k + 1, by omega, by go_num, by rw [HN.out, HCUR.out, HZ.out]; rfl, by rw [HN.out, HCUR.out, HZ.out]; exact HI1.out⟩
            case measure => simp [intOf]; omega
    · go_wp2
      exact bodyPost_ret (v := .tuple #[.agg #[.int .i64 (fltOf cur).1, .int .i64 (fltOf cur).2], .bool cur.isSome]) (by simp [results, Tryz.results11, go_sem, r0, r1, r2, r3]) rfl ⟨by
        have e : l.take k = l := List.take_of_length_le (by omega)
        rw [← HCUR.out, e], (HBel.out.setCell (p := ⟨w.heap.size, 0, none⟩) (Nat.le_refl _) _).setCell (p := ⟨w.heap.size, 1, none⟩) (Nat.le_refl _) _⟩

set_option maxHeartbeats 4000000 in
set_option maxRecDepth 100000 in
theorem first_nil (p : Option Addr) (cap : Nat) (w : World) :
    Calls Tryz.prog 11 #[.slice p 0 cap] w (FirstPost none w) := by
  go_enter Tryz.func11, Tryz.ntmps11
  go_wp2
  refine wp_loop_rounds 1 ?_
  rw [rounds_succ]
  go_wp2
  exact bodyPost_ret (v := .tuple #[.agg #[.int .i64 0, .int .i64 0], .bool false]) (by simp [results, Tryz.results11, go_sem]) rfl ⟨rfl, (Inv.start w).bel⟩
theorem first_any (l : List Flt) (v : Value) (w : World) (h : FltsAt w v l) :
    Calls Tryz.prog 11 #[v] w (FirstPost (firstOf l) w) := by
  obtain ⟨⟨p, cap, rfl⟩, hn, h2⟩ := h
  rcases Nat.eq_zero_or_pos l.length with h0 | h0
  · obtain rfl : l = [] := List.eq_nil_of_length_eq_zero h0
    exact first_nil p cap w
  · obtain ⟨b, o, cap', e, hcl⟩ := h2 h0
    obtain ⟨rfl, rfl⟩ : p = some ⟨b, o, none⟩ ∧ cap = cap' := by injection e with e1 e2 e3; exact ⟨e1, e3⟩
    exact first_some l (by unfold maxLen at hn; omega) b o _ w hcl
end Go.Proofs.YthiaeppaaahlgaaGreatDoor
