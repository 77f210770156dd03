/-
  The reference's First: the same one.
-/
import Derived.Test.YthiaeppaaahlgaaDoorFirst
import Derived.Test.YthiaeppaaahlgaaDoorRefCut
set_option linter.unusedVariables false
set_option linter.unusedSimpArgs false
namespace Go.Proofs.YthiaeppaaahlgaaDoor
open Go.RowKit Go.Extern.Stop Go.Stop Go.Extern

set_option maxHeartbeats 8000000 in
set_option maxRecDepth 100000 in
theorem refFirst_some (l : List Flt) (hn : l.length ≤ 9223372036854775807) (b o cap : Nat) (w : World)
    (hc : ∀ i f, l[i]? = some f → w.cell? ⟨b, o + i * 2, none⟩ = some (.int .i64 f.1) ∧ w.cell? ⟨b, o + i * 2 + 1, none⟩ = some (.int .i64 f.2)) :
    Calls Tryd.prog 14 #[.slice (some ⟨b, o, none⟩) l.length cap] w (FirstPost (firstOf l) w) := by
  have HC := Lib.hid hc
  clear hc
  go_enter Tryd.func14, Tryd.ntmps14
  go_wp2
  go_loopw [5, 6] (fun v i wr => ∃ (k : Nat), k ≤ l.length ∧ i = .int .i64 k ∧ v = .bool (firstOf (l.take k)).isSome ∧ Inv w wr (firstOf (l.take k))) (fun _ i _ => l.length - (intOf i).toNat)
  case atStart => exact ⟨0, Nat.zero_le _, rfl, rfl, Inv.start w⟩
  case round =>
    obtain ⟨k, hk, rfl, rfl, hI⟩ := hrel
    obtain ⟨cur, hcur⟩ : ∃ cur, firstOf (l.take k) = cur := ⟨_, rfl⟩
    rw [hcur] at hI
    rw [hcur]
    have HCUR := Lib.hid hcur
    have HI := Lib.hid hI
    obtain ⟨top, bel, r0, r1, r2, r3, s0, s1, s2, s3⟩ := hI
    have HBel := Lib.hid bel
    clear bel hcur
    by_cases hlt : k < l.length
    · obtain ⟨⟨c, a⟩, hf⟩ : ∃ f, l[k]? = some f := ⟨_, List.getElem?_eq_getElem hlt⟩
      have HN := Lib.hid (first_next hf)
      obtain ⟨d0, d1⟩ := HC.out k _ hf
      have e0 : wr.cell? ⟨b, o + k * 2, none⟩ = some (.int .i64 c) := cell_below HBel.out d0
      have e1 : wr.cell? ⟨b, o + k * 2 + 1, none⟩ = some (.int .i64 a) := cell_below HBel.out d1
      have HA : Hid (Below wr.heap.size wr (wr.alloc (.cells #[.int .i64 c, .int .i64 a] 24))) := (Below.refl _ _).alloc (Nat.le_refl _) _
      clear d0 d1 hf
      by_cases hz : c = 0
      · have HZ := Lib.hid (best_zero (cur := cur) (f := (c, a)) hz)
        have hz1 : (c == 0) = true := by simp [hz]
        have hz2 : (c != 0) = false := by simp [hz]
        clear hz
        go_wp2
        go_roundw
        case rel => exact ⟨k + 1, by omega, by go_num, by rw [HN.out, HCUR.out, HZ.out], by rw [HN.out, HCUR.out, HZ.out]; exact HI.out.mono HA.out⟩
        case measure => simp [intOf]; omega
      · have hz1 : (c == 0) = false := beq_eq_false_iff_ne.2 hz
        have hz2 : (c != 0) = true := bne_iff_ne.2 hz
        have HJ := Lib.hid ((HI.out.mono HA.out).set (c, a))
        obtain ⟨_, _, _, _, _, _, t0, t1, t2, t3⟩ := HI.out.mono HA.out
        cases cur with
        | none =>
          have HZ := Lib.hid (best_none (f := (c, a)) hz)
          clear hz
          go_wp2
          go_roundw
          case rel => exact ⟨k + 1, by omega, by go_num, by rw [HN.out, HCUR.out, HZ.out]; rfl, by rw [HN.out, HCUR.out, HZ.out]; exact HJ.out⟩
          case measure => simp [intOf]; omega
        | some g =>
          obtain ⟨gc, ga⟩ := g
          have t0' : (wr.alloc (.cells #[.int .i64 c, .int .i64 a] 24)).cell? ⟨w.heap.size + 1, 0, none⟩ = some (.int .i64 gc) := t0
          have t1' : (wr.alloc (.cells #[.int .i64 c, .int .i64 a] 24)).cell? ⟨w.heap.size + 1, 1, none⟩ = some (.int .i64 ga) := t1
          have s0' : wr.cell? ⟨w.heap.size + 1, 0, none⟩ = some (.int .i64 gc) := s0
          have s1' : wr.cell? ⟨w.heap.size + 1, 1, none⟩ = some (.int .i64 ga) := s1
          clear s0 s1 t0 t1
          cases hah : aheadB (c, a) (gc, ga) with
          | true =>
            have HZ := Lib.hid (best_yes (f := (c, a)) (g := (gc, ga)) hz hah)
            have hor : a < ga ∨ (¬ a < ga ∧ a = ga ∧ c < gc) := by
              unfold aheadB at hah
              simp only [Bool.or_eq_true, decide_eq_true_eq, Bool.and_eq_true, beq_iff_eq] at hah
              omega
            clear hz hah
            rcases hor with hlt2 | ⟨hge, he, hcc⟩
            · go_wp2
              go_roundw
              case rel => exact ⟨k + 1, by omega, by go_num, by rw [HN.out, HCUR.out, HZ.out]; rfl, by rw [HN.out, HCUR.out, HZ.out]; exact HJ.out⟩
              case measure => simp [intOf]; omega
            · have he1 : (a == ga) = true := by simp [he]
              have HE := Lib.hid he
              clear he
              go_wp2
              go_roundw
              case rel => exact ⟨k + 1, by omega, by go_num, by rw [HN.out, HCUR.out, HZ.out]; rfl, by rw [HN.out, HCUR.out, HZ.out]; exact HJ.out⟩
              case measure => simp [intOf]; omega
          | false =>
            have HZ := Lib.hid (best_no (f := (c, a)) (g := (gc, ga)) hz hah)
            have hor : ¬ a < ga ∧ (a ≠ ga ∨ (a = ga ∧ ¬ c < gc)) := by
              unfold aheadB at hah
              simp only [Bool.or_eq_false_iff, decide_eq_false_iff_not, Bool.and_eq_false_iff, beq_eq_false_iff_ne] at hah
              omega
            clear hz hah
            obtain ⟨hge, hne | ⟨he, hcc⟩⟩ := hor
            · have he1 : (a == ga) = false := beq_eq_false_iff_ne.2 hne
              have HE := Lib.hid hne
              clear hne
              go_wp2
              go_roundw
              case rel => exact ⟨k + 1, by omega, by go_num, by rw [HN.out, HCUR.out, HZ.out], by rw [HN.out, HCUR.out, HZ.out]; exact HI.out.mono HA.out⟩
              case measure => simp [intOf]; omega
            · have he1 : (a == ga) = true := by simp [he]
              have HE := Lib.hid he
              clear he
              go_wp2
              go_roundw
              case rel => exact ⟨k + 1, by omega, by go_num, by rw [HN.out, HCUR.out, HZ.out], by rw [HN.out, HCUR.out, HZ.out]; exact HI.out.mono HA.out⟩
              case measure => simp [intOf]; omega
    · go_wp2
      exact bodyPost_ret (v := .tuple #[.agg #[.int .i64 (fltOf cur).1, .int .i64 (fltOf cur).2], .bool cur.isSome]) (by simp [results, Tryd.results14, go_sem, r0, r1, r2, r3]) rfl ⟨by
        have e : l.take k = l := List.take_of_length_le (by omega)
        rw [← HCUR.out, e], (HBel.out.setCell (p := ⟨w.heap.size, 0, none⟩) (Nat.le_refl _) _).setCell (p := ⟨w.heap.size, 1, none⟩) (Nat.le_refl _) _⟩
set_option maxHeartbeats 4000000 in
set_option maxRecDepth 100000 in
theorem refFirst_nil (p : Option Addr) (cap : Nat) (w : World) :
    Calls Tryd.prog 14 #[.slice p 0 cap] w (FirstPost none w) := by
  go_enter Tryd.func14, Tryd.ntmps14
  go_wp2
  refine wp_loop_rounds 1 ?_
  rw [rounds_succ]
  go_wp2
  exact bodyPost_ret (v := .tuple #[.agg #[.int .i64 0, .int .i64 0], .bool false]) (by simp [results, Tryd.results14, go_sem]) rfl ⟨rfl, (Inv.start w).bel⟩
theorem refFirst_any (l : List Flt) (v : Value) (w : World) (h : FltsAt w v l) :
    Calls Tryd.prog 14 #[v] w (FirstPost (firstOf l) w) := by
  obtain ⟨⟨p, cap, rfl⟩, hn, h2⟩ := h
  rcases Nat.eq_zero_or_pos l.length with h0 | h0
  · obtain rfl : l = [] := List.eq_nil_of_length_eq_zero h0
    exact refFirst_nil p cap w
  · obtain ⟨b, o, cap', e, hcl⟩ := h2 h0
    obtain ⟨rfl, rfl⟩ : p = some ⟨b, o, none⟩ ∧ cap = cap' := by injection e with e1 e2 e3; exact ⟨e1, e3⟩
    exact refFirst_some l (by unfold maxLen at hn; omega) b o _ w hcl
end Go.Proofs.YthiaeppaaahlgaaDoor
