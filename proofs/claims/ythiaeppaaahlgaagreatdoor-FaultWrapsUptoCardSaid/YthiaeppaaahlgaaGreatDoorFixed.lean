/-
  The calls whose answers the document fixes: they answer so.
-/
import Derived.Test.YthiaeppaaahlgaaGreatDoorFirst
set_option linter.unusedVariables false
set_option linter.unusedSimpArgs false
namespace Go.Proofs.YthiaeppaaahlgaaGreatDoor
open Go.RowKit Go.Extern.Stop Go.Stop Go.Extern

def ReadYes (c a : Int) (ms : List (List UInt8)) (w : World) (e : Ending) (w' : World) : Prop :=
  ∃ v ns, e = .returned (.tuple #[.agg #[.int .i64 c, .int .i64 a], v, .bool true]) ∧ StrsAt w' v ns ∧ lns ns = ms ∧ Below w.heap.size w w'
theorem yes_of {c a : Int} {ms : List (List UInt8)} {w : World} {e : Ending} {w' : World} (h : ReadPost (some (c, a, ms)) w e w') : ReadYes c a ms w e w' := by
  obtain ⟨v, ns, he, hs, hb⟩ := h
  exact ⟨v, ns, he, (hs c a ms rfl).1, (hs c a ms rfl).2, hb⟩
theorem no_of {w : World} {e : Ending} {w' : World} (h : ReadPost none w e w') : ValPost (.tuple #[.agg #[.int .i64 0, .int .i64 0], .slice none 0 0, .bool false]) w e w' := by
  obtain ⟨v, ns, he, _, hb⟩ := h
  exact ⟨he, hb⟩
theorem read_yes (s : ByteArray) (c a : Int) (ms : List (List UInt8)) (h : Fm.readText s.data.toList = some (c, a, ms)) (hs : s.size < 4294967281) (w : World) (hE : Env w) :
    Calls Tryz.prog 10 #[.string s] w (ReadYes c a ms w) := by
  have := read_any s hs w hE
  rw [h] at this
  exact this.mono fun _ _ h => yes_of h
theorem read_no (s : ByteArray) (h : Fm.readText s.data.toList = none) (hs : s.size < 4294967281) (w : World) (hE : Env w) :
    Calls Tryz.prog 10 #[.string s] w (ValPost (.tuple #[.agg #[.int .i64 0, .int .i64 0], .slice none 0 0, .bool false]) w) := by
  have := read_any s hs w hE
  rw [h] at this
  exact this.mono fun _ _ h => no_of h
theorem text_at (c a : Int) (hc : -9223372036854775808 ≤ c ∧ c ≤ 9223372036854775807) (ha : -9223372036854775808 ≤ a ∧ a ≤ 9223372036854775807) (ns : List ByteArray) (v : Value) (l : List UInt8) (h : Fm.chainText c a (lns ns) = l) (w : World) (hE : Env w) (hv : StrsAt w v ns)
    (hl : l.length ≤ 140737488355328) :
    Calls Tryz.prog 9 #[.agg #[.int .i64 c, .int .i64 a], v] w (StrPost w.heap.size l w) := by
  have := text_any c a hc ha ns v w hE hv (by rw [h]; exact hl)
  rw [h] at this
  exact this
theorem first_yes (l : List Flt) (v : Value) (c a : Int) (ho : firstOf l = some (c, a)) (w : World) (h : FltsAt w v l) :
    Calls Tryz.prog 11 #[v] w (ValPost (.tuple #[.agg #[.int .i64 c, .int .i64 a], .bool true]) w) := by
  have := first_any l v w h
  rw [ho] at this
  exact this
theorem first_no (l : List Flt) (v : Value) (ho : firstOf l = none) (w : World) (h : FltsAt w v l) :
    Calls Tryz.prog 11 #[v] w (ValPost (.tuple #[.agg #[.int .i64 0, .int .i64 0], .bool false]) w) := by
  have := first_any l v w h
  rw [ho] at this
  exact this
theorem has_at (c a code : Int) (b : Bool) (hb : (code == c) = b) (ns : List ByteArray) (v : Value) (w : World) (hv : StrsAt w v ns) :
    Calls Tryz.prog 8 #[.agg #[.int .i64 c, .int .i64 a], v, .int .i64 code] w (IsPost b w) := by
  have := has_any c a code ns v w hv
  rw [hb] at this
  exact this
theorem texts_at (v1 v2 : Value) (n1 n2 : List ByteArray) (b : Bool) (hb : decide (lns n1 = lns n2) = b) (w : World) (h1 : StrsAt w v1 n1) (h2 : StrsAt w v2 n2) :
    Calls Tryz.prog 7 #[v1, v2] w (BoolDrew b w) := by
  have := texts_any v1 v2 n1 n2 w h1 h2
  rw [hb] at this
  exact this

def edS : ByteArray := ⟨#[101, 100, 105, 116, 105, 111, 110]⟩
def lxS : ByteArray := ⟨#[108, 101, 120, 101, 114]⟩
theorem fixText : Fm.chainText 40 7 (lns [edS, lxS]) = [101, 100, 105, 116, 105, 111, 110, 58, 32, 108, 101, 120, 101, 114, 58, 32, 102, 97, 117, 108, 116, 32, 52, 48, 32, 97, 116, 32, 55] := by decide +kernel
theorem fixRead : Fm.readText [101, 100, 105, 116, 105, 111, 110, 58, 32, 108, 101, 120, 101, 114, 58, 32, 102, 97, 117, 108, 116, 32, 52, 48, 32, 97, 116, 32, 55] = some (40, 7, lns [edS, lxS]) := by
  rw [← fixText]
  exact Fm.readText_text (by decide) (by decide) (by decide) _ (by decide +kernel)
theorem fixFirst : firstOf [(0, 0), (9, 8), (40, 7)] = some (40, 7) := by decide +kernel
/-- two strings in a new block -/
theorem strs_two (w : World) (s t : ByteArray) : StrsAt (w.alloc (.cells #[.string s, .string t] 9)) (.slice (some ⟨w.heap.size, 0, none⟩) 2 2) [s, t] := by
  refine ⟨⟨_, _, rfl⟩, by unfold maxLen; simp, fun _ => ⟨_, 0, 2, rfl, fun i x hx => ?_⟩⟩
  match i, hx with
  | 0, hx => simp at hx; subst hx; simp
  | 1, hx => simp at hx; subst hx; simp
theorem flts_three (w : World) (a b c d e f : Int) : FltsAt (w.alloc (.cells #[.int .i64 a, .int .i64 b, .int .i64 c, .int .i64 d, .int .i64 e, .int .i64 f] 24)) (.slice (some ⟨w.heap.size, 0, none⟩) 3 3) [(a, b), (c, d), (e, f)] := by
  refine ⟨⟨_, _, rfl⟩, by unfold maxLen; simp, fun _ => ⟨_, 0, 3, rfl, fun i x hx => ?_⟩⟩
  match i, hx with
  | 0, hx => simp at hx; subst hx; simp
  | 1, hx => simp at hx; subst hx; simp
  | 2, hx => simp at hx; subst hx; simp

theorem cell_alloc {w : World} {p : Addr} {v : Value} (h : w.cell? p = some v) (o : Obj) : (w.alloc o).cell? p = some v := cell_below ((Below.refl _ _).alloc (Nat.le_refl _) o) h
theorem below_alloc (w : World) (o : Obj) : Below w.heap.size w (w.alloc o) := (Below.refl _ _).alloc (Nat.le_refl _) o
theorem below_step {w w1 w2 : World} (h : Below w.heap.size w w1) (k : Below w1.heap.size w1 w2) : Below w.heap.size w w2 := h.trans (k.mono h.size)
theorem flts_none (w : World) : FltsAt w (.slice none 0 0) [] := ⟨⟨none, 0, rfl⟩, by unfold maxLen; simp, fun h => by simp at h⟩
set_option maxHeartbeats 8000000 in
set_option maxRecDepth 100000 in
theorem fixed_any (w : World) (hE : Env w) : Calls Tryz.prog 5 #[] w (IsPost true w) := by
  have hb0 : Below w.heap.size w ((w.alloc (.cells #[.int .i64 40, .int .i64 7] 24)).alloc (.cells #[.string ⟨#[101, 100, 105, 116, 105, 111, 110]⟩, .string ⟨#[108, 101, 120, 101, 114]⟩] 9)) := ((Below.refl _ _).alloc (Nat.le_refl _) _).alloc (by simp) _
  have HE0 := Lib.hid (hE.mono hb0)
  have HB0 := Lib.hid hb0
  have HS0 : Hid (StrsAt ((w.alloc (.cells #[.int .i64 40, .int .i64 7] 24)).alloc (.cells #[.string ⟨#[101, 100, 105, 116, 105, 111, 110]⟩, .string ⟨#[108, 101, 120, 101, 114]⟩] 9)) (.slice (some ⟨w.heap.size + 1, 0, none⟩) 2 2) [edS, lxS]) := by
    have := strs_two (w.alloc (.cells #[.int .i64 40, .int .i64 7] 24)) edS lxS
    simp only [World.size_alloc] at this
    exact this
  clear hb0 hE
  go_enter Tryz.func5, Tryz.ntmps5
  go_wp2_with fail
  refine (read_yes _ 40 7 _ fixRead (by decide) _ HE0.out).mono ?_
  rintro e w1 ⟨v1, n1, rfl, hs1, hn1, hb1⟩
  have HB1 := Lib.hid (below_step HB0.out hb1)
  have HS1 := Lib.hid hs1
  have HN1 := Lib.hid hn1
  have HL1 := Lib.hid (HS0.out.mono hb1)
  have f0 : w1.cell? ⟨w.heap.size, 0, none⟩ = some (.int .i64 40) := cell_below hb1 (by simp)
  have f1 : w1.cell? ⟨w.heap.size, 1, none⟩ = some (.int .i64 7) := cell_below hb1 (by simp)
  have HE1 := Lib.hid (HE0.out.mono hb1)
  clear hs1 hn1 hb1
  have f0' := cell_alloc f0 (.cells #[.int .i64 40, .int .i64 7] 24)
  have f1' := cell_alloc f1 (.cells #[.int .i64 40, .int .i64 7] 24)
  go_wp2_with fail
  have HF3 := Lib.hid (flts_three (w1.alloc (.cells #[.int .i64 40, .int .i64 7] 24)) 0 0 9 8 40 7)
  simp only [World.size_alloc] at HF3
  have HQ : Hid (Below w1.heap.size w1 ((w1.alloc (.cells #[.int .i64 40, .int .i64 7] 24)).alloc (.cells #[.int .i64 0, .int .i64 0, .int .i64 9, .int .i64 8, .int .i64 40, .int .i64 7] 24))) := ((below_alloc _ _).alloc (by simp) _)
  refine (first_yes _ _ 40 7 fixFirst _ HF3.out).mono ?_
  rintro e w2 ⟨rfl, hb2⟩
  have hb2' := below_step HQ.out hb2
  have HB2 := Lib.hid (below_step HB1.out hb2')
  have HE2 := Lib.hid (HE1.out.mono hb2')
  have HL2 := Lib.hid (HL1.out.mono hb2')
  have HS2 := Lib.hid (HS1.out.mono hb2')
  have g0 : w2.cell? ⟨w1.heap.size, 0, none⟩ = some (.int .i64 40) := cell_below hb2 (by rw [World.cell?_alloc_lt _ _ _ (by simp)]; simp)
  have g1 : w2.cell? ⟨w1.heap.size, 1, none⟩ = some (.int .i64 7) := cell_below hb2 (by rw [World.cell?_alloc_lt _ _ _ (by simp)]; simp)
  have k0 := cell_below hb2' f0
  have k1 := cell_below hb2' f1
  clear hb2 hb2' f0 f1 f0' f1' HF3
  go_wp2_with fail
  refine (first_no _ _ rfl _ (flts_none _)).mono ?_
  rintro e w3 ⟨rfl, hb3⟩
  have hb3' := below_step (below_alloc w2 (.cells #[.int .i64 40, .int .i64 7] 24)) hb3
  have HB3 := Lib.hid (below_step HB2.out hb3')
  have HE3 := Lib.hid (HE2.out.mono hb3')
  have HL3 := Lib.hid (HL2.out.mono hb3')
  have HS3 := Lib.hid (HS2.out.mono hb3')
  have g0' := cell_below hb3' g0
  have g1' := cell_below hb3' g1
  have k0' := cell_below hb3' k0
  have k1' := cell_below hb3' k1
  have m0 : w3.cell? ⟨w2.heap.size, 0, none⟩ = some (.int .i64 40) := cell_below hb3 (by simp)
  have m1 : w3.cell? ⟨w2.heap.size, 1, none⟩ = some (.int .i64 7) := cell_below hb3 (by simp)
  have k0z := cell_alloc k0' (.cells #[.int .i64 0, .int .i64 0] 24)
  have k1z := cell_alloc k1' (.cells #[.int .i64 0, .int .i64 0] 24)
  clear hb3 hb3' g0 g1 k0 k1
  go_wp2_with fail
  refine (text_at 40 7 (by decide) (by decide) [edS, lxS] _ _ fixText _ (HE3.out.mono (below_alloc _ _)) (HL3.out.mono (below_alloc _ _)) (by decide)).mono ?_
  rintro e w4 ⟨rfl, hb4⟩
  have hb4' := below_step (below_alloc w3 (.cells #[.int .i64 0, .int .i64 0] 24)) hb4
  have HB4 := Lib.hid (below_step HB3.out hb4')
  have HE4 := Lib.hid (HE3.out.mono hb4')
  have HL4 := Lib.hid (HL3.out.mono hb4')
  have HS4 := Lib.hid (HS3.out.mono hb4')
  have g0 := cell_below hb4' g0'
  have g1 := cell_below hb4' g1'
  have k0 := cell_below hb4' k0'
  have k1 := cell_below hb4' k1'
  have n0 := cell_below hb4' m0
  have n1 := cell_below hb4' m1
  clear hb4 hb4' g0' g1' k0' k1' m0 m1 k0z k1z
  go_wp2_with fail
  refine (texts_at _ _ _ _ true (decide_eq_true HN1.out) _ HS4.out HL4.out).mono ?_
  rintro e w5 ⟨rfl, nd, rfl⟩
  go_wp2_with fail
  have hd : Below w4.heap.size w4 (w4.drewN nd) := below_drewN (Below.refl _ _) nd
  refine (has_at 40 7 40 true (by decide) [edS, lxS] _ _ (HL4.out.mono hd)).mono ?_
  rintro e w6 ⟨rfl, hb6⟩
  have hb6' := below_step hd hb6
  have HB6 := Lib.hid (below_step HB4.out hb6')
  have HL6 := Lib.hid (HL4.out.mono hb6')
  have k0' := cell_below hb6' k0
  have k1' := cell_below hb6' k1
  clear hb6 hb6' hd g0 g1 k0 k1 n0 n1
  go_wp2_with fail
  refine (has_at 40 7 41 false (by decide) [edS, lxS] _ _ HL6.out).mono ?_
  rintro e w7 ⟨rfl, hb7⟩
  have HB7 := Lib.hid (below_step HB6.out hb7)
  clear hb7
  go_wp2_with fail
  go_ret
  exact ⟨rfl, HB7.out⟩
end Go.Proofs.YthiaeppaaahlgaaGreatDoor
