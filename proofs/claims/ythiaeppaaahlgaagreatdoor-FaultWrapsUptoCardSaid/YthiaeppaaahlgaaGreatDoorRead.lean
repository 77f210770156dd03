/-
  Reading: what readNumber, readFault and Read of the program, and Read of the reference, return.
-/
import Derived.Test.YthiaeppaaahlgaaGreatDoorText
import Derived.Laws.AppendOwn
import Derived.OwnWalk
import Derived.Laws.ResultCell
set_option linter.unusedVariables false
set_option linter.unusedSimpArgs false
namespace Go.Proofs.YthiaeppaaahlgaaGreatDoor
open Go.RowKit Go.Extern.Stop Go.Stop Go.Extern

/-- what readNumber answers -/
def numVal : Option Int → Value
  | some v => .tuple #[.int .i64 v, .bool true]
  | none => .tuple #[.int .i64 0, .bool false]
def ValPost (v : Value) (w : World) (e : Ending) (w' : World) : Prop := e = .returned v ∧ Below w.heap.size w w'
theorem num_of_ok {l : List UInt8} {v : Int} (h : Lib.atoiAll l = .ok v) : Fm.num l = if Lib.itoa v = l then some v else none := by
  unfold Fm.num; rw [h]
theorem num_of_bad {l : List UInt8} (h : ∀ v, Lib.atoiAll l ≠ .ok v) : Fm.num l = none := by
  unfold Fm.num
  split
  · rename_i v hv; exact absurd hv (h v)
  · rfl
theorem below_bytes {w w' : World} {e : TypeId} (h : w' = w ∨ ∃ t, w' = Lib.bytesWorld w e t) : Below w.heap.size w w' := by
  rcases h with rfl | ⟨t, rfl⟩
  · exact Below.refl _ _
  · exact Lib.bytesWorld_below _ _ _

set_option maxHeartbeats 4000000 in
set_option maxRecDepth 100000 in
theorem readNumber_any (s : ByteArray) (hs : s.size ≤ 140737488355328) (w : World) (hE : Env w) :
    Calls Tryz.prog 28 #[.string s] w (ValPost (numVal (Fm.num s.data.toList)) w) := by
  rcases ha : Lib.atoiAll s.data.toList with v | _ | _
  · skip
    have hr := Fm.atoi_range ha
    have hn := Lib.hid (num_of_ok ha)
    have HA := Lib.hid ha
    clear ha
    by_cases hq : Lib.itoa v = s.data.toList
    · have hq2 : (Lib.itoa v == s.toList) = true := by rw [Lib.toList_data, hq]; simp
      have hq3 : (Lib.itoa v != s.toList) = false := by rw [Lib.toList_data, hq]; simp
      have HN : Hid (Fm.num s.data.toList = some v) := by show _ = _; rw [hn.out, if_pos hq]
      clear hq hn
      go_enter Tryz.func28, Tryz.ntmps28
      go_wp2_with fail
      refine (Tryz.strconv_Atoi_ok s (by omega) v HA.out w).mono ?_
      rintro e w1 ⟨rfl, hw1⟩
      have HB1 := Lib.hid (below_bytes hw1)
      clear hw1
      go_wp2_with fail
      refine (itoa_any v hr.1 hr.2 _ (hE.mono HB1.out)).mono ?_
      rintro e w2 ⟨rfl, hb2⟩
      have HB2 := Lib.hid (HB1.out.trans (hb2.mono HB1.out.size))
      clear hb2
      go_wp2
      go_ret2
      exact ⟨by rw [HN.out]; rfl, HB2.out⟩
    · have hq2 : (Lib.itoa v == s.toList) = false := by rw [Lib.toList_data]; exact beq_eq_false_iff_ne.2 hq
      have hq3 : (Lib.itoa v != s.toList) = true := by rw [Lib.toList_data]; exact bne_iff_ne.2 hq
      have HN : Hid (Fm.num s.data.toList = none) := by show _ = _; rw [hn.out, if_neg hq]
      clear hq hn
      go_enter Tryz.func28, Tryz.ntmps28
      go_wp2_with fail
      refine (Tryz.strconv_Atoi_ok s (by omega) v HA.out w).mono ?_
      rintro e w1 ⟨rfl, hw1⟩
      have HB1 := Lib.hid (below_bytes hw1)
      clear hw1
      go_wp2_with fail
      refine (itoa_any v hr.1 hr.2 _ (hE.mono HB1.out)).mono ?_
      rintro e w2 ⟨rfl, hb2⟩
      have HB2 := Lib.hid (HB1.out.trans (hb2.mono HB1.out.size))
      clear hb2
      go_wp2
      go_ret2
      exact ⟨by rw [HN.out]; rfl, HB2.out⟩
  · skip
    have HN := Lib.hid (num_of_bad (l := s.data.toList) (fun v h => by rw [ha] at h; cases h))
    have HA := Lib.hid ha
    obtain ⟨tp, p, hv⟩ := hE.syn
    clear ha
    have HV := Lib.hid hv
    clear hv
    go_enter Tryz.func28, Tryz.ntmps28
    go_wp2_with fail
    refine (Any.strconv_Atoi_syntax_var Tryz.laysC172 s (by omega) HA.out tp p w HV.out).mono ?_
    rintro e w1 ⟨N, rfl, _, _, hb1⟩
    have HB1 := Lib.hid hb1
    clear hb1
    go_wp2
    go_ret2
    exact ⟨by rw [HN.out]; rfl, HB1.out⟩
  · skip
    have HN := Lib.hid (num_of_bad (l := s.data.toList) (fun v h => by rw [ha] at h; cases h))
    have HA := Lib.hid ha
    obtain ⟨tp, p, hv⟩ := hE.rng
    clear ha
    have HV := Lib.hid hv
    clear hv
    go_enter Tryz.func28, Tryz.ntmps28
    go_wp2_with fail
    refine (Tryz.strconv_Atoi_range_var s (by omega) HA.out tp p w HV.out).mono ?_
    rintro e w1 ⟨N, rfl, _, _, hb1⟩
    have HB1 := Lib.hid hb1
    clear hb1
    go_wp2
    go_ret2
    exact ⟨by rw [HN.out]; rfl, HB1.out⟩

theorem arr_toList (l : List UInt8) : (⟨l.toArray⟩ : ByteArray).data.toList = l := by simp
theorem arr_size (l : List UInt8) : (⟨l.toArray⟩ : ByteArray).size = l.length := by rw [Lib.size_eq, arr_toList]
/-- readNumber, its answer known. -/
theorem readNumber_at (l : List UInt8) (o : Option Int) (h : Fm.num l = o) (hs : l.length ≤ 140737488355328) (w : World) (hE : Env w) :
    Calls Tryz.prog 28 #[.string ⟨l.toArray⟩] w (ValPost (numVal o) w) := by
  have := readNumber_any ⟨l.toArray⟩ (by rw [arr_size]; exact hs) w hE
  rw [arr_toList, h] at this
  exact this
theorem readNumber_yes (l : List UInt8) (v : Int) (h : Fm.num l = some v) (hs : l.length ≤ 140737488355328) (w : World) (hE : Env w) :
    Calls Tryz.prog 28 #[.string ⟨l.toArray⟩] w (ValPost (.tuple #[.int .i64 v, .bool true]) w) := readNumber_at l (some v) h hs w hE
theorem readNumber_no (l : List UInt8) (h : Fm.num l = none) (hs : l.length ≤ 140737488355328) (w : World) (hE : Env w) :
    Calls Tryz.prog 28 #[.string ⟨l.toArray⟩] w (ValPost (.tuple #[.int .i64 0, .bool false]) w) := readNumber_at l none h hs w hE
/-- strings.Cut, its answer known. -/
theorem cut_at (s sep : ByteArray) (x y : List UInt8) (b : Bool) (h : Lib.cut s.data.toList sep.data.toList = (x, y, b)) (hs : s.size < 4294967281) (w : World) (hE : Env w) :
    Calls Tryz.prog 16 #[.string s, .string sep] w (ValPost (.tuple #[.string ⟨x.toArray⟩, .string ⟨y.toArray⟩, .bool b]) w) := by
  obtain ⟨m, hm⟩ := hE.cut
  refine (Tryz.strings_Cut s sep m w hs hm).mono ?_
  rintro e w' ⟨he, n, rfl⟩
  rw [h] at he
  exact ⟨he, below_drewN (Below.refl _ _) n⟩
theorem pre_at (s p : ByteArray) (x : List UInt8) (b : Bool) (h1 : Lib.hasPrefix s.data.toList p.data.toList = b) (h2 : Lib.trimPrefix s.data.toList p.data.toList = x) (w : World) :
    Calls Tryz.prog 27 #[.string s, .string p] w fun e w' => e = .returned (.tuple #[.string ⟨x.toArray⟩, .bool b]) ∧ w' = w := by
  have := Tryz.strings_CutPrefix s p w
  rw [h1, h2] at this
  exact this

/-- the result's two cells, behind whatever leaves them alone -/
theorem res_cells {w w1 : World} {x y : Value} {T : TypeId} (h : Below (w.alloc (.cells #[x, y] T)).heap.size (w.alloc (.cells #[x, y] T)) w1) :
    w1.cell? ⟨w.heap.size, 0, none⟩ = some x ∧ w1.cell? ⟨w.heap.size, 1, none⟩ = some y ∧ w1.frozen? ⟨w.heap.size, 0, none⟩ = false ∧ w1.frozen? ⟨w.heap.size, 1, none⟩ = false := by
  refine ⟨?_, ?_, ?_, ?_⟩
  · rw [h.cell (by simp)]; simp
  · rw [h.cell (by simp)]; simp
  · rw [h.frozen (by simp)]; simp
  · rw [h.frozen (by simp)]; simp
theorem res_below {w w1 : World} {x y u v : Value} {T : TypeId} (h : Below (w.alloc (.cells #[x, y] T)).heap.size (w.alloc (.cells #[x, y] T)) w1) :
    Below w.heap.size w ((w1.setCell ⟨w.heap.size, 0, none⟩ u).setCell ⟨w.heap.size, 1, none⟩ v) :=
  (((((Below.refl _ _).alloc (Nat.le_refl _) _).trans (h.mono (by simp))).setCell (p := ⟨w.heap.size, 0, none⟩) (Nat.le_refl _) _).setCell (p := ⟨w.heap.size, 1, none⟩) (Nat.le_refl _) _)

/-- what readFault answers -/
def faultVal : Option (Int × Int) → Value
  | some (c, a) => .tuple #[.agg #[.int .i64 c, .int .i64 a], .bool true]
  | none => .tuple #[.agg #[.int .i64 0, .int .i64 0], .bool false]
theorem cut_len {l sep x y : List UInt8} {b : Bool} (h : Lib.cut l sep = (x, y, b)) : x.length ≤ l.length ∧ y.length ≤ l.length := by
  cases b with
  | true =>
    have := congrArg List.length (Fm.cut_found h)
    simp only [List.length_append] at this
    omega
  | false => obtain ⟨rfl, rfl⟩ := Fm.cut_lost h; simp
theorem trim_len (l p : List UInt8) : (Lib.trimPrefix l p).length ≤ l.length := by
  unfold Lib.trimPrefix
  split
  · rw [List.length_drop]; omega
  · exact Nat.le_refl _

set_option maxHeartbeats 8000000 in
set_option maxRecDepth 100000 in
theorem readFault_any (s : ByteArray) (hs : s.size < 4294967281) (w : World) (hE : Env w) :
    Calls Tryz.prog 18 #[.string s] w (ValPost (faultVal (Fm.readFault s.data.toList)) w) := by
  have hb0 : Below w.heap.size w (w.alloc (.cells #[.int .i64 0, .int .i64 0] 24)) := (Below.refl _ _).alloc (Nat.le_refl _) _
  have HE0 := Lib.hid (hE.mono hb0)
  cases hp : Lib.hasPrefix s.data.toList Fm.faultB with
  | false =>
    have HN : Hid (Fm.readFault s.data.toList = none) := by show _ = _; unfold Fm.readFault; rw [hp]; rfl
    have HP := Lib.hid hp
    clear hp
    go_enter Tryz.func18, Tryz.ntmps18
    go_wp2_with fail
    refine (pre_at s _ _ false HP.out rfl _).mono ?_
    rintro e w1 ⟨rfl, rfl⟩
    go_wp2_with fail
    exact bodyPost_ret (v := .tuple #[.agg #[.int .i64 0, .int .i64 0], .bool false]) (by simp [results, Tryz.results18, go_sem]) rfl ⟨by rw [HN.out]; rfl, hb0⟩
  | true =>
    obtain ⟨X, hX⟩ : ∃ X, Lib.trimPrefix s.data.toList Fm.faultB = X := ⟨_, rfl⟩
    have hXl : X.length ≤ s.size := by rw [← hX, Lib.size_eq]; exact trim_len _ _
    obtain ⟨x, y, b, hc⟩ : ∃ x y b, Lib.cut X Fm.atB = (x, y, b) := ⟨_, _, _, rfl⟩
    have hxy := cut_len hc
    have HF : Hid (Fm.readFault s.data.toList = Fm.readNums X) := by show _ = _; unfold Fm.readFault; rw [if_pos hp, hX]
    have HP := Lib.hid hp
    have HX := Lib.hid hX
    have HC : Hid (Lib.cut (⟨X.toArray⟩ : ByteArray).data.toList (⟨#[32, 97, 116, 32]⟩ : ByteArray).data.toList = (x, y, b)) := by show _ = _; rw [arr_toList]; exact hc
    have HC2 := Lib.hid hc
    have hXs : (⟨X.toArray⟩ : ByteArray).size < 4294967281 := by rw [arr_size]; omega
    clear hp hX hc
    cases hx : Fm.num x with
    | none =>
      have HN : Hid (Fm.readFault s.data.toList = none) := by
        show _ = _; rw [HF.out]; unfold Fm.readNums; rw [HC2.out]; cases b <;> simp only [hx]
      have HNx := Lib.hid hx
      clear hx
      go_enter Tryz.func18, Tryz.ntmps18
      go_wp2_with fail
      refine (pre_at s _ X true HP.out HX.out _).mono ?_
      rintro e w0 ⟨rfl, rfl⟩
      go_wp2_with fail
      refine (cut_at _ _ x y b HC.out hXs _ HE0.out).mono ?_
      rintro e w1 ⟨rfl, hb1⟩
      have HB1 := Lib.hid (hb1)
      have HE1 := Lib.hid (HE0.out.mono HB1.out)
      clear hb1
      go_wp2_with fail
      refine (readNumber_no x HNx.out (by omega) _ HE1.out).mono ?_
      rintro e w2 ⟨rfl, hb2⟩
      have HB2 := Lib.hid (HB1.out.trans (hb2.mono HB1.out.size))
      have HE2 := Lib.hid (HE0.out.mono HB2.out)
      clear hb2
      obtain ⟨q0, q1, q2, q3⟩ := res_cells HB2.out
      go_wp2
      exact bodyPost_ret (v := .tuple #[.agg #[.int .i64 0, .int .i64 0], .bool false]) (by simp [results, Tryz.results18, go_sem, q0, q1, q2, q3]) rfl ⟨by rw [HN.out]; rfl, res_below HB2.out⟩
    | some c =>
      have HNx := Lib.hid hx
      cases b with
      | false =>
        have HN : Hid (Fm.readFault s.data.toList = some (c, -1)) := by
          show _ = _; rw [HF.out]; unfold Fm.readNums; rw [HC2.out]; simp only [hx]
        clear hx
        go_enter Tryz.func18, Tryz.ntmps18
        go_wp2_with fail
        refine (pre_at s _ X true HP.out HX.out _).mono ?_
        rintro e w0 ⟨rfl, rfl⟩
        go_wp2_with fail
        refine (cut_at _ _ x y false HC.out hXs _ HE0.out).mono ?_
        rintro e w1 ⟨rfl, hb1⟩
        have HB1 := Lib.hid (hb1)
        have HE1 := Lib.hid (HE0.out.mono HB1.out)
        clear hb1
        go_wp2_with fail
        refine (readNumber_yes x c HNx.out (by omega) _ HE1.out).mono ?_
        rintro e w2 ⟨rfl, hb2⟩
        have HB2 := Lib.hid (HB1.out.trans (hb2.mono HB1.out.size))
        have HE2 := Lib.hid (HE0.out.mono HB2.out)
        clear hb2
        obtain ⟨q0, q1, q2, q3⟩ := res_cells HB2.out
        go_wp2
        exact bodyPost_ret (v := .tuple #[.agg #[.int .i64 c, .int .i64 (-1)], .bool true]) (by simp [results, Tryz.results18, go_sem, q0, q1, q2, q3]) rfl ⟨by rw [HN.out]; rfl, res_below HB2.out⟩
      | true =>
        cases hy : Fm.num y with
        | none =>
          have HN : Hid (Fm.readFault s.data.toList = none) := by
            show _ = _; rw [HF.out]; unfold Fm.readNums; rw [HC2.out]; simp only [hx, hy]
          have HNy := Lib.hid hy
          clear hx hy
          go_enter Tryz.func18, Tryz.ntmps18
          go_wp2_with fail
          refine (pre_at s _ X true HP.out HX.out _).mono ?_
          rintro e w0 ⟨rfl, rfl⟩
          go_wp2_with fail
          refine (cut_at _ _ x y true HC.out hXs _ HE0.out).mono ?_
          rintro e w1 ⟨rfl, hb1⟩
          have HB1 := Lib.hid (hb1)
          have HE1 := Lib.hid (HE0.out.mono HB1.out)
          clear hb1
          go_wp2_with fail
          refine (readNumber_yes x c HNx.out (by omega) _ HE1.out).mono ?_
          rintro e w2 ⟨rfl, hb2⟩
          have HB2 := Lib.hid (HB1.out.trans (hb2.mono HB1.out.size))
          have HE2 := Lib.hid (HE0.out.mono HB2.out)
          clear hb2
          go_wp2_with fail
          refine (readNumber_no y HNy.out (by omega) _ HE2.out).mono ?_
          rintro e w3 ⟨rfl, hb3⟩
          have HB3 := Lib.hid (HB2.out.trans (hb3.mono HB2.out.size))
          have HE3 := Lib.hid (HE0.out.mono HB3.out)
          clear hb3
          obtain ⟨q0, q1, q2, q3⟩ := res_cells HB3.out
          go_wp2
          exact bodyPost_ret (v := .tuple #[.agg #[.int .i64 0, .int .i64 0], .bool false]) (by simp [results, Tryz.results18, go_sem, q0, q1, q2, q3]) rfl ⟨by rw [HN.out]; rfl, res_below HB3.out⟩
        | some a =>
          have HNy := Lib.hid hy
          by_cases hneg : a < 0
          · have HN : Hid (Fm.readFault s.data.toList = none) := by
              show _ = _; rw [HF.out]; unfold Fm.readNums; rw [HC2.out]; simp only [hx, hy]; rw [if_pos hneg]
            clear hx hy
            go_enter Tryz.func18, Tryz.ntmps18
            go_wp2_with fail
            refine (pre_at s _ X true HP.out HX.out _).mono ?_
            rintro e w0 ⟨rfl, rfl⟩
            go_wp2_with fail
            refine (cut_at _ _ x y true HC.out hXs _ HE0.out).mono ?_
            rintro e w1 ⟨rfl, hb1⟩
            have HB1 := Lib.hid (hb1)
            have HE1 := Lib.hid (HE0.out.mono HB1.out)
            clear hb1
            go_wp2_with fail
            refine (readNumber_yes x c HNx.out (by omega) _ HE1.out).mono ?_
            rintro e w2 ⟨rfl, hb2⟩
            have HB2 := Lib.hid (HB1.out.trans (hb2.mono HB1.out.size))
            have HE2 := Lib.hid (HE0.out.mono HB2.out)
            clear hb2
            go_wp2_with fail
            refine (readNumber_yes y a HNy.out (by omega) _ HE2.out).mono ?_
            rintro e w3 ⟨rfl, hb3⟩
            have HB3 := Lib.hid (HB2.out.trans (hb3.mono HB2.out.size))
            have HE3 := Lib.hid (HE0.out.mono HB3.out)
            clear hb3
            obtain ⟨q0, q1, q2, q3⟩ := res_cells HB3.out
            go_wp2
            exact bodyPost_ret (v := .tuple #[.agg #[.int .i64 0, .int .i64 0], .bool false]) (by simp [results, Tryz.results18, go_sem, q0, q1, q2, q3]) rfl ⟨by rw [HN.out]; rfl, res_below HB3.out⟩
          · have HN : Hid (Fm.readFault s.data.toList = some (c, a)) := by
              show _ = _; rw [HF.out]; unfold Fm.readNums; rw [HC2.out]; simp only [hx, hy]; rw [if_neg hneg]
            clear hx hy
            go_enter Tryz.func18, Tryz.ntmps18
            go_wp2_with fail
            refine (pre_at s _ X true HP.out HX.out _).mono ?_
            rintro e w0 ⟨rfl, rfl⟩
            go_wp2_with fail
            refine (cut_at _ _ x y true HC.out hXs _ HE0.out).mono ?_
            rintro e w1 ⟨rfl, hb1⟩
            have HB1 := Lib.hid (hb1)
            have HE1 := Lib.hid (HE0.out.mono HB1.out)
            clear hb1
            go_wp2_with fail
            refine (readNumber_yes x c HNx.out (by omega) _ HE1.out).mono ?_
            rintro e w2 ⟨rfl, hb2⟩
            have HB2 := Lib.hid (HB1.out.trans (hb2.mono HB1.out.size))
            have HE2 := Lib.hid (HE0.out.mono HB2.out)
            clear hb2
            go_wp2_with fail
            refine (readNumber_yes y a HNy.out (by omega) _ HE2.out).mono ?_
            rintro e w3 ⟨rfl, hb3⟩
            have HB3 := Lib.hid (HB2.out.trans (hb3.mono HB2.out.size))
            have HE3 := Lib.hid (HE0.out.mono HB3.out)
            clear hb3
            obtain ⟨q0, q1, q2, q3⟩ := res_cells HB3.out
            go_wp2
            exact bodyPost_ret (v := .tuple #[.agg #[.int .i64 c, .int .i64 a], .bool true]) (by simp [results, Tryz.results18, go_sem, q0, q1, q2, q3]) rfl ⟨by rw [HN.out]; rfl, res_below HB3.out⟩
end Go.Proofs.YthiaeppaaahlgaaGreatDoor
