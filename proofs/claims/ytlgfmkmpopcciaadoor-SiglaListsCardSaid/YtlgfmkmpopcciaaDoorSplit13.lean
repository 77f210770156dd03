/-
  strings.SplitSeq at a blank: its iterator calls the rounds with the text's words, one behind the other.
-/
import Derived.Test.YtlgfmkmpopcciaaDoorRange13
import Derived.Test.YtlgfmkmpopcciaaDoorRefCut13
import Derived.RangeFuncBox
set_option linter.unusedVariables false
set_option linter.unusedSimpArgs false
namespace Go.Proofs.YtlgfmkmpopcciaaDoor
open Go.RowKit Go.Shelf
attribute [local go_sem] Oper.semAt_some

set_option maxHeartbeats 1000000 in
set_option maxRecDepth 100000 in
theorem index_one13 (s : ByteArray) (c : UInt8) (w : World) : Calls Tryd.prog 62 #[.string s, .string ⟨#[c]⟩] w (Is (.int .i64 (Lib.indexByte s.data.toList c)) w) := by
  have HI := Lib.hid (fun w => Tryd.stringslite_Index_one s c w)
  go_enter Tryd.func62, Tryd.ntmps62
  go_wp2_with fail
  refine (HI.out _).mono ?_
  rintro e w1 ⟨rfl, rfl⟩
  go_wp2
  go_ret
  exact ⟨rfl, rfl⟩
/-- the iterator's three boxes: what is left, the separator, and nought -/
structure BoxS (b : Nat) (L : List UInt8) (W : World) : Prop where
  left : W.heap[b]? = some (.cells #[.string (str L)] 9 (0, 0))
  sep : W.heap[b + 1]? = some (.cells #[.string ⟨#[32]⟩] 9 (0, 0))
  save : W.heap[b + 2]? = some (.cells #[.int .i64 0] 3 (0, 0))
theorem BoxS.kept {b : Nat} {L : List UInt8} {W W' : World} (h : BoxS b L W) (hk : BoxesKept b W W') : BoxS b L W' :=
  ⟨(hk b (by omega) (by omega)).trans h.left, (hk (b + 1) (by omega) (by omega)).trans h.sep, (hk (b + 2) (by omega) (by omega)).trans h.save⟩
theorem BoxS.below {b : Nat} {L : List UInt8} {W W' : World} (h : BoxS b L W) (hb : Below W.heap.size W W') : BoxS b L W' := ⟨obj_kept hb h.left, obj_kept hb h.sep, obj_kept hb h.save⟩
theorem BoxS.set {b : Nat} {L : List UInt8} {W : World} (h : BoxS b L W) (M : List UInt8) : BoxS b M (W.setCell ⟨b, 0, none⟩ (.string (str M))) := by
  refine ⟨?_, obj_set h.sep (by omega), obj_set h.save (by omega)⟩
  exact heap_setCell_same W b 0 _ _ (.string (str M)) h.left
theorem BoxS.cells {b : Nat} {L : List UInt8} {W : World} (h : BoxS b L W) : W.cell? ⟨b, 0, none⟩ = some (.string (str L)) ∧ W.cell? ⟨b + 1, 0, none⟩ = some (.string ⟨#[32]⟩) ∧ W.cell? ⟨b + 2, 0, none⟩ = some (.int .i64 0) := by
  refine ⟨?_, ?_, ?_⟩
  · rw [Lib.cell_of_heap h.left]; rfl
  · rw [Lib.cell_of_heap h.sep]; rfl
  · rw [Lib.cell_of_heap h.save]; rfl
def leftOf (b : Nat) (W : World) : Nat := match W.cell? ⟨b, 0, none⟩ with
  | some (.string x) => x.size
  | _ => 0
theorem BoxS.size {b : Nat} {L : List UInt8} {W : World} (h : BoxS b L W) : leftOf b W = L.length := by
  unfold leftOf
  rw [h.cells.1]
  exact str_size13 L
theorem mkf13b (fn : Fn) (first cap : Array Value) (w : World) : (Instr.makeFunc fn first cap).run Tryd.prog w = .ok (.func fn first cap) w := rfl
set_option maxHeartbeats 1000000 in
set_option maxRecDepth 100000 in
theorem splitSeq_mk (s : ByteArray) (w : World) : Calls Tryd.prog 53 #[.string s, .string ⟨#[32]⟩, .int .i64 0] w (Is (.func (.func 60) #[] #[.pointer (some ⟨w.heap.size + 1, 0, none⟩), .pointer (some ⟨w.heap.size, 0, none⟩), .pointer (some ⟨w.heap.size + 2, 0, none⟩)]) (((w.alloc (.cells #[.string s] 9)).alloc (.cells #[.string ⟨#[32]⟩] 9)).alloc (.cells #[.int .i64 0] 3))) := by
  have hmf := mkf13b
  go_enter Tryd.func53, Tryd.ntmps53
  go_wp2
  go_ret
  exact ⟨rfl, rfl⟩
set_option maxHeartbeats 1000000 in
set_option maxRecDepth 100000 in
theorem splitSeq_any (s : ByteArray) (w : World) : Calls Tryd.prog 43 #[.string s, .string ⟨#[32]⟩] w (Is (.func (.func 60) #[] #[.pointer (some ⟨w.heap.size + 1, 0, none⟩), .pointer (some ⟨w.heap.size, 0, none⟩), .pointer (some ⟨w.heap.size + 2, 0, none⟩)]) (((w.alloc (.cells #[.string s] 9)).alloc (.cells #[.string ⟨#[32]⟩] 9)).alloc (.cells #[.int .i64 0] 3))) := by
  have HM := Lib.hid (fun w => splitSeq_mk s w)
  go_enter Tryd.func43, Tryd.ntmps43
  go_wp2_with fail
  refine (HM.out _).mono ?_
  rintro e w1 ⟨rfl, rfl⟩
  go_wp2
  go_ret
  exact ⟨rfl, rfl⟩
set_option maxHeartbeats 4000000 in
set_option maxRecDepth 100000 in
/-- the iterator: for every loop body that keeps its boxes -/
theorem splitIter_in (n b : Nat) (s : List UInt8) (hs : s.length ≤ 281474976710656) (w : World) (hb : BoxS b s w) : SeqBox Tryd.prog n 60 #[.pointer (some ⟨b + 1, 0, none⟩), .pointer (some ⟨b, 0, none⟩), .pointer (some ⟨b + 2, 0, none⟩)] (fun x : List UInt8 => #[Value.string (str x)]) b (Mt.split 32 s) w := by
  intro l J Jx W hW hJ hJx hY h0
  have HB0 := Lib.hid (hb.below hW)
  have HJ := Lib.hid hJ
  have HJx := Lib.hid hJx
  have HY := Lib.hid hY
  have H0 := Lib.hid h0
  have HI := Lib.hid (fun s w => index_one13 s 32 w)
  have hS0 : Hid (Mt.split 32 s = [] ++ Mt.split 32 s) := Lib.hid rfl
  have hL0 := Lib.hid hs
  obtain ⟨ws, hws⟩ : ∃ ws, ws = Mt.split 32 s := ⟨_, rfl⟩
  rw [← hws] at HY ⊢
  have Hws := Lib.hid hws
  obtain ⟨y0, y1, y2⟩ := HB0.out.cells
  clear hb hW hJ hJx hY h0 hs hws
  refine callsIn_of_wp Tryd.func60 rfl trivial ?_ rfl
  simp only [Tryd.ntmps60, List.size_toArray, List.length_cons, List.length_nil, Nat.reduceAdd, Nat.reduceSub, Array.replicate_succ, Array.replicate_zero, List.push_toArray, List.append_toArray, List.nil_append, List.cons_append]
  gi_wp2
  gi_loopw [7] (fun _ wr => ∃ (pre : List (List UInt8)) (L : List UInt8), Hid (ws = pre ++ Mt.split 32 L) ∧ Hid (BoxS b L wr) ∧ Hid (J pre wr) ∧ Hid (L.length ≤ 281474976710656)) (fun _ wr => leftOf b wr)
  case atStart => exact ⟨[], s, Lib.hid Hws.out, HB0, H0, hL0⟩
  case round =>
    obtain ⟨pre, L, HS, HB, HJs, HL⟩ := hrel
    clear H0 HB0 hL0 hS0 y0 y1 y2
    obtain ⟨y0, y1, y2⟩ := HB.out.cells
    have HIs := Lib.hid (fun w => HI.out (str L) w)
    rw [str_data] at HIs
    have hge := Lib.indexByte_ge L 32
    by_cases hx : Lib.indexByte L 32 = -1
    · have hfree : (32 : UInt8) ∉ L := fun hm => by
        obtain ⟨i, hi⟩ := List.getElem?_of_mem hm
        exact Lib.indexByte_none hx i hi
      have hsp : ws = pre ++ L :: [] := by rw [HS.out, Mt.split_plain hfree]
      have HE : Hid (ws = pre ++ [L]) := Lib.hid hsp
      obtain ⟨fn, tmps, assign, body, hy, hR⟩ := HY.out pre L [] wr hsp HJs.out
      rw [hx] at HIs
      clear hx hge hfree hsp HS HY HI
      gi_wp2
      refine ⟨trivial, fun h => Bool.noConfusion h, ?_⟩
      refine (callsIn_wide.2 (HIs.out _)).mono ?_
      rintro e w1 ⟨rfl, rfl⟩
      gi_wp2
      refine ⟨fun h => Bool.noConfusion h, hR.mono ?_⟩
      rintro e W3 (⟨rfl, hJ3, hk3⟩ | ⟨rfl, hJx3⟩)
      · have HJ3 := Lib.hid hJ3
        clear hJ3 hk3 hy hR
        gi_wp2
        go_end0
        exact ⟨⟨_, rfl⟩, .inl (by rw [HE.out]; exact HJ3.out)⟩
      · have HJ3 := Lib.hid hJx3
        clear hJx3 hy hR
        gi_wp2
        go_end0
        exact ⟨⟨_, rfl⟩, .inr ⟨_, HJ3.out⟩⟩
    · obtain ⟨o, ho⟩ : ∃ o : Nat, Lib.indexByte L 32 = o := ⟨(Lib.indexByte L 32).toNat, by omega⟩
      obtain ⟨g1, g2⟩ := Lib.indexByte_some ho
      obtain ⟨hlt, hx2⟩ := List.getElem?_eq_some_iff.1 g1
      have hL : L = L.take o ++ 32 :: L.drop (o + 1) := by
        have e := List.take_append_drop o L
        rw [List.drop_eq_getElem_cons hlt, hx2] at e
        exact e.symm
      have hfree : (32 : UInt8) ∉ L.take o := fun hm => by
        obtain ⟨i, hi⟩ := List.getElem?_of_mem hm
        rw [List.getElem?_take] at hi
        split at hi
        · rename_i hio
          exact g2 i hio hi
        · cases hi
      have hsp : ws = pre ++ L.take o :: Mt.split 32 (L.drop (o + 1)) := by
        rw [HS.out]
        congr 1
        conv => lhs; rw [hL]
        exact Mt.split_more _ hfree
      have HE : Hid (ws = (pre ++ [L.take o]) ++ Mt.split 32 (L.drop (o + 1))) := Lib.hid (by rw [hsp]; simp)
      obtain ⟨fn, tmps, assign, body, hy, hR⟩ := HY.out pre (L.take o) _ wr hsp HJs.out
      rw [ho] at HIs
      have hLs := HL.out
      have ex1 : (str L).extract 0 o = str (L.take o) := by rw [extract13 _ _ _ (by rw [str_size13]; omega), str_data, List.drop_zero, Nat.sub_zero]
      have ex2 : (str L).extract (o + 1) (str L).size = str (L.drop (o + 1)) := by rw [extract13 _ _ _ (Nat.le_refl _), str_data, str_size13, List.take_of_length_le (by rw [List.length_drop]; exact Nat.le_refl _)]
      have hsz : (str L).size = L.length := str_size13 L
      have c1 : (0 : Int) ≤ (o : Int) := by omega
      have c2 : (o : Int) ≤ ((str L).size : Int) := by rw [hsz]; omega
      have c3 : (0 : Int) ≤ (o : Int) + 1 := by omega
      have c4 : (o : Int) + 1 ≤ ((str L).size : Int) := by rw [hsz]; omega
      have c5 : ¬ (o : Int) < 0 := by omega
      have kw3 : IntKind.i64.wrap (o : Int) = (o : Int) := IntWalk.i64_in _ (by omega)
      have kw4 : wrap64 (o : Int) = (o : Int) := w64 (by omega) (by omega)
      have kw := wr_succ13 hlt hLs
      have kw2 := w64_succ13 hlt hLs
      have hD : Hid ((L.drop (o + 1)).length < L.length) := Lib.hid (by rw [List.length_drop]; omega)
      have HLr : Hid ((L.drop (o + 1)).length ≤ 281474976710656) := Lib.hid (by rw [List.length_drop]; omega)
      generalize L.take o = X at *
      generalize L.drop (o + 1) = M at *
      clear hx hge hfree hsp HS HY HI ho g1 g2 hx2 hL hlt hLs hsz
      gi_wp2
      refine ⟨trivial, fun h => Bool.noConfusion h, ?_⟩
      refine (callsIn_wide.2 (HIs.out _)).mono ?_
      rintro e w1 ⟨rfl, rfl⟩
      gi_wp2
      refine ⟨fun h => Bool.noConfusion h, hR.mono ?_⟩
      rintro e W3 (⟨rfl, hJ3, hk3⟩ | ⟨rfl, hJx3⟩)
      · have HB3 := Lib.hid (HB.out.kept hk3)
        obtain ⟨z0, z1, z2⟩ := HB3.out.cells
        have f0 := Lib.frozen_of_heap HB3.out.left 0
        have hbl := lt_of_obj HB3.out.left
        have HB4 := Lib.hid (HB3.out.set M)
        have HJ4 := Lib.hid (HJ.out _ _ _ hJ3 (grownBy_setCell' W3 b (.string (str M))))
        clear hJ3 hk3 hy hR y0 y1 y2
        gi_wp2
        go_roundw
        case rel => exact ⟨_, M, HE, HB4, HJ4, HLr⟩
        case measure => rw [HB4.out.size, HB.out.size]; exact hD.out
      · have HJ3 := Lib.hid hJx3
        clear hJx3 hy hR
        gi_wp2
        refine bodyPost_ret (results_none rfl _ _ _) rfl ?_
        exact ⟨⟨_, rfl⟩, .inr ⟨_, HJ3.out⟩⟩
end Go.Proofs.YtlgfmkmpopcciaaDoor
