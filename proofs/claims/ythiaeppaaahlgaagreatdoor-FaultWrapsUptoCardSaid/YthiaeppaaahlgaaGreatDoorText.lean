/-
  The text of a chain: what the program's Text returns.
-/
import Derived.Test.YthiaeppaaahlgaaGreatDoorIs
set_option linter.unusedVariables false
set_option linter.unusedSimpArgs false
namespace Go.Proofs.YthiaeppaaahlgaaGreatDoor
open Go.RowKit Go.Extern.Stop Go.Stop Go.Extern

def lns (ns : List ByteArray) : List (List UInt8) := ns.map fun s => s.data.toList
theorem chain_cons (c a : Int) (n : ByteArray) (r : List ByteArray) : Fm.chainText c a (lns (n :: r)) = n.data.toList ++ [58, 32] ++ Fm.chainText c a (lns r) := by
  simp [Fm.chainText, Fm.stagesText, lns, Fm.colon]
theorem chain_nil (c a : Int) : Fm.chainText c a (lns []) = Fm.faultText c a := by
  simp [Fm.chainText, Fm.stagesText, lns]

/-- the builder at b0 holds the bytes l -/
def Bld (B b0 : Nat) (l : List UInt8) (w : World) : Prop := Lib.IsBuilderF 152 5 B b0 (Lib.byteCells l) w
theorem bld_fresh (w : World) : Bld w.heap.size w.heap.size [] (w.alloc (.cells #[.pointer none, .slice none 0 0] 152)) := Lib.IsBuilderF.of (Lib.fresh_isBuilder 152 5 w)
def WrotePost (B b0 : Nat) (l : List UInt8) (w : World) (e : Ending) (w' : World) : Prop := (∃ k : Nat, e = .returned (.tuple #[.int .i64 k, .nilIface])) ∧ Bld B b0 l w' ∧ Below B w w'
theorem write_bld (B b0 : Nat) (l : List UInt8) (s : ByteArray) (w : World) (h : Bld B b0 l w) (hl : l.length + s.data.toList.length ≤ 140737488355328) (hB : B ≤ w.heap.size) :
    Calls Tryz.prog 88 #[.pointer (some ⟨b0, 0, none⟩), .string s] w (WrotePost B b0 (l ++ s.data.toList) w) := by
  refine (writeString B b0 (Lib.byteCells l) s w h (by rw [Lib.byteCells_length, Lib.size_eq]; exact hl) hB).mono ?_
  rintro e w' ⟨he, h1, h2, _⟩
  refine ⟨⟨_, he⟩, ?_, h2⟩
  unfold Bld
  rw [Lib.byteCells_append, ← Lib.strCells_eq]
  exact .inr h1
def StrPost (B : Nat) (l : List UInt8) (w : World) (e : Ending) (w' : World) : Prop := e = .returned (.string ⟨l.toArray⟩) ∧ Below B w w'
theorem string_bld (B b0 : Nat) (l : List UInt8) (w : World) (h : Bld B b0 l w) (hB : B ≤ w.heap.size) :
    Calls Tryz.prog 89 #[.pointer (some ⟨b0, 0, none⟩)] w (StrPost B l w) := by
  refine (Tryz.Builder_String_any_k B b0 l w h hB).mono ?_
  rintro e w' ⟨he, _, h2, _⟩
  exact ⟨he, h2⟩
theorem bld_kept {B b0 : Nat} {l : List UInt8} {w w' : World} (h : Bld B b0 l w) (hb : Below w.heap.size w w') : Bld B b0 l w' := by
  have hg : w.grownBy w' none := ⟨hb.os, hb.tape, hb.output, hb.size, fun i hi _ => hb.block i hi⟩
  have one : ∀ p, Lib.BuilderAtF 152 5 B b0 p (Lib.byteCells l) w → Lib.BuilderAtF 152 5 B b0 p (Lib.byteCells l) w' := by
    rintro p ⟨hB, v, hbk, hown, hne⟩
    have hlt : b0 < w.heap.size := by
      rcases Nat.lt_or_ge b0 w.heap.size with h' | h'
      · exact h'
      · rw [Array.getElem?_eq_none h'] at hbk; cases hbk
    refine ⟨hB, v, by rw [hb.block b0 hlt]; exact hbk, hown.kept hg ?_, hne⟩
    cases hv : v.ownBlock with
    | none => exact .inl rfl
    | some g => exact .inr (by simp)
  rcases h with h | h
  · exact .inl (one _ h)
  · exact .inr (one _ h)
theorem ret_strL {a : ByteArray} {l : List UInt8} (h : a.data.toList = l) : Ending.returned (.string a) = .returned (.string ⟨l.toArray⟩) := ret_str (by rw [h])

set_option maxHeartbeats 8000000 in
set_option maxRecDepth 100000 in
theorem stage_error (c a : Int) (hc : -9223372036854775808 ≤ c ∧ c ≤ 9223372036854775807) (ha : -9223372036854775808 ≤ a ∧ a ≤ 9223372036854775807) (n0 : ByteArray) (r0 : List ByteArray) (b1 : Nat) (w : World) (hE : Env w)
    (hv : ChainAt w c a (n0 :: r0) (.iface 53 (.pointer (some ⟨b1, 0, none⟩)))) (hl : (Fm.chainText c a (lns (n0 :: r0))).length ≤ 140737488355328) :
    Calls Tryz.prog 86 #[.pointer (some ⟨b1, 0, none⟩)] w (StrPost w.heap.size (Fm.chainText c a (lns (n0 :: r0))) w) := by
  have HV := Lib.hid hv
  have HL := Lib.hid hl
  clear hv hl
  have h1 := as_ss
  have h2 := as_fs
  have h3 := mErrF
  go_enter Tryz.func86, Tryz.ntmps86
  go_wp2
  go_loopg [0] r0.length (fun k p wr => ∃ (n : ByteArray) (r : List ByteArray) (b : Nat) (acc : List UInt8), r.length = k ∧ p = .pointer (some ⟨b, 0, none⟩) ∧ ChainAt w c a (n :: r) (.iface 53 (.pointer (some ⟨b, 0, none⟩))) ∧
    Bld w.heap.size w.heap.size acc wr ∧ Below w.heap.size w wr ∧ Fm.chainText c a (lns (n0 :: r0)) = acc ++ Fm.chainText c a (lns (n :: r)))
  case atStart => exact ⟨n0, r0, b1, [], rfl, rfl, HV.out, bld_fresh w, (Below.refl _ _).alloc (Nat.le_refl _) _, by simp⟩
  case round =>
    obtain ⟨n, r, b, acc, hk, rfl, hch, hbl, hb, htx⟩ := hrel
    obtain ⟨b', inner, e, hc0, hc1, hr⟩ := hch
    obtain rfl : b = b' := by injection e with _ e; injection e with e; injection e with e; injection e
    clear e
    have HK := Lib.hid hk
    have HB := Lib.hid hb
    have HBL := Lib.hid hbl
    have HT := Lib.hid htx
    have d0 := cell_below hb hc0
    have d1 := cell_below hb hc1
    have hsz := hb.size
    clear hk hb hbl htx
    have HLEN : Hid (acc.length + n.data.toList.length + 2 + (Fm.chainText c a (lns r)).length ≤ 140737488355328) := by
      have := HL.out
      rw [HT.out, chain_cons] at this
      simp only [List.length_append, List.length_cons, List.length_nil] at this
      show _ ≤ _
      omega
    cases r with
    | nil =>
      have e := hr
      unfold ChainAt at e
      subst e
      have hfl := Lib.hid (fault_len c a hc ha)
      go_wp2_with fail
      refine (write_bld w.heap.size w.heap.size acc n _ HBL.out (by have := HLEN.out; omega) hsz).mono ?_
      rintro e w1 ⟨⟨k1, rfl⟩, hbl1, hb1⟩
      have HBL1 := Lib.hid hbl1
      have HB1 := Lib.hid (HB.out.trans hb1)
      have hsz1 := HB1.out.size
      have d2 := cell_below HB1.out hc1
      clear hb1 hbl1 d0 d1
      go_wp2_with fail
      refine (write_bld w.heap.size w.heap.size _ _ _ HBL1.out (by rw [List.length_append]; show acc.length + n.data.toList.length + 2 ≤ _; have := HLEN.out; omega) hsz1).mono ?_
      rintro e w2 ⟨⟨k2, rfl⟩, hbl2, hb2⟩
      have HBL2 := Lib.hid hbl2
      have HB2 := Lib.hid (HB1.out.trans hb2)
      have hsz2 := HB2.out.size
      have d3 := cell_below HB2.out hc1
      clear hb2 hbl2 d2
      go_wp2_with fail
      refine (fail_error c a hc ha _ (hE.mono HB2.out)).mono ?_
      rintro e w3 ⟨rfl, hb3⟩
      have HBL3 : Hid (Bld w.heap.size w.heap.size (acc ++ n.data.toList ++ [58, 32]) w3) := Lib.hid (bld_kept HBL2.out hb3)
      have HB3 := Lib.hid (HB2.out.trans (hb3.mono hsz2))
      have hsz3 := HB3.out.size
      clear hb3 d3
      go_wp2_with fail
      refine (write_bld w.heap.size w.heap.size _ _ _ HBL3.out (by rw [List.length_append, List.length_append]; show acc.length + n.data.toList.length + 2 + (Fm.faultText c a).length ≤ _; have := HLEN.out; rw [chain_nil] at this; omega) hsz3).mono ?_
      rintro e w4 ⟨⟨k4, rfl⟩, hbl4, hb4⟩
      have HBL4 := Lib.hid hbl4
      have HB4 := Lib.hid (HB3.out.trans hb4)
      have hsz4 := HB4.out.size
      clear hb4 hbl4
      go_wp2_with fail
      refine (string_bld w.heap.size w.heap.size _ _ HBL4.out hsz4).mono ?_
      rintro e w5 ⟨rfl, hb5⟩
      have HB5 := Lib.hid (HB4.out.trans hb5)
      clear hb5
      go_wp2
      go_ret
      refine ⟨ret_strL ?_, HB5.out⟩
      rw [HT.out, chain_cons, chain_nil]
      simp
    | cons n' r' =>
      have hr0 := hr
      obtain ⟨b2, inner2, e, hc2, hc3, hr2⟩ := hr
      subst e
      go_wp2_with fail
      refine (write_bld w.heap.size w.heap.size acc n _ HBL.out (by have := HLEN.out; omega) hsz).mono ?_
      rintro e w1 ⟨⟨k1, rfl⟩, hbl1, hb1⟩
      have HBL1 := Lib.hid hbl1
      have HB1 := Lib.hid (HB.out.trans hb1)
      have hsz1 := HB1.out.size
      have d2 := cell_below HB1.out hc1
      clear hb1 hbl1 d0 d1
      go_wp2_with fail
      refine (write_bld w.heap.size w.heap.size _ _ _ HBL1.out (by rw [List.length_append]; show acc.length + n.data.toList.length + 2 ≤ _; have := HLEN.out; omega) hsz1).mono ?_
      rintro e w2 ⟨⟨k2, rfl⟩, hbl2, hb2⟩
      have HBL2 := Lib.hid hbl2
      have HB2 := Lib.hid (HB1.out.trans hb2)
      have hsz2 := HB2.out.size
      have d3 := cell_below HB2.out hc1
      clear hb2 hbl2 d2
      go_wp2
      go_roundg r'.length
      case measure => have := HK.out; simp at this; omega
      case rel =>
        refine ⟨n', r', b2, acc ++ n.data.toList ++ [58, 32], rfl, rfl, hr0, HBL2.out, HB2.out, ?_⟩
        rw [HT.out, chain_cons c a n (n' :: r')]
        simp

set_option maxHeartbeats 4000000 in
set_option maxRecDepth 100000 in
/-- Text is the text of the chain. -/
theorem text_any (c a : Int) (hc : -9223372036854775808 ≤ c ∧ c ≤ 9223372036854775807) (ha : -9223372036854775808 ≤ a ∧ a ≤ 9223372036854775807) (ns : List ByteArray) (v : Value) (w : World) (hE : Env w) (hv : StrsAt w v ns)
    (hl : (Fm.chainText c a (lns ns)).length ≤ 140737488355328) :
    Calls Tryz.prog 9 #[.agg #[.int .i64 c, .int .i64 a], v] w (StrPost w.heap.size (Fm.chainText c a (lns ns)) w) := by
  have HV := Lib.hid hv
  have HL := Lib.hid hl
  have hb0 : Hid (Below w.heap.size w (w.alloc (.cells #[.int .i64 c, .int .i64 a] 24))) := (Below.refl _ _).alloc (Nat.le_refl _) _
  clear hv hl
  have h3 := mErrF
  have h4 := mErrS
  go_enter Tryz.func9, Tryz.ntmps9
  go_wp2_with fail
  refine (wrap_any c a v ns _ (HV.out.mono hb0.out)).mono ?_
  rintro e w1 ⟨v1, rfl, hch, hb1⟩
  have HB1 := Lib.hid (hb0.out.trans (hb1.mono (by simp)))
  clear hb1
  cases ns with
  | nil =>
    have e := hch
    unfold ChainAt at e
    subst e
    clear hch
    go_wp2_with fail
    refine (fail_error c a hc ha _ (hE.mono HB1.out)).mono ?_
    rintro e w2 ⟨rfl, hb2⟩
    have HB2 := Lib.hid (HB1.out.trans (hb2.mono HB1.out.size))
    clear hb2
    go_wp2
    go_ret
    refine ⟨ret_strL ?_, HB2.out⟩
    rw [chain_nil]
  | cons n r =>
    have hch2 := hch
    obtain ⟨b, inner, e, _, _, _⟩ := hch
    subst e
    have HC := Lib.hid hch2
    clear hch2
    go_wp2_with fail
    refine (stage_error c a hc ha n r b _ (hE.mono HB1.out) HC.out HL.out).mono ?_
    rintro e w2 ⟨rfl, hb2⟩
    have HB2 := Lib.hid (HB1.out.trans (hb2.mono HB1.out.size))
    clear hb2
    go_wp2
    go_ret
    exact ⟨rfl, HB2.out⟩
end Go.Proofs.YthiaeppaaahlgaaGreatDoor
