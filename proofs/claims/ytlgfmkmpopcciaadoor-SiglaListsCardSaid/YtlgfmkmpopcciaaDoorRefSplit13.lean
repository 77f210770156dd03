/-
  The reference's Split: a text at each place of a byte.
-/
import Derived.Test.YtlgfmkmpopcciaaDoorRefCut13
import Derived.Deep.AppendLies
set_option linter.unusedVariables false
set_option linter.unusedSimpArgs false
namespace Go.Proofs.YtlgfmkmpopcciaaDoor
open Go.RowKit

/-- v is a slice of the texts ns -/
def StrsAt (w : World) (v : Value) (ns : List (List UInt8)) : Prop :=
  (∃ a cap, v = .slice a ns.length cap ∧ ns.length ≤ cap) ∧ ns.length ≤ maxLen ∧ (0 < ns.length → ∃ b o cap, v = .slice (some ⟨b, o, none⟩) ns.length cap ∧ ∀ i s, ns[i]? = some s → w.cell? ⟨b, o + i, none⟩ = some (.string (str s)))
theorem StrsAt.mono {w w' : World} {v : Value} {ns : List (List UInt8)} (h : StrsAt w v ns) (hb : Below w.heap.size w w') : StrsAt w' v ns := by
  obtain ⟨h1, h2, h3⟩ := h
  refine ⟨h1, h2, fun hp => ?_⟩
  obtain ⟨b, o, cap, e, hc⟩ := h3 hp
  exact ⟨b, o, cap, e, fun i s hs => cell_below hb (hc i s hs)⟩
def OwnS (B : Nat) (v : Value) (ns : List (List UInt8)) (w : World) : Prop := w.ownsRow B 9 1 v ns.length (ns.map fun s => Value.string (str s))
theorem ownS_made (w : World) : OwnS w.heap.size (.slice (some ⟨w.heap.size, 0, none⟩) 0 0) [] (w.alloc (.cells #[] 9)) := World.ownsRow_made w #[] 0 (Nat.le_refl _) (by unfold maxLen; omega) rfl
theorem OwnS.at {B : Nat} {v : Value} {ns : List (List UInt8)} {w : World} (h : OwnS B v ns w) : StrsAt w v ns := by
  have h0 := h
  rcases h.2 with ⟨rfl, hn⟩ | ⟨g, cap, cur, rfl, _, hg, hcap, hmax, hsz, htake⟩
  · refine ⟨⟨none, 0, by rw [hn], by omega⟩, by omega, fun hp => by omega⟩
  · refine ⟨⟨_, _, rfl, hcap⟩, by omega, fun hp => ⟨g, 0, cap, rfl, fun i s hs => ?_⟩⟩
    have c1 := World.ownsRow.cells h0 (g := g) rfl i (.string (str s)) (by simp [hs])
    rw [add_none] at c1
    exact c1
theorem OwnS.snoc {B : Nat} {v : Value} {ns : List (List UInt8)} {s : List UInt8} {w : World} (h : w.ownsRow B 9 1 v (ns.length + 1) ((ns.map fun s => Value.string (str s)) ++ [.string (str s)])) : OwnS B v (ns ++ [s]) w := by
  unfold OwnS
  rw [List.length_append, List.map_append]
  exact h
theorem one_string (w : World) (x : ByteArray) : ∀ j u, ([.string x] : List Value)[j]? = some u → (w.alloc (.cells #[.string x] 9)).cell? ((⟨w.heap.size, 0, none⟩ : Addr).add j) = some u := by
  intro j u hj
  rw [add_none]
  match j, hj with
  | 0, hj => simp at hj; subst hj; simp
  | j + 1, hj => simp at hj
/-- where it stands: the pieces that are done, the one that has begun -/
structure SplitTo (c : UInt8) (l : List UInt8) (f i : Nat) (D : List (List UInt8)) : Prop where
  le : f ≤ i
  all : Mt.split c l = D ++ Mt.split c (l.drop f)
  free : c ∉ (l.drop f).take (i - f)
  len : D.length ≤ f
theorem split_at_byte {c : UInt8} {l : List UInt8} {f i : Nat} {D : List (List UInt8)} (h : SplitTo c l f i D) (hi : l[i]? = some c) : SplitTo c l (i + 1) (i + 1) (D ++ [(l.drop f).take (i - f)]) := by
  have hle := h.le
  have hl : i < l.length := (List.getElem?_eq_some_iff.1 hi).1
  have e : l.drop f = (l.drop f).take (i - f) ++ c :: l.drop (i + 1) := by
    have h1 := List.take_append_drop (i - f) (l.drop f)
    rw [List.drop_drop, show f + (i - f) = i by omega, List.drop_eq_getElem_cons hl] at h1
    have h2 : l[i] = c := by
      rw [List.getElem?_eq_getElem hl] at hi
      exact Option.some.inj hi
    rw [h2] at h1
    exact h1.symm
  refine ⟨Nat.le_refl _, ?_, by simp, by rw [List.length_append, List.length_singleton]; have := h.len; omega⟩
  rw [h.all]
  conv => lhs; arg 2; rw [e]
  rw [Mt.split_more _ h.free, List.append_assoc]
  rfl
theorem split_on_byte {c x : UInt8} {l : List UInt8} {f i : Nat} {D : List (List UInt8)} (h : SplitTo c l f i D) (hi : l[i]? = some x) (hx : x ≠ c) : SplitTo c l f (i + 1) D := by
  have hle := h.le
  have hl : i < l.length := (List.getElem?_eq_some_iff.1 hi).1
  refine ⟨by omega, h.all, ?_, h.len⟩
  have h1 : (l.drop f)[i - f]? = some x := by rw [List.getElem?_drop, show f + (i - f) = i by omega]; exact hi
  rw [show i + 1 - f = (i - f) + 1 by omega, List.take_add_one, h1]
  intro hm
  rcases List.mem_append.1 hm with hm | hm
  · exact h.free hm
  · exact hx (List.mem_singleton.1 hm).symm
theorem split_done {c : UInt8} {l : List UInt8} {f i : Nat} {D : List (List UInt8)} (h : SplitTo c l f i D) (hi : l.length ≤ i) : Mt.split c l = D ++ [l.drop f] := by
  have h1 : (l.drop f).take (i - f) = l.drop f := List.take_of_length_le (by rw [List.length_drop]; omega)
  have h2 := h.free
  rw [h1] at h2
  rw [h.all, Mt.split_plain h2]

set_option maxHeartbeats 4000000 in
set_option maxRecDepth 100000 in
theorem split_any (s : ByteArray) (hs : s.size ≤ 4294967296) (c : UInt8) (w : World) : Calls Tryd.prog 29 #[.string s, .int .u8 (c.toNat : Int)] w (fun e w' => ∃ v, e = .returned v ∧ OwnS w.heap.size v (Mt.split c s.data.toList) w' ∧ Below w.heap.size w w') := by
  obtain ⟨i0, hi, hz0, hz1, hz2⟩ := info_parts infoTx13
  have hn : s.size ≤ 9223372036854775807 := by omega
  have HO0 := Lib.hid (ownS_made w)
  have HB0 := Lib.hid (below_alloc w (.cells #[] 9))
  obtain ⟨L, hL⟩ : ∃ L, L = s.data.toList := ⟨_, rfl⟩
  have HLl : Hid (L.length = s.size) := Lib.hid (by rw [hL, size13])
  rw [← hL]
  have HL := Lib.hid hL
  clear hL
  go_enter Tryd.func29, Tryd.ntmps29
  go_wp2_with fail
  go_loopw [5, 6, 7] (fun ov fv iv wr => ∃ (i f : Nat) (D : List (List UInt8)), i ≤ s.size ∧ f ≤ i ∧ iv = .int .i64 i ∧ fv = .int .i64 f ∧ D.length ≤ f ∧ Hid (SplitTo c L f i D) ∧ Hid (OwnS w.heap.size ov D wr) ∧ Hid (Below w.heap.size w wr)) (fun _ _ iv _ => s.size - (intOf iv).toNat)
  case atStart => exact ⟨0, 0, [], Nat.zero_le _, Nat.le_refl _, rfl, rfl, Nat.le_refl _, Lib.hid ⟨Nat.le_refl _, by simp, by simp, by simp⟩, HO0, HB0⟩
  case round =>
    obtain ⟨i, f, D, hi', hfi, rfl, rfl, hDf, HS, HO, HB⟩ := hrel
    clear HO0 HB0
    by_cases hlt : i < s.size
    · have hb := byte13 s i hlt
      rw [← HL.out] at hb
      have k0 : (0 : Int) ≤ (i : Int) := by omega
      have kl : (i : Int) < (s.size : Int) := by omega
      have f0 : (0 : Int) ≤ (f : Int) := by omega
      have f1 : (f : Int) ≤ (i : Int) := by omega
      have f2 : (i : Int) ≤ (s.size : Int) := by omega
      by_cases hx : s[i] = c
      · have hbq : ((s[i].toNat : Int) == (c.toNat : Int)) = true := by rw [hx]; simp
        rw [hx] at hb
        have HN := Lib.hid (split_at_byte HS.out hb)
        have HE : Hid (s.extract f i = str ((L.drop f).take (i - f))) := Lib.hid (by rw [HL.out]; exact extract13 s f i (by omega))
        have hown := World.ownsRow.alloc HO.out (.cells #[.string (s.extract f i)] 9)
        have hnews := one_string wr (s.extract f i)
        have hval := World.ownsRow.lt HO.out
        have hsz := HB.out.size
        clear hb hx
        go_wp2_with (at_builtin; refine wpList_append_lies _ rfl _ _ 34 rfl w.heap.size 9 i0 _ 1 16 Tryd.underlying34 hi hz0 hz1 hz2 rfl (by decide) _ _ _ rfl hown ⟨wr.heap.size, 0, none⟩ 1 1 [.string (s.extract f i)] rfl rfl hnews (fun z hz => by simp at hz; subst hz; rfl) (by omega) (by unfold maxLen; omega) (by omega) (by rw [World.size_alloc]; omega) _ rfl ?_; intro g9 cap9 w9 hown9 hgrow9 hat9 hlt9)
        go_roundw
        case rel =>
          rw [HE.out] at hown9
          refine ⟨i + 1, i + 1, _, by omega, Nat.le_refl _, by go_num, by go_num, by rw [List.length_append, List.length_singleton]; omega, HN, Lib.hid (OwnS.snoc hown9), Lib.hid ((HB.out.alloc hsz _).grown hgrow9 (by rw [World.size_alloc]; omega) (fun q hq => (hval q hq).1))⟩
        case measure => simp [intOf]; omega
      · have hbq : ((s[i].toNat : Int) == (c.toNat : Int)) = false := by
          rw [beq_eq_false_iff_ne]
          intro e
          exact hx (UInt8.toNat_inj.1 (by omega))
        have HN := Lib.hid (split_on_byte HS.out hb hx)
        clear hb hx
        go_wp2
        go_roundw
        case rel => exact ⟨i + 1, f, D, by omega, by omega, by go_num, rfl, hDf, HN, HO, HB⟩
        case measure => simp [intOf]; omega
    · have HE : Hid (s.extract f s.size = str (L.drop f)) := Lib.hid (by rw [HL.out, extract13 s f s.size (Nat.le_refl _), size13, List.take_of_length_le (by rw [List.length_drop]; omega)])
      have HN := Lib.hid (split_done HS.out (by rw [HLl.out]; omega))
      have f0 : (0 : Int) ≤ (f : Int) := by omega
      have f1 : (f : Int) ≤ (s.size : Int) := by omega
      have hown := World.ownsRow.alloc HO.out (.cells #[.string (s.extract f s.size)] 9)
      have hnews := one_string wr (s.extract f s.size)
      have hval := World.ownsRow.lt HO.out
      have hsz := HB.out.size
      go_wp2_with (at_builtin; refine wpList_append_lies _ rfl _ _ 34 rfl w.heap.size 9 i0 _ 1 16 Tryd.underlying34 hi hz0 hz1 hz2 rfl (by decide) _ _ _ rfl hown ⟨wr.heap.size, 0, none⟩ 1 1 [.string (s.extract f s.size)] rfl rfl hnews (fun z hz => by simp at hz; subst hz; rfl) (by omega) (by unfold maxLen; omega) (by omega) (by rw [World.size_alloc]; omega) _ rfl ?_; intro g9 cap9 w9 hown9 hgrow9 hat9 hlt9)
      go_ret
      rw [HE.out] at hown9
      exact ⟨_, rfl, by rw [HN.out]; exact OwnS.snoc hown9, (HB.out.alloc hsz _).grown hgrow9 (by rw [World.size_alloc]; omega) (fun q hq => (hval q hq).1)⟩
theorem flat_tx13 : ∀ l : List (List UInt8), l.flatMap txC = l.map fun s => Value.string (str s)
  | [] => rfl
  | x :: r => by rw [List.flatMap_cons, flat_tx13 r]; rfl
theorem OwnS.tx {B : Nat} {v : Value} {l : List (List UInt8)} {w : World} (h : OwnS B v l w) : OwnTx B v l w := by
  unfold OwnTx OwnR
  rw [flat_tx13]
  exact h
/-- the reference's Split -/
theorem refSplit_any (s : List UInt8) (hs : s.length ≤ 4294967296) (c : UInt8) (w : World) : Calls Tryd.prog 29 #[.string (str s), .int .u8 (c.toNat : Int)] w (fun e w' => ∃ v, e = .returned v ∧ OwnTx w.heap.size v (Mt.split c s) w' ∧ Below w.heap.size w w') := by
  refine (split_any (str s) (by rw [str_size13]; exact hs) c w).mono ?_
  rintro e w' ⟨v, he, ho, hb⟩
  rw [str_data] at ho
  exact ⟨v, he, ho.tx, hb⟩
end Go.Proofs.YtlgfmkmpopcciaaDoor
