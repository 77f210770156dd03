/-
  Reading a chain: what Read of the program returns.
-/
import Derived.Test.YthiaeppaaahlgaaGreatDoorRead
set_option linter.unusedVariables false
set_option linter.unusedSimpArgs false
namespace Go.Proofs.YthiaeppaaahlgaaGreatDoor
open Go.RowKit Go.Extern.Stop Go.Stop Go.Extern

theorem infoStr : (Tryz.prog.info? 9).map (fun i => (i.zero, i.size, i.bytes)) = some (some (.string ByteArray.empty), 1, 16) := by kernel_rfl
/-- v is a slice of the call's own, of the strings ns -/
def Own (B : Nat) (v : Value) (ns : List ByteArray) (w : World) : Prop := w.ownsRow B 9 1 v ns.length (ns.map Value.string)
theorem Own.kept {B : Nat} {v : Value} {ns : List ByteArray} {w w' : World} (h : Own B v ns w) (hb : Below w.heap.size w w') : Own B v ns w' :=
  World.ownsRow.kept h (row := none) ⟨hb.os, hb.tape, hb.output, hb.size, fun i hi _ => hb.block i hi⟩ (by cases v.ownBlock <;> simp)
theorem Own.strs {B : Nat} {v : Value} {ns : List ByteArray} {w : World} (h : Own B v ns w) : StrsAt w v ns := by
  have h0 := h
  rcases h.2 with ⟨rfl, hn⟩ | ⟨g, cap, cur, rfl, _, hg, hcap, hmax, hsz, htake⟩
  · refine ⟨⟨none, 0, by rw [hn]⟩, by omega, fun hp => by omega⟩
  · refine ⟨⟨_, _, rfl⟩, by omega, fun hp => ⟨g, 0, cap, rfl, fun i s hs => ?_⟩⟩
    have hc := World.ownsRow.cells h0 (g := g) rfl i (.string s) (by rw [List.getElem?_map, hs]; rfl)
    rw [Go.WideShapes.add_plain] at hc
    exact hc
theorem own_nil (w : World) (B : Nat) : Own B (.slice none 0 0) [] w := World.ownsRow_nil _ _ _ _

def readVal (v : Value) : Option (Int × Int × List (List UInt8)) → Value
  | some (c, a, _) => .tuple #[.agg #[.int .i64 c, .int .i64 a], v, .bool true]
  | none => .tuple #[.agg #[.int .i64 0, .int .i64 0], .slice none 0 0, .bool false]
/-- what Read answers: the fault, a slice of the stages, and whether it is one -/
def ReadPost (o : Option (Int × Int × List (List UInt8))) (w : World) (e : Ending) (w' : World) : Prop :=
  ∃ v ns, e = .returned (readVal v o) ∧ (∀ c a ms, o = some (c, a, ms) → StrsAt w' v ns ∧ lns ns = ms) ∧ Below w.heap.size w w'
theorem readFault_no (s : ByteArray) (h : Fm.readFault s.data.toList = none) (hs : s.size < 4294967281) (w : World) (hE : Env w) :
    Calls Tryz.prog 18 #[.string s] w (ValPost (.tuple #[.agg #[.int .i64 0, .int .i64 0], .bool false]) w) := by
  have := readFault_any s hs w hE
  rw [h] at this
  exact this
theorem readFault_yes (s : ByteArray) (c a : Int) (h : Fm.readFault s.data.toList = some (c, a)) (hs : s.size < 4294967281) (w : World) (hE : Env w) :
    Calls Tryz.prog 18 #[.string s] w (ValPost (.tuple #[.agg #[.int .i64 c, .int .i64 a], .bool true]) w) := by
  have := readFault_any s hs w hE
  rw [h] at this
  exact this
theorem validName_at (x : List UInt8) (b : Bool) (h : Fm.okName x = b) (hs : x.length ≤ 9223372036854775807) (w : World) :
    Calls Tryz.prog 17 #[.string ⟨x.toArray⟩] w fun e w' => e = .returned (.bool b) ∧ w' = w := by
  have := validName_any ⟨x.toArray⟩ (by rw [arr_size]; exact hs) w
  rw [arr_toList, h] at this
  exact this
theorem chain_next {fuel : Nat} {dn : List ByteArray} {l x y : List UInt8} (hf : fuel = l.length) (hc : Lib.cut l Fm.colon = (x, y, true)) (hn : Fm.okName x = true) :
    Fm.readChain (fuel + 1) (lns dn) l = Fm.readChain (y.length + 1) (lns (dn ++ [⟨x.toArray⟩])) y := by
  conv => lhs; unfold Fm.readChain
  rw [hc]
  simp only [hn, if_true]
  have := Fm.cut_shorter (by decide) hc
  rw [show lns (dn ++ [⟨x.toArray⟩]) = lns dn ++ [x] by simp [lns]]
  exact Fm.readChain_fuel _ _ _ _ (by omega) (by omega)
theorem top_size {w w1 : World} {o : Obj} (h : Below (w.heap.size + 1) (w.alloc o) w1) : w.heap.size + 1 ≤ w1.heap.size := by have := h.size; simpa using this
theorem res_cells' {w w1 : World} {x y : Value} {T : TypeId} (h : Below (w.heap.size + 1) (w.alloc (.cells #[x, y] T)) w1) (o : Obj) :
    (w1.alloc o).cell? ⟨w.heap.size, 0, none⟩ = some x ∧ (w1.alloc o).cell? ⟨w.heap.size, 1, none⟩ = some y ∧ (w1.alloc o).frozen? ⟨w.heap.size, 0, none⟩ = false ∧ (w1.alloc o).frozen? ⟨w.heap.size, 1, none⟩ = false :=
  res_cells (w := w) (T := T) (by have := h.alloc (top_size h) o; simpa using this)
theorem res_below' {w w1 : World} {x y u v : Value} {T : TypeId} (h : Below (w.heap.size + 1) (w.alloc (.cells #[x, y] T)) w1) (o : Obj) :
    Below w.heap.size w (((w1.alloc o).setCell ⟨w.heap.size, 0, none⟩ u).setCell ⟨w.heap.size, 1, none⟩ v) :=
  res_below (w := w) (T := T) (x := x) (y := y) (by have := h.alloc (top_size h) o; simpa using this)
theorem res_cells0 {w w1 : World} {x y : Value} {T : TypeId} (h : Below (w.heap.size + 1) (w.alloc (.cells #[x, y] T)) w1) :
    w1.cell? ⟨w.heap.size, 0, none⟩ = some x ∧ w1.cell? ⟨w.heap.size, 1, none⟩ = some y ∧ w1.frozen? ⟨w.heap.size, 0, none⟩ = false ∧ w1.frozen? ⟨w.heap.size, 1, none⟩ = false :=
  res_cells (w := w) (T := T) (by simpa using h)
theorem res_below0 {w w1 : World} {x y u v : Value} {T : TypeId} (h : Below (w.heap.size + 1) (w.alloc (.cells #[x, y] T)) w1) :
    Below w.heap.size w ((w1.setCell ⟨w.heap.size, 0, none⟩ u).setCell ⟨w.heap.size, 1, none⟩ v) :=
  res_below (w := w) (T := T) (x := x) (y := y) (by simpa using h)
theorem Own.last {w w1 : World} {v : Value} {ns : List ByteArray} (h : Own (w.heap.size + 1) v ns w1) (o : Obj) (x y : Value) :
    Own (w.heap.size + 1) v ns (((w1.alloc o).setCell ⟨w.heap.size, 0, none⟩ x).setCell ⟨w.heap.size, 1, none⟩ y) :=
  ownsRow_setCell_below (ownsRow_setCell_below (World.ownsRow.alloc h o) (Nat.lt_succ_self _) _) (Nat.lt_succ_self _) _
theorem chain_bad {fuel : Nat} {dn : List ByteArray} {l x y : List UInt8} (hc : Lib.cut l Fm.colon = (x, y, true)) (hn : Fm.okName x = false) : Fm.readChain (fuel + 1) (lns dn) l = none := by
  conv => lhs; unfold Fm.readChain
  rw [hc]
  simp [hn]
theorem chain_no {fuel : Nat} {dn : List ByteArray} {l x y : List UInt8} (hc : Lib.cut l Fm.colon = (x, y, false)) (hf : Fm.readFault l = none) : Fm.readChain (fuel + 1) (lns dn) l = none := by
  conv => lhs; unfold Fm.readChain
  rw [hc]
  simp only [hf]
theorem chain_yes {fuel : Nat} {dn : List ByteArray} {l x y : List UInt8} {c a : Int} (hc : Lib.cut l Fm.colon = (x, y, false)) (hf : Fm.readFault l = some (c, a)) : Fm.readChain (fuel + 1) (lns dn) l = some (c, a, lns dn) := by
  conv => lhs; unfold Fm.readChain
  rw [hc]
  simp only [hf]

set_option maxHeartbeats 8000000 in
set_option maxRecDepth 100000 in
theorem read_any (s : ByteArray) (hs : s.size < 4294967281) (w : World) (hE : Env w) :
    Calls Tryz.prog 10 #[.string s] w (ReadPost (Fm.readText s.data.toList) w) := by
  obtain ⟨i0, hi, hz0, hz1, hz2⟩ := info_parts infoStr
  have hb0 : Hid (Below w.heap.size w (w.alloc (.cells #[.int .i64 0, .int .i64 0] 24))) := (Below.refl _ _).alloc (Nat.le_refl _) _
  have HE0 := Lib.hid (hE.mono hb0.out)
  go_enter Tryz.func10, Tryz.ntmps10
  go_wp2
  go_loopg [0, 5] s.size (fun k p v wr => ∃ (u : ByteArray) (dn : List ByteArray), u.size = k ∧ p = .string u ∧ Own (w.heap.size + 1) v dn wr ∧ Below (w.heap.size + 1) (w.alloc (.cells #[.int .i64 0, .int .i64 0] 24)) wr ∧
    dn.length + u.size ≤ s.size ∧ Fm.readText s.data.toList = Fm.readChain (u.size + 1) (lns dn) u.data.toList)
  case atStart => exact ⟨s, [], rfl, rfl, own_nil _ _, Below.refl _ _, by simp, by rw [Lib.size_eq]; rfl⟩
  case round =>
    obtain ⟨u, dn, hk, rfl, hown, hb, hlen, htx⟩ := hrel
    obtain ⟨x, y, b, hc⟩ : ∃ x y b, Lib.cut u.data.toList Fm.colon = (x, y, b) := ⟨_, _, _, rfl⟩
    have hxy : x.length ≤ u.size ∧ y.length ≤ u.size := by have := cut_len hc; rw [Lib.size_eq]; exact this
    obtain ⟨ao, cap, rfl⟩ := hown.strs.1
    have hus := Lib.size_eq u
    have HK := Lib.hid hk
    have HB := Lib.hid hb
    have HO := Lib.hid hown
    have HT := Lib.hid htx
    have HC : Hid (Lib.cut u.data.toList (⟨#[58, 32]⟩ : ByteArray).data.toList = (x, y, b)) := hc
    have HC2 := Lib.hid hc
    have HE := Lib.hid (HE0.out.mono (by simpa using hb))
    have hsz : w.heap.size + 1 ≤ wr.heap.size := by have := hb.size; simpa using this
    have HUS := Lib.hid hus
    clear hk hb hown htx hc hus
    cases b with
    | false =>
      cases hf : Fm.readFault u.data.toList with
      | none =>
        have HN : Hid (Fm.readText s.data.toList = none) := by show _ = _; rw [HT.out]; exact chain_no HC2.out hf
        have HF := Lib.hid hf
        clear hf
        go_wp2_with fail
        refine (cut_at _ _ x y false HC.out (by omega) _ HE.out).mono ?_
        rintro e w1 ⟨rfl, hb1⟩
        have HB1 := Lib.hid (HB.out.trans (hb1.mono hsz))
        have HE1 := Lib.hid (HE.out.mono hb1)
        have HO1 := Lib.hid (HO.out.kept hb1)
        have hsz1 := top_size HB1.out
        clear hb1
        go_wp2_with fail
        refine (readFault_no _ HF.out (by omega) _ HE1.out).mono ?_
        rintro e w2 ⟨rfl, hb2⟩
        have HB2 := Lib.hid (HB1.out.trans (hb2.mono hsz1))
        clear hb2
        obtain ⟨q0, q1, q2, q3⟩ := res_cells' HB2.out (.cells #[.int .i64 0, .int .i64 0] 24)
        go_wp2
        exact bodyPost_ret (v := .tuple #[.agg #[.int .i64 0, .int .i64 0], .slice none 0 0, .bool false]) (by simp [results, Tryz.results10, go_sem, q0, q1, q2, q3]) rfl ⟨.slice none 0 0, [], by rw [HN.out]; rfl, (fun c a ms h => by rw [HN.out] at h; cases h), res_below' HB2.out _⟩
      | some ca =>
        obtain ⟨c, a⟩ := ca
        have HN : Hid (Fm.readText s.data.toList = some (c, a, lns dn)) := by show _ = _; rw [HT.out]; exact chain_yes HC2.out hf
        have HF := Lib.hid hf
        clear hf
        go_wp2_with fail
        refine (cut_at _ _ x y false HC.out (by omega) _ HE.out).mono ?_
        rintro e w1 ⟨rfl, hb1⟩
        have HB1 := Lib.hid (HB.out.trans (hb1.mono hsz))
        have HE1 := Lib.hid (HE.out.mono hb1)
        have HO1 := Lib.hid (HO.out.kept hb1)
        have hsz1 := top_size HB1.out
        clear hb1
        go_wp2_with fail
        refine (readFault_yes _ c a HF.out (by omega) _ HE1.out).mono ?_
        rintro e w2 ⟨rfl, hb2⟩
        have HB2 := Lib.hid (HB1.out.trans (hb2.mono hsz1))
        have HO2 := Lib.hid (HO1.out.kept hb2)
        clear hb2
        obtain ⟨q0, q1, q2, q3⟩ := res_cells' HB2.out (.cells #[.int .i64 c, .int .i64 a] 24)
        go_wp2
        exact bodyPost_ret (v := .tuple #[.agg #[.int .i64 c, .int .i64 a], .slice ao dn.length cap, .bool true]) (by simp [results, Tryz.results10, go_sem, q0, q1, q2, q3]) rfl ⟨.slice ao dn.length cap, dn, by rw [HN.out]; rfl, (fun c' a' ms h => by
          rw [HN.out] at h
          simp only [Option.some.injEq, Prod.mk.injEq] at h
          exact ⟨(HO2.out.last _ _ _).strs, h.2.2⟩), res_below' HB2.out _⟩
    | true =>
      cases hv : Fm.okName x with
      | false =>
        have HN : Hid (Fm.readText s.data.toList = none) := by show _ = _; rw [HT.out]; exact chain_bad HC2.out hv
        have HV := Lib.hid hv
        clear hv
        go_wp2_with fail
        refine (cut_at _ _ x y true HC.out (by omega) _ HE.out).mono ?_
        rintro e w1 ⟨rfl, hb1⟩
        have HB1 := Lib.hid (HB.out.trans (hb1.mono hsz))
        have HE1 := Lib.hid (HE.out.mono hb1)
        have HO1 := Lib.hid (HO.out.kept hb1)
        have hsz1 := top_size HB1.out
        clear hb1
        go_wp2_with fail
        refine (validName_at x false HV.out (by omega) _).mono ?_
        rintro e w2 ⟨rfl, rfl⟩
        obtain ⟨q0, q1, q2, q3⟩ := res_cells0 HB1.out
        go_wp2
        exact bodyPost_ret (v := .tuple #[.agg #[.int .i64 0, .int .i64 0], .slice none 0 0, .bool false]) (by simp [results, Tryz.results10, go_sem, q0, q1, q2, q3]) rfl ⟨.slice none 0 0, [], by rw [HN.out]; rfl, (fun c a ms h => by rw [HN.out] at h; cases h), res_below0 HB1.out⟩
      | true =>
        have HN := Lib.hid (chain_next (dn := dn) HUS.out HC2.out hv)
        have HV := Lib.hid hv
        have hsh : y.length < u.size := by have := Fm.cut_shorter (by decide) HC2.out; rw [Lib.size_eq]; exact this
        clear hv
        go_wp2_with fail
        refine (cut_at _ _ x y true HC.out (by omega) _ HE.out).mono ?_
        rintro e w1 ⟨rfl, hb1⟩
        have HB1 := Lib.hid (HB.out.trans (hb1.mono hsz))
        have HE1 := Lib.hid (HE.out.mono hb1)
        have HO1 := Lib.hid (HO.out.kept hb1)
        have hsz1 := top_size HB1.out
        clear hb1
        go_wp2_with fail
        refine (validName_at x true HV.out (by omega) _).mono ?_
        rintro e w2 ⟨rfl, rfl⟩
        have hrow := hsz1
        have hown := World.ownsRow.alloc HO1.out (.cells #[.string ⟨x.toArray⟩] 9)
        go_wp2_with (at_builtin; refine wpList_append_own _ rfl _ _ 25 rfl (w.heap.size + 1) 9 i0 (.string ByteArray.empty) 1 16 Tryz.underlying25 hi hz0 hz1 hz2 rfl (by decide) _ _ _ rfl hown ⟨w2.heap.size, 0, none⟩ 1 1 [.string ⟨x.toArray⟩] rfl rfl (cell_one_new _ _ _) (fun z hz => by simp at hz; subst hz; rfl) (by unfold maxLen; omega) (by omega) (by simp; omega) ?_; intro v' w3 hown' hgrow3 hnil3)
        have HB3 := Lib.hid ((HB1.out.alloc hsz1 (.cells #[.string ⟨x.toArray⟩] 9)).grown hgrow3 (by simp; omega) (fun q hq => (hown.lt q hq).1))
        have HO3 : Hid (Own (w.heap.size + 1) v' (dn ++ [⟨x.toArray⟩]) w3) := by
          show World.ownsRow _ _ _ _ _ _ _
          rw [List.length_append, List.map_append]
          exact hown'
        clear hown hown' hgrow3 hnil3
        go_wp2
        go_roundg y.length
        case measure => have := HK.out; omega
        case rel =>
          exact ⟨⟨y.toArray⟩, dn ++ [⟨x.toArray⟩], arr_size y, rfl, HO3.out, HB3.out, by rw [List.length_append, arr_size]; simp; omega, by rw [HT.out, HN.out, arr_size, arr_toList]⟩
end Go.Proofs.YthiaeppaaahlgaaGreatDoor
