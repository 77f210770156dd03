/-
  Slices of tokens: how they lie in memory; and the reference's Same: whether two are the same.
-/
import Derived.Test.YtimpadooknclkaaLists
import Derived.Test.YtimpadooknclkaaLexMore
import Derived.LaidEql
set_option linter.unusedVariables false
set_option linter.unusedSimpArgs false
namespace Go.Proofs.Ytimpadooknclkaa
open Go.RowKit

def str (l : List UInt8) : ByteArray := ⟨l.toArray⟩
theorem str_data (l : List UInt8) : (str l).data.toList = l := by simp [str]
theorem str_of (s : ByteArray) : str s.data.toList = s := by
  apply ByteArray.ext
  simp [str]
theorem str_is {s : ByteArray} {l : List UInt8} (h : s.data.toList = l) : s = str l := by rw [← h, str_of]
abbrev Tok := Lx.Tok
def tokCells (t : Tok) : List Value := [.int .i64 t.kind, .string (str t.text), .int .i64 t.loc]
def tokV (t : Tok) : Value := .agg #[.int .i64 t.kind, .string (str t.text), .int .i64 t.loc]
def allCells (ts : List Tok) : List Value := ts.flatMap tokCells
theorem allCells_len (ts : List Tok) : (allCells ts).length = ts.length * 3 := by
  induction ts with
  | nil => rfl
  | cons t r ih => unfold allCells at ih ⊢; rw [List.flatMap_cons, List.length_append, ih, List.length_cons]; simp [tokCells]; omega
theorem allCells_snoc (ts : List Tok) (t : Tok) : allCells (ts ++ [t]) = allCells ts ++ tokCells t := by simp [allCells]
theorem allCells_append (ts us : List Tok) : allCells (ts ++ us) = allCells ts ++ allCells us := by simp [allCells]
theorem allCells_at : ∀ (ts : List Tok) (i : Nat) (t : Tok), ts[i]? = some t → (allCells ts)[i * 3]? = some (.int .i64 t.kind) ∧ (allCells ts)[i * 3 + 1]? = some (.string (str t.text)) ∧ (allCells ts)[i * 3 + 2]? = some (.int .i64 t.loc)
  | [], i, t, h => by simp at h
  | u :: r, 0, t, h => by
    simp at h
    subst h
    exact ⟨rfl, rfl, rfl⟩
  | u :: r, i + 1, t, h => by
    simp at h
    have ih := allCells_at r i t h
    have e : allCells (u :: r) = tokCells u ++ allCells r := rfl
    have hl : (tokCells u).length = 3 := rfl
    rw [e]
    refine ⟨?_, ?_, ?_⟩
    · rw [List.getElem?_append_right (by rw [hl]; omega), hl, show (i + 1) * 3 - 3 = i * 3 by omega]; exact ih.1
    · rw [List.getElem?_append_right (by rw [hl]; omega), hl, show (i + 1) * 3 + 1 - 3 = i * 3 + 1 by omega]; exact ih.2.1
    · rw [List.getElem?_append_right (by rw [hl]; omega), hl, show (i + 1) * 3 + 2 - 3 = i * 3 + 2 by omega]; exact ih.2.2
theorem one_cells (t : Tok) : ∀ u ∈ tokCells t, u.oneCell' = true := by
  intro u hu
  simp [tokCells] at hu
  rcases hu with rfl | rfl | rfl <;> rfl

/-- the three cells of a token -/
structure TokAt (w : World) (b o : Nat) (t : Tok) : Prop where
  k : w.cell? ⟨b, o, none⟩ = some (.int .i64 t.kind)
  s : w.cell? ⟨b, o + 1, none⟩ = some (.string (str t.text))
  a : w.cell? ⟨b, o + 2, none⟩ = some (.int .i64 t.loc)
theorem TokAt.mono {w w' : World} {b o : Nat} {t : Tok} (h : TokAt w b o t) (hb : Below w.heap.size w w') : TokAt w' b o t :=
  ⟨cell_below hb h.k, cell_below hb h.s, cell_below hb h.a⟩
/-- v is a slice of the tokens ts -/
def ToksAt (w : World) (v : Value) (ts : List Tok) : Prop :=
  (∃ a cap, v = .slice a ts.length cap ∧ ts.length ≤ cap) ∧ ts.length ≤ maxLen ∧ (0 < ts.length → ∃ b o cap, v = .slice (some ⟨b, o, none⟩) ts.length cap ∧ ∀ i t, ts[i]? = some t → TokAt w b (o + i * 3) t)
theorem ToksAt.mono {w w' : World} {v : Value} {ts : List Tok} (hb : Below w.heap.size w w') (h : ToksAt w v ts) : ToksAt w' v ts := by
  obtain ⟨h1, h2, h3⟩ := h
  refine ⟨h1, h2, fun hp => ?_⟩
  obtain ⟨b, o, cap, e, hc⟩ := h3 hp
  exact ⟨b, o, cap, e, fun i s hs => (hc i s hs).mono hb⟩
theorem toks_none (w : World) : ToksAt w (.slice none 0 0) [] := ⟨⟨none, 0, rfl, Nat.le_refl _⟩, by unfold maxLen; simp, fun h => by simp at h⟩
/-- v is a slice of the call's own, of the tokens ts -/
def OwnT (B : Nat) (v : Value) (ts : List Tok) (w : World) : Prop := w.ownsRow B 36 3 v ts.length (allCells ts)
theorem OwnT.kept {B : Nat} {v : Value} {ts : List Tok} {w w' : World} (h : OwnT B v ts w) (hb : Below w.heap.size w w') : OwnT B v ts w' :=
  World.ownsRow.kept h (row := none) ⟨hb.os, hb.tape, hb.output, hb.size, fun i hi _ => hb.block i hi⟩ (by cases v.ownBlock <;> simp)
theorem OwnT.mono {B : Nat} {v : Value} {ts : List Tok} {w w' : World} (h : OwnT B v ts w) (hb : Below w.heap.size w w') : OwnT B v ts w' := h.kept hb
theorem OwnT.base {B B' : Nat} {v : Value} {ts : List Tok} {w : World} (h : OwnT B v ts w) (hB : B' ≤ B) : OwnT B' v ts w := by
  refine ⟨h.1, ?_⟩
  rcases h.2 with h2 | ⟨g, cap, cur, e, hg, rest⟩
  · exact .inl h2
  · exact .inr ⟨g, cap, cur, e, Nat.le_trans hB hg, rest⟩
theorem OwnT.set {B p i : Nat} {v y : Value} {ts : List Tok} {w : World} (h : OwnT B v ts w) (hp : p < B) : OwnT B v ts (w.setCell ⟨p, i, none⟩ y) := by
  refine World.ownsRow.kept h (row := some p) ?_ ?_
  · have hb : Below 0 w (w.setCell ⟨p, i, none⟩ y) := (Below.refl 0 w).setCell (p := ⟨p, i, none⟩) (Nat.zero_le _) y
    refine ⟨hb.os, hb.tape, hb.output, hb.size, fun j hj hne => ?_⟩
    exact Below.heap_setCell w ⟨p, i, none⟩ y j (fun e => hne (by rw [e]))
  · exact .inr fun e => by
      have := (World.ownsRow.lt h p e).1
      omega
theorem OwnT.at {B : Nat} {v : Value} {ts : List Tok} {w : World} (h : OwnT B v ts w) : ToksAt w v ts := by
  have h0 := h
  rcases h.2 with ⟨rfl, hn⟩ | ⟨g, cap, cur, rfl, _, hg, hcap, hmax, hsz, htake⟩
  · refine ⟨⟨none, 0, by rw [hn], by omega⟩, by omega, fun hp => by omega⟩
  · refine ⟨⟨_, _, rfl, hcap⟩, by omega, fun hp => ⟨g, 0, cap, rfl, fun i t ht => ?_⟩⟩
    obtain ⟨a1, a2, a3⟩ := allCells_at ts i t ht
    have c1 := World.ownsRow.cells h0 (g := g) rfl _ _ a1
    have c2 := World.ownsRow.cells h0 (g := g) rfl _ _ a2
    have c3 := World.ownsRow.cells h0 (g := g) rfl _ _ a3
    rw [add_none] at c1 c2 c3
    exact ⟨c1, c2, c3⟩
theorem ownT_nil (w : World) (B : Nat) : OwnT B (.slice none 0 0) [] w := World.ownsRow_nil _ _ _ _
theorem ownT_made (w : World) : OwnT w.heap.size (.slice (some ⟨w.heap.size, 0, none⟩) 0 0) [] (w.alloc (.cells #[] 36)) := World.ownsRow_made w #[] 0 (Nat.le_refl _) (by unfold maxLen; omega) rfl
theorem ownT_snoc {B : Nat} {v : Value} {ts : List Tok} {t : Tok} {w : World} (h : w.ownsRow B 36 3 v (ts.length + 1) (allCells ts ++ tokCells t)) : OwnT B v (ts ++ [t]) w := by
  unfold OwnT
  rw [List.length_append, allCells_snoc]
  exact h
theorem cell_tok_new (w : World) (t : Tok) (T : TypeId) : ∀ j u, (tokCells t)[j]? = some u → (w.alloc (.cells (tokCells t).toArray T)).cell? ((⟨w.heap.size, 0, none⟩ : Addr).add j) = some u := by
  intro j u hj
  rw [add_none]
  match j, hj with
  | 0, hj => simp [tokCells] at hj; subst hj; simp [tokCells]
  | 1, hj => simp [tokCells] at hj; subst hj; simp [tokCells]
  | 2, hj => simp [tokCells] at hj; subst hj; simp [tokCells]
  | j + 3, hj => simp [tokCells] at hj
theorem infoTok : (Try.prog.info? 36).map (fun i => (i.zero, i.size, i.bytes)) = some (some (.agg #[.int .i64 0, .string ByteArray.empty, .int .i64 0]), 3, 32) := by kernel_rfl

/-! ### tokens held against one another -/
def sameB (t u : Tok) : Bool := (t.kind == u.kind) && ((t.text == u.text) && (t.loc == u.loc))
theorem sameB_is (t u : Tok) : sameB t u = decide (t = u) := by
  obtain ⟨k, s, a⟩ := t
  obtain ⟨k', s', a'⟩ := u
  unfold sameB
  rw [Bool.eq_iff_iff, decide_eq_true_iff]
  simp
theorem fTok : (Try.prog.fieldsOf 36).toList.map (fun f => (f.name, f.type, f.offset)) = [("Kind", 3, 0), ("Text", 9, 1), ("At", 3, 2)] := by kernel_rfl
theorem uTok : Try.prog.underlying 36 = some (.struct (Try.prog.fieldsOf 36)) := by kernel_rfl
theorem sTok : Try.prog.stoodInHeld 36 = false := by kernel_rfl
theorem pTok0 (c a : Int) (s : ByteArray) (w : World) : (part 3 #[.int .i64 c, .string s, .int .i64 a] 0).run Try.prog w = .ok (.int .i64 c) w := by kernel_rfl
theorem pTok1 (c a : Int) (s : ByteArray) (w : World) : (part 9 #[.int .i64 c, .string s, .int .i64 a] 1).run Try.prog w = .ok (.string s) w := by kernel_rfl
theorem pTok2 (c a : Int) (s : ByteArray) (w : World) : (part 3 #[.int .i64 c, .string s, .int .i64 a] 2).run Try.prog w = .ok (.int .i64 a) w := by kernel_rfl
theorem eqFields_next (d : Nat) (xs ys : Array Value) (fs : List Field) (n : String) (t : TypeId) (o : Nat) (r : List (String × TypeId × Nat)) (h : fs.map (fun f => (f.name, f.type, f.offset)) = (n, t, o) :: r) (hn : n ≠ "_") :
    ∃ fs', fs'.map (fun f : Field => (f.name, f.type, f.offset)) = r ∧ Op.eqFields d xs ys fs = (do let a ← part t xs o; let b ← part t ys o; let q ← Op.equalIn d t a b; if (!q) = true then pure false else Op.eqFields d xs ys fs') := by
  cases fs with
  | nil => cases h
  | cons f fs' =>
    simp only [List.map_cons, List.cons.injEq, Prod.mk.injEq] at h
    obtain ⟨⟨rfl, rfl, rfl⟩, h2⟩ := h
    refine ⟨fs', h2, ?_⟩
    conv => lhs; unfold Op.eqFields
    rw [if_pos hn]
theorem str_eq (l m : List UInt8) : ((str l).toList == (str m).toList) = (l == m) := by rw [Lib.toList_data, Lib.toList_data, str_data, str_data]
theorem eqInTok (d : Nat) (t u : Tok) (w : World) : (Op.equalIn (d + 2) 36 (tokV t) (tokV u)).run Try.prog w = .ok (sameB t u) w := by
  unfold tokV sameB
  rw [run_equalIn_agg w (d + 1) 36 _ _ uTok sTok]
  obtain ⟨f1, h1, e1⟩ := eqFields_next (d + 1) #[.int .i64 t.kind, .string (str t.text), .int .i64 t.loc] #[.int .i64 u.kind, .string (str u.text), .int .i64 u.loc] _ _ _ _ _ fTok (by decide)
  obtain ⟨f2, h2, e2⟩ := eqFields_next (d + 1) #[.int .i64 t.kind, .string (str t.text), .int .i64 t.loc] #[.int .i64 u.kind, .string (str u.text), .int .i64 u.loc] _ _ _ _ _ h1 (by decide)
  obtain ⟨f3, h3, e3⟩ := eqFields_next (d + 1) #[.int .i64 t.kind, .string (str t.text), .int .i64 t.loc] #[.int .i64 u.kind, .string (str u.text), .int .i64 u.loc] _ _ _ _ _ h2 (by decide)
  obtain rfl : f3 = [] := by simpa using h3
  rw [e1]
  simp only [Sem.run_bind, pTok0, Result.andThen_ok]
  rw [run_equalIn_int w d 3 .i64 .i64 t.kind u.kind Try.underlying3]
  cases t.kind == u.kind
  · simp
  · simp only [Result.andThen_ok, Bool.not_true, Bool.false_eq_true, if_false, Bool.true_and]
    rw [e2]
    simp only [Sem.run_bind, pTok1, Result.andThen_ok]
    rw [run_equalIn_string w d 9 _ _ Try.underlying9, str_eq]
    cases t.text == u.text
    · simp
    · simp only [Result.andThen_ok, Bool.not_true, Bool.false_eq_true, if_false, Bool.true_and]
      rw [e3]
      simp only [Sem.run_bind, pTok2, Result.andThen_ok]
      rw [run_equalIn_int w d 3 .i64 .i64 t.loc u.loc Try.underlying3]
      cases t.loc == u.loc <;> simp [Op.eqFields]
theorem neqTok (t u : Tok) (w : World) : (binOp .neq 36 (tokV t) (tokV u)).run Try.prog w = .ok (.bool (!sameB t u)) w := by
  have h := eqInTok 9998 t u w
  unfold tokV at h ⊢
  rw [run_neq_struct, h]
  rfl

theorem next_same {xs ys : List Tok} {k : Nat} {x y : Tok} (hx : xs[k]? = some x) (hy : ys[k]? = some y) (e : x = y) (h : xs.take k = ys.take k) : xs.take (k + 1) = ys.take (k + 1) := by
  rw [List.take_add_one, List.take_add_one, hx, hy, h, e]
theorem next_bad {xs ys : List Tok} {k : Nat} {x y : Tok} (hx : xs[k]? = some x) (hy : ys[k]? = some y) (e : x ≠ y) : decide (xs = ys) = false := by
  refine decide_eq_false fun h => e ?_
  rw [h, hy] at hx
  exact (Option.some.inj hx).symm
theorem end_same {xs ys : List Tok} {k : Nat} (hk : xs.length ≤ k) (hl : ys.length = xs.length) (h : xs.take k = ys.take k) : decide (xs = ys) = true := by
  rw [List.take_of_length_le hk, List.take_of_length_le (by omega)] at h
  exact decide_eq_true h
def BoolD (b : Bool) (w : World) (e : Ending) (w' : World) : Prop := e = .returned (.bool b) ∧ ∃ n, w' = w.drewN n
theorem BoolD.ret {b : Bool} {w w' : World} {e : Ending} (h : BoolD b w e w') : Ret (.bool b) w e w' := by
  obtain ⟨he, n, rfl⟩ := h
  exact ⟨he, below_drew _ _⟩

set_option maxHeartbeats 2000000 in
set_option maxRecDepth 100000 in
theorem same_len (p1 p2 : Option Addr) (m1 m2 c1 c2 : Nat) (h : m1 ≠ m2) (w : World) :
    Calls Try.prog 15 #[.slice p1 m1 c1, .slice p2 m2 c2] w (BoolD false w) := by
  have h1 : ((m1 : Int) == (m2 : Int)) = false := beq_eq_false_iff_ne.2 (by omega)
  have h2 : ((m1 : Int) != (m2 : Int)) = true := bne_iff_ne.2 (by omega)
  clear h
  go_enter Try.func15, Try.ntmps15
  go_wp2
  go_ret
  exact ⟨rfl, 0, rfl⟩

set_option maxHeartbeats 2000000 in
set_option maxRecDepth 100000 in
theorem same_nil (p1 p2 : Option Addr) (c1 c2 : Nat) (w : World) :
    Calls Try.prog 15 #[.slice p1 0 c1, .slice p2 0 c2] w (BoolD true w) := by
  go_enter Try.func15, Try.ntmps15
  go_wp2
  refine wp_loop_rounds 1 ?_
  rw [rounds_succ]
  go_wp2
  go_ret
  exact ⟨rfl, 0, rfl⟩

set_option maxHeartbeats 4000000 in
set_option maxRecDepth 100000 in
theorem same_some (b1 o1 c1 b2 o2 c2 : Nat) (xs ys : List Tok) (hn : xs.length ≤ 9223372036854775807) (hl : ys.length = xs.length) (w : World)
    (hc1 : ∀ i s, xs[i]? = some s → TokAt w b1 (o1 + i * 3) s) (hc2 : ∀ i s, ys[i]? = some s → TokAt w b2 (o2 + i * 3) s) :
    Calls Try.prog 15 #[.slice (some ⟨b1, o1, none⟩) xs.length c1, .slice (some ⟨b2, o2, none⟩) xs.length c2] w (BoolD (decide (xs = ys)) w) := by
  have HC1 := Lib.hid hc1
  have HC2 := Lib.hid hc2
  have HL := Lib.hid hl
  clear hc1 hc2 hl
  go_enter Try.func15, Try.ntmps15
  go_wp2
  go_loopw [5] (fun i wr => ∃ k m : Nat, k ≤ xs.length ∧ i = .int .i64 k ∧ Hid (xs.take k = ys.take k) ∧ wr = w.drewN m) (fun i _ => xs.length - (intOf i).toNat)
  case atStart => exact ⟨0, 0, Nat.zero_le _, rfl, by show _ = _; simp, rfl⟩
  case round =>
    obtain ⟨k, m, hk, rfl, H, rfl⟩ := hrel
    by_cases hlt : k < xs.length
    · obtain ⟨s, hs⟩ : ∃ s, xs[k]? = some s := ⟨_, List.getElem?_eq_getElem hlt⟩
      obtain ⟨t, ht⟩ : ∃ t, ys[k]? = some t := ⟨_, List.getElem?_eq_getElem (by rw [HL.out]; exact hlt)⟩
      have D1 := HC1.out k s hs
      have D2 := HC2.out k t ht
      have d1 := D1.k
      have d2 := D1.s
      have d3 := D1.a
      have g1 := D2.k
      have g2 := D2.s
      have g3 := D2.a
      have k0 : (0 : Int) ≤ (k : Int) := by omega
      have k1 : (k : Int) < (xs.length : Int) := by omega
      by_cases he : s = t
      · have HN := Lib.hid (next_same hs ht he H.out)
        have q : ∀ wx, (binOp .neq 36 (.agg #[.int .i64 s.kind, .string (str s.text), .int .i64 s.loc]) (.agg #[.int .i64 t.kind, .string (str t.text), .int .i64 t.loc])).run Try.prog wx = .ok (.bool false) wx := fun wx => by
          have h := neqTok s t wx
          rw [sameB_is, decide_eq_true he] at h
          exact h
        clear he hs ht D1 D2
        go_wp2_with fail
        go_quiet (fail)
        go_wp2
        go_roundw
        case rel => exact ⟨k + 1, m + nq, by omega, by go_num, HN, rfl⟩
        case measure => simp [intOf]; omega
      · have HN := Lib.hid (next_bad hs ht he)
        have q : ∀ wx, (binOp .neq 36 (.agg #[.int .i64 s.kind, .string (str s.text), .int .i64 s.loc]) (.agg #[.int .i64 t.kind, .string (str t.text), .int .i64 t.loc])).run Try.prog wx = .ok (.bool true) wx := fun wx => by
          have h := neqTok s t wx
          rw [sameB_is, decide_eq_false he] at h
          exact h
        clear he hs ht D1 D2
        go_wp2_with fail
        go_quiet (fail)
        go_wp2
        go_ret
        exact ⟨ret_bool HN.out.symm, m + nq, by simp [World.drewN, Nat.add_assoc]⟩
    · have HN := Lib.hid (end_same (show xs.length ≤ k by omega) HL.out H.out)
      go_wp2
      go_ret
      exact ⟨ret_bool HN.out.symm, m, rfl⟩

theorem same_any (v1 v2 : Value) (xs ys : List Tok) (w : World) (h1 : ToksAt w v1 xs) (h2 : ToksAt w v2 ys) :
    Calls Try.prog 15 #[v1, v2] w (Ret (.bool (decide (xs = ys))) w) := by
  obtain ⟨⟨p1, c1, rfl, _⟩, m1, k1⟩ := h1
  obtain ⟨⟨p2, c2, rfl, _⟩, m2, k2⟩ := h2
  by_cases hl : xs.length = ys.length
  · rcases Nat.eq_zero_or_pos xs.length with h0 | h0
    · obtain rfl : xs = [] := List.eq_nil_of_length_eq_zero h0
      obtain rfl : ys = [] := List.eq_nil_of_length_eq_zero (by omega)
      exact (same_nil p1 p2 c1 c2 w).mono fun _ _ h => h.ret
    · obtain ⟨b1, o1, d1, e1, q1⟩ := k1 h0
      obtain ⟨b2, o2, d2, e2, q2⟩ := k2 (by omega)
      obtain ⟨rfl, rfl⟩ : p1 = some ⟨b1, o1, none⟩ ∧ c1 = d1 := by injection e1 with a1 a2 a3; exact ⟨a1, a3⟩
      obtain ⟨rfl, rfl⟩ : p2 = some ⟨b2, o2, none⟩ ∧ c2 = d2 := by injection e2 with a1 a2 a3; exact ⟨a1, a3⟩
      rw [← hl]
      exact (same_some b1 o1 _ b2 o2 _ xs ys (by unfold maxLen at m1; omega) hl.symm w q1 q2).mono fun _ _ h => h.ret
  · have e : decide (xs = ys) = false := decide_eq_false fun h => hl (by rw [h])
    rw [e]
    exact (same_len p1 p2 _ _ c1 c2 hl w).mono fun _ _ h => h.ret
end Go.Proofs.Ytimpadooknclkaa
