/-
  The landed Flat and Words: what the walk visits is collected.
-/
import Derived.Test.YtimpadooknclkaaWalk6
import Derived.Test.YtimpadooknclkaaAppend6
import Derived.OneCell
import Derived.Shelf.Abstract
set_option linter.unusedVariables false
set_option linter.unusedSimpArgs false
namespace Go.Proofs.Ytimpadooknclkaa
open Go.RowKit

theorem tok_new3 (w : World) (k : Int) (s : ByteArray) (a : Int) : (w.alloc (.cells #[.int .i64 k, .string s, .int .i64 a] 36)).cell? ⟨w.heap.size, 0, none⟩ = some (.int .i64 k) ∧ (w.alloc (.cells #[.int .i64 k, .string s, .int .i64 a] 36)).cell? ⟨w.heap.size, 1, none⟩ = some (.string s) ∧ (w.alloc (.cells #[.int .i64 k, .string s, .int .i64 a] 36)).cell? ⟨w.heap.size, 2, none⟩ = some (.int .i64 a) := by
  refine ⟨?_, ?_, ?_⟩ <;> simp
mutual
theorem flatN_len6 : ∀ (n : Nd) (k : Nat), (Tr.flatN n k).length ≤ 2 * Tr.sizeN n
  | .mk c x args a, k => by
    have := flatA_len6 args k a
    unfold Tr.flatN Tr.sizeN
    cases c <;> simp <;> omega
theorem flatA_len6 : ∀ (l : List (List Nd)) (k : Nat) (a : Int), (Tr.flatA l k a).length ≤ 2 * Tr.sizeA l
  | [], k, a => by simp [Tr.flatA]
  | g :: gs, 0, a => by simp [Tr.flatA]
  | g :: gs, k + 1, a => by
    have h1 := flatL_len6 g k
    have h2 := flatA_len6 gs (k + 1) a
    simp only [Tr.flatA, Tr.sizeA, List.length_cons, List.length_append]
    omega
theorem flatL_len6 : ∀ (l : List Nd) (k : Nat), (Tr.flatL l k).length ≤ 2 * Tr.sizeL l
  | [], k => by simp [Tr.flatL]
  | n :: r, k => by
    have h1 := flatN_len6 n k
    have h2 := flatL_len6 r k
    simp only [Tr.flatL, Tr.sizeL, List.length_append]
    omega
end
/-- a captured variable that holds a row of the call's own; Z: the blocks that hold them -/
def CapT (p : Nat) (l : List Tok) (Z : Nat → Prop) (w : World) : Prop :=
  ∃ v, w.heap[p]? = some (.cells #[v] 22 (0, 0)) ∧ OwnT (p + 1) v l w ∧ (∀ b, Z b ↔ (b = p ∨ v.ownBlock = some b))
theorem capT_lt (p : Nat) : ∀ l Z w, CapT p l Z w → ∀ b, Z b → b < w.heap.size := by
  rintro l Z w ⟨v, h1, h2, h3⟩ b hb
  rcases (h3 b).1 hb with rfl | h
  · exact lt_of_block h1
  · exact (World.ownsRow.lt h2 b h).2
theorem capT_mono (p : Nat) : ∀ l Z w1 w2, CapT p l Z w1 → Below w1.heap.size w1 w2 → CapT p l Z w2 := by
  rintro l Z w1 w2 ⟨v, h1, h2, h3⟩ hb
  exact ⟨v, by rw [hb.block p (lt_of_block h1)]; exact h1, h2.mono hb, h3⟩

set_option maxHeartbeats 2000000 in
set_option maxRecDepth 100000 in
theorem flatClo (p : Nat) (l : List Tok) (t : Tok) (Z : Nat → Prop) (w : World) (h : CapT p l Z w) (hl : l.length < 4294967296) :
    Calls Try.prog 29 #[tokV t, .pointer (some ⟨p, 0, none⟩)] w (WalkedT (CapT p) Z (l ++ [t]) w) := by
  obtain ⟨i0, hi, hz0, hz1, hz2⟩ := info_parts infoTok
  obtain ⟨Kd, S, A⟩ := t
  obtain ⟨v, hblk, hv, hZ⟩ := h
  have hlt := lt_of_block hblk
  have hb1 : Below w.heap.size w (w.alloc (.cells #[.int .i64 Kd, .string (str S), .int .i64 A] 36)) := below_alloc _ _
  have hbx := tok_new3 w Kd (str S) A
  have c0 := cell_below hb1 (cell_of_one hblk)
  have hown := World.ownsRow.alloc (hv.mono hb1) (.cells #[.int .i64 Kd, .string (str S), .int .i64 A] 36)
  have hb2 := below_step hb1 (below_alloc (w.alloc (.cells #[.int .i64 Kd, .string (str S), .int .i64 A] 36)) (.cells #[.int .i64 Kd, .string (str S), .int .i64 A] 36))
  have hblk2 : ((w.alloc (.cells #[.int .i64 Kd, .string (str S), .int .i64 A] 36)).alloc (.cells #[.int .i64 Kd, .string (str S), .int .i64 A] 36)).heap[p]? = _ := (hb2.block p hlt).trans hblk
  have hsz1 : (w.alloc (.cells #[.int .i64 Kd, .string (str S), .int .i64 A] 36)).heap.size = w.heap.size + 1 := World.size_alloc _ _
  have hz2s : w.heap.size ≤ (w.alloc (.cells #[.int .i64 Kd, .string (str S), .int .i64 A] 36)).heap.size := hb1.size
  have hnews := cell_tok_new (w.alloc (.cells #[.int .i64 Kd, .string (str S), .int .i64 A] 36)) ⟨Kd, S, A⟩ 36
  rw [hsz1] at hnews
  have HB2 := Lib.hid hb2
  have HV := Lib.hid hv
  have HZ := Lib.hid hZ
  have hpv : some p ≠ v.ownBlock := fun e => by have := (World.ownsRow.lt hv p e.symm).1; omega
  have q0 := hbx.1
  have q1 := hbx.2.1
  have q2 := hbx.2.2
  have hp1 : p + 1 ≤ (w.alloc (.cells #[.int .i64 Kd, .string (str S), .int .i64 A] 36)).heap.size := by omega
  unfold tokV
  clear hblk hv hZ hbx hb1 hb2 hz2s
  go_enter Try.func29, Try.ntmps29
  go_wp2_with (at_builtin; refine wpList_append_lies _ rfl _ _ 22 rfl (p + 1) 36 i0 _ 3 32 Try.underlying22 hi hz0 hz1 hz2 rfl (by decide) _ _ _ rfl hown ⟨w.heap.size + 1, 0, none⟩ 1 1 (tokCells ⟨Kd, S, A⟩) rfl rfl hnews (one_cells _) (by omega) (by unfold maxLen; omega) (by omega) (by rw [World.size_alloc, hsz1]; omega) _ rfl ?_; intro g9 cap9 w9 hown9 hgrow9 hat9 hlt9; have h9 : w9.heap[p]? = _ := (hgrow9.block p (by rw [World.size_alloc, hsz1]; omega) hpv).trans hblk2; have c9 := cell_of_one h9; have f9 : w9.frozen? ⟨p, 0, none⟩ = false := Lib.frozen_of_heap h9 0)
  go_end0
  have hgp : p ≠ g9 := by
    have h1 := (World.ownsRow.lt hown9 g9 rfl).1
    omega
  have hg9 : v.ownBlock = some g9 ∨ w.heap.size ≤ g9 := hat9.imp id (fun e => by rw [e, World.size_alloc, hsz1]; omega)
  refine ⟨rfl, fun b => b = p ∨ b = g9, ⟨_, one_setCell h9, ?_, fun b => ⟨fun h => h.imp id (fun e => by rw [e]; rfl), fun h => h.imp id (fun e => (Option.some.inj e).symm)⟩⟩, ?_⟩
  · exact OwnT.set (ownT_snoc hown9) (Nat.lt_succ_self p)
  · refine ⟨hgrow9.os.trans HB2.out.os, hgrow9.tape.trans HB2.out.tape, hgrow9.output.trans HB2.out.output, Nat.le_trans HB2.out.size (by simpa using hgrow9.size), fun b hb hn => ?_, fun b hb => ?_⟩
    · have hbp : b ≠ p := fun e => hn ((HZ.out b).2 (.inl e))
      have hbv : some b ≠ v.ownBlock := fun e => hn ((HZ.out b).2 (.inr e.symm))
      rw [Below.heap_setCell _ _ _ _ hbp, hgrow9.block b (by rw [World.size_alloc, hsz1]; omega) hbv]
      exact HB2.out.block b hb
    · rcases hb with rfl | rfl
      · exact .inl ((HZ.out _).2 (.inl rfl))
      · exact hg9.imp (fun e => (HZ.out _).2 (.inr e)) id
theorem eg_flat : ∀ args w, (callFunc 29 args).run Try.prog w = .ok (.enter 29 args) w := enters_of Try.func29 (by kernel_rfl) rfl
theorem capT_new (w : World) : CapT w.heap.size [] (fun b => b = w.heap.size) (w.alloc (.cells #[.slice none 0 0] 22)) :=
  ⟨_, heap_alloc_new _ _, ownT_nil _ _, fun b => by simp [Value.ownBlock]⟩
theorem flat_len (l : List Nd) (k : Nat) : (Tr.flatL l k).length ≤ 2 * Tr.sizeL l := flatL_len6 l k

set_option maxHeartbeats 2000000 in
set_option maxRecDepth 100000 in
/-- The program's Flat. -/
theorem flat_any (v : Value) (l : List Nd) (K : Nat → Prop) (w : World) (hn : Tr.sizeL l ≤ 1073741824) (h : NodesAt w K v l) : Calls Try.prog 11 #[v] w (fun e w' => ∃ v', e = .returned v' ∧ ToksAt w' v' (Tr.flat l) ∧ Below w.heap.size w w') := by
  have hmf : ∀ (fn : Fn) (first cap : Array Value) (w : World), (Instr.makeFunc fn first cap).run Try.prog w = .ok (.func fn first cap) w := fun _ _ _ _ => rfl
  have HB0 := Lib.hid (below_alloc w (.cells #[.slice none 0 0] 22))
  have HW := Lib.hid (walkT_ind 29 eg_flat w.heap.size 4294967296 (CapT w.heap.size) (capT_lt _) (capT_mono _) (fun l t Z w1 hi hl => flatClo _ l t Z w1 hi hl) (Tr.sizeL l + 1) l (Nat.lt_succ_self _) 0 100 rfl v (fun b => b < w.heap.size) (fun b => b = w.heap.size) [] (w.alloc (.cells #[.slice none 0 0] 22))
    (h.lt.mono (below_alloc _ _)) (fun b hb => ⟨by rw [World.size_alloc]; omega, by omega⟩) (capT_new w) (by have := flat_len l 100; simp; omega))
  rw [show (((0 : Nat) : Nat) : Int) = 0 from rfl, List.nil_append] at HW
  clear h
  go_enter Try.func11, Try.ntmps11
  go_wp2_with fail
  refine HW.out.mono ?_
  rintro e w1 ⟨rfl, Z', ⟨v1, h1, h2, _⟩, hk⟩
  have c0 := cell_of_one h1
  have HK := Lib.hid (hk.below (B := w.heap.size) (by simp) (fun b hb => by omega))
  have H2 := Lib.hid h2
  clear h1 h2 hk
  go_wp2
  go_ret
  exact ⟨_, rfl, H2.out.at, HB0.out.trans HK.out⟩

/-! ### the words among them -/
def wordsOf (l : List Tok) : List (List UInt8) := (l.filter fun t => decide (t.kind = 0)).map (·.text)
theorem wordsOf_snoc_yes (l : List Tok) (S : List UInt8) (A : Int) : wordsOf (l ++ [⟨0, S, A⟩]) = wordsOf l ++ [S] := by simp [wordsOf]
theorem wordsOf_snoc_no (l : List Tok) {t : Tok} (h : t.kind ≠ 0) : wordsOf (l ++ [t]) = wordsOf l := by simp [wordsOf, h]
theorem wordsOf_len (l : List Tok) : (wordsOf l).length ≤ l.length := by
  unfold wordsOf
  rw [List.length_map]
  exact List.length_filter_le ..
def CapW (p : Nat) (l : List Tok) (Z : Nat → Prop) (w : World) : Prop :=
  ∃ v, w.heap[p]? = some (.cells #[v] 39 (0, 0)) ∧ OwnS (p + 1) v (wordsOf l) w ∧ (∀ b, Z b ↔ (b = p ∨ v.ownBlock = some b))
theorem capW_lt (p : Nat) : ∀ l Z w, CapW p l Z w → ∀ b, Z b → b < w.heap.size := by
  rintro l Z w ⟨v, h1, h2, h3⟩ b hb
  rcases (h3 b).1 hb with rfl | h
  · exact lt_of_block h1
  · exact (World.ownsRow.lt h2 b h).2
theorem capW_mono (p : Nat) : ∀ l Z w1 w2, CapW p l Z w1 → Below w1.heap.size w1 w2 → CapW p l Z w2 := by
  rintro l Z w1 w2 ⟨v, h1, h2, h3⟩ hb
  exact ⟨v, by rw [hb.block p (lt_of_block h1)]; exact h1, World.ownsRow.kept h2 (below_grown hb) (by cases v.ownBlock <;> simp), h3⟩
theorem capW_new (w : World) : CapW w.heap.size [] (fun b => b = w.heap.size) (w.alloc (.cells #[.slice none 0 0] 39)) :=
  ⟨_, heap_alloc_new _ _, World.ownsRow_nil _ _ _ _, fun b => by simp [Value.ownBlock]⟩

set_option maxHeartbeats 2000000 in
set_option maxRecDepth 100000 in
theorem wordsClo (p : Nat) (l : List Tok) (t : Tok) (Z : Nat → Prop) (w : World) (h : CapW p l Z w) (hl : l.length < 4294967296) :
    Calls Try.prog 35 #[tokV t, .pointer (some ⟨p, 0, none⟩)] w (WalkedT (CapW p) Z (l ++ [t]) w) := by
  obtain ⟨Kd, S, A⟩ := t
  have hb1 : Below w.heap.size w (w.alloc (.cells #[.int .i64 Kd, .string (str S), .int .i64 A] 36)) := below_alloc _ _
  have hsz1 : (w.alloc (.cells #[.int .i64 Kd, .string (str S), .int .i64 A] 36)).heap.size = w.heap.size + 1 := World.size_alloc _ _
  have hbx := tok_new3 w Kd (str S) A
  have q0 := hbx.1
  have q1 := hbx.2.1
  have q2 := hbx.2.2
  unfold tokV
  by_cases hk : Kd = 0
  · subst hk
    obtain ⟨i0, hi, hz0, hz1, hz2⟩ := info_parts infoStr
    obtain ⟨v, hblk, hv, hZ⟩ := h
    have hlt := lt_of_block hblk
    have hwl := wordsOf_len l
    have c0 := cell_below hb1 (cell_of_one hblk)
    have hown := World.ownsRow.alloc (World.ownsRow.alloc hv (.cells #[.int .i64 0, .string (str S), .int .i64 A] 36)) (.cells #[.string (str S)] 9)
    have hb2 := below_step hb1 (below_alloc (w.alloc (.cells #[.int .i64 0, .string (str S), .int .i64 A] 36)) (.cells #[.string (str S)] 9))
    have hblk2 : ((w.alloc (.cells #[.int .i64 0, .string (str S), .int .i64 A] 36)).alloc (.cells #[.string (str S)] 9)).heap[p]? = _ := (hb2.block p hlt).trans hblk
    have hnews := cell_val_new (w.alloc (.cells #[.int .i64 0, .string (str S), .int .i64 A] 36)) (.string (str S)) 9
    rw [hsz1] at hnews
    have HB2 := Lib.hid hb2
    have HZ := Lib.hid hZ
    have hpv : some p ≠ v.ownBlock := fun e => by have := (World.ownsRow.lt hv p e.symm).1; omega
    obtain ⟨X, hX⟩ : ∃ X, X = wordsOf l := ⟨_, rfl⟩
    rw [← hX] at hown hwl
    have HX := Lib.hid hX
    clear hblk hv hZ hbx hb1 hb2 hX
    go_enter Try.func35, Try.ntmps35
    go_wp2_with (at_builtin; refine wpList_append_lies _ rfl _ _ 39 rfl (p + 1) 9 i0 _ 1 16 Try.underlying39 hi hz0 hz1 hz2 rfl (by decide) _ _ _ rfl hown ⟨w.heap.size + 1, 0, none⟩ 1 1 [.string (str S)] rfl rfl hnews (fun z hz => by simp at hz; subst hz; rfl) (by omega) (by unfold maxLen; omega) (by omega) (by rw [World.size_alloc, hsz1]; omega) _ rfl ?_; intro g9 cap9 w9 hown9 hgrow9 hat9 hlt9; have h9 : w9.heap[p]? = _ := (hgrow9.block p (by rw [World.size_alloc, hsz1]; omega) hpv).trans hblk2; have c9 := cell_of_one h9; have f9 : w9.frozen? ⟨p, 0, none⟩ = false := Lib.frozen_of_heap h9 0)
    go_end0
    have hgp : p ≠ g9 := by
      have h1 := (World.ownsRow.lt hown9 g9 rfl).1
      omega
    have hg9 : v.ownBlock = some g9 ∨ w.heap.size ≤ g9 := hat9.imp id (fun e => by rw [e, World.size_alloc, hsz1]; omega)
    refine ⟨rfl, fun b => b = p ∨ b = g9, ⟨_, one_setCell h9, ?_, fun b => ⟨fun h => h.imp id (fun e => by rw [e]; rfl), fun h => h.imp id (fun e => (Option.some.inj e).symm)⟩⟩, ?_⟩
    · unfold OwnS
      rw [wordsOf_snoc_yes, ← HX.out, List.length_append]
      rw [List.map_append]
      exact row_same hown9 (fun b hb => Below.heap_setCell _ _ _ _ (fun e => by
        have e1 : g9 = b := Option.some.inj hb
        have e2 : b = p := e
        omega))
    · refine ⟨hgrow9.os.trans HB2.out.os, hgrow9.tape.trans HB2.out.tape, hgrow9.output.trans HB2.out.output, Nat.le_trans HB2.out.size (by simpa using hgrow9.size), fun b hb hn => ?_, fun b hb => ?_⟩
      · have hbp : b ≠ p := fun e => hn ((HZ.out b).2 (.inl e))
        have hbv : some b ≠ v.ownBlock := fun e => hn ((HZ.out b).2 (.inr e.symm))
        rw [Below.heap_setCell _ _ _ _ hbp, hgrow9.block b (by rw [World.size_alloc, hsz1]; omega) hbv]
        exact HB2.out.block b hb
      · rcases hb with rfl | rfl
        · exact .inl ((HZ.out _).2 (.inl rfl))
        · exact hg9.imp (fun e => (HZ.out _).2 (.inr e)) id
  · have g0 : (Kd == 0) = false := tk_bne0 hk
    have HI := Lib.hid (capW_mono _ _ _ _ _ h hb1)
    have HS := Lib.hid (wordsOf_snoc_no l (t := ⟨Kd, S, A⟩) hk)
    have HB1 := Lib.hid hb1
    clear h hbx hb1 hk
    go_enter Try.func35, Try.ntmps35
    go_wp2
    go_end0
    refine ⟨rfl, Z, ?_, Kept.of_below HB1.out⟩
    obtain ⟨v, h1, h2, h3⟩ := HI.out
    exact ⟨v, h1, by rw [HS.out]; exact h2, h3⟩
theorem eg_words : ∀ args w, (callFunc 35 args).run Try.prog w = .ok (.enter 35 args) w := enters_of Try.func35 (by kernel_rfl) rfl

set_option maxHeartbeats 2000000 in
set_option maxRecDepth 100000 in
/-- The program's Words. -/
theorem words_any6 (v : Value) (l : List Nd) (K : Nat → Prop) (w : World) (hn : Tr.sizeL l ≤ 1073741824) (h : NodesAt w K v l) : Calls Try.prog 17 #[v] w (fun e w' => ∃ v', e = .returned v' ∧ StrsAt w' v' (Tr.words l) ∧ Below w.heap.size w w') := by
  have hmf : ∀ (fn : Fn) (first cap : Array Value) (w : World), (Instr.makeFunc fn first cap).run Try.prog w = .ok (.func fn first cap) w := fun _ _ _ _ => rfl
  have HB0 := Lib.hid (below_alloc w (.cells #[.slice none 0 0] 39))
  have HW := Lib.hid (walkT_ind 35 eg_words w.heap.size 4294967296 (CapW w.heap.size) (capW_lt _) (capW_mono _) (fun l t Z w1 hi hl => wordsClo _ l t Z w1 hi hl) (Tr.sizeL l + 1) l (Nat.lt_succ_self _) 0 100 rfl v (fun b => b < w.heap.size) (fun b => b = w.heap.size) [] (w.alloc (.cells #[.slice none 0 0] 39))
    (h.lt.mono (below_alloc _ _)) (fun b hb => ⟨by rw [World.size_alloc]; omega, by omega⟩) (capW_new w) (by have := flat_len l 100; simp; omega))
  rw [show (((0 : Nat) : Nat) : Int) = 0 from rfl, List.nil_append] at HW
  clear h
  go_enter Try.func17, Try.ntmps17
  go_wp2_with fail
  refine HW.out.mono ?_
  rintro e w1 ⟨rfl, Z', ⟨v1, h1, h2, _⟩, hk⟩
  have c0 := cell_of_one h1
  have HK := Lib.hid (hk.below (B := w.heap.size) (by simp) (fun b hb => by omega))
  have H2 := Lib.hid h2
  clear h1 h2 hk
  go_wp2
  go_ret
  exact ⟨_, rfl, H2.out.at, HB0.out.trans HK.out⟩
end Go.Proofs.Ytimpadooknclkaa
