/-
  What is built hangs on its first word's number in the numbers alone; a slice of slices as a row of values; parts of a slice of items.
-/
import Derived.Test.YtfgfplpbddapnaaFlat9
import Derived.Deep.Slices
set_option linter.unusedVariables false
set_option linter.unusedSimpArgs false
namespace Go.Proofs.Ytfgfplpbddapnaa.It
def phi (x : Itm) : Gl × Bool × Int := (x.g, right x, x.k)
theorem phi_box {w n m i : Int} (hn : 0 ≤ n) (hm : 0 ≤ m) : phi (box w n i) = phi (box w m i) := by
  unfold phi right box
  simp [hn, hm]
theorem phi_word {hy n m : Int} (hn : 0 ≤ n) (hm : 0 ≤ m) : ∀ (l : List Pt) (i : Nat), (wordI hy n i l).map phi = (wordI hy m i l).map phi
  | [], i => rfl
  | p :: r, i => by
    simp only [wordI, List.map_append, List.map_cons]
    rw [phi_box hn hm, phi_word hn hm r (i + 1)]
theorem phi_words {sp : Gl} {hy : Int} : ∀ (l : List (List Pt)) (n m : Int) (i : Nat), 0 ≤ n → 0 ≤ m → (wordsI sp hy n i l).map phi = (wordsI sp hy m i l).map phi
  | [], n, m, i, _, _ => rfl
  | p :: r, n, m, i, hn, hm => by
    simp only [wordsI, List.map_append]
    rw [phi_word hn hm, phi_words r (n + 1) (m + 1) (i + 1) (by omega) (by omega)]
theorem phi_vers {sp : Gl} {hy : Int} : ∀ (l : List (List (List Pt))) (n m : Int), 0 ≤ n → 0 ≤ m → (versI sp hy n l).map phi = (versI sp hy m l).map phi
  | [], n, m, _, _ => rfl
  | p :: r, n, m, hn, hm => by
    simp only [versI, List.map_append]
    rw [phi_words p n m 0 hn hm, phi_vers r (n + p.length) (m + p.length) (by omega) (by omega)]
theorem phi_len {a b : List Itm} (h : a.map phi = b.map phi) : a.length = b.length := by simpa using congrArg List.length h
theorem phi_may {a b : List Itm} (h : a.map phi = b.map phi) : may a = may b := by
  have h1 : gls a = gls b := by
    have := congrArg (List.map (fun t : Gl × Bool × Int => t.1)) h
    simpa [List.map_map, gls, Function.comp_def, phi] using this
  have e : ∀ l : List Itm, l.all right = (l.map phi).all (fun t => t.2.1) := fun l => by rw [List.all_map]; rfl
  unfold may
  rw [e a, e b, h, h1, phi_len h]
theorem phi_boxes {a b : List Itm} (h : a.map phi = b.map phi) : (boxes a).length = (boxes b).length := by
  have e : ∀ l : List Itm, (boxes l).length = ((l.map phi).filter (fun t => decide (t.2.2 = 0))).length := fun l => by
    rw [List.filter_map, List.length_map]; rfl
  rw [e a, e b, h]
/-- lines of verse, some behind others -/
theorem both {sp : Gl} {hy : Int} {A B : List (List (List Pt))} (h : may (versI sp hy 0 (A ++ B)) = true) :
    may (versI sp hy 0 A) = true ∧ may (versI sp hy 0 B) = true ∧ (versI sp hy 0 A).length + (versI sp hy 0 B).length = (versI sp hy 0 (A ++ B)).length ∧
    (versI sp hy 0 (A ++ B)).take (versI sp hy 0 A).length = versI sp hy 0 A ∧ (boxes (versI sp hy 0 A)).length + (boxes (versI sp hy 0 B)).length = (boxes (versI sp hy 0 (A ++ B))).length ∧
    may ((versI sp hy 0 (A ++ B)).drop (versI sp hy 0 A).length) = true := by
  rw [vers_app] at h ⊢
  obtain ⟨h1, h2⟩ := may_parts h
  have h3 := phi_vers (sp := sp) (hy := hy) B (0 + (cnt A : Int)) 0 (by omega) (by omega)
  have h4 := phi_may h3
  refine ⟨h1, by rw [← h4]; exact h2, ?_, ?_, ?_, ?_⟩
  · rw [List.length_append, phi_len h3]
  · simp
  · rw [boxes_app, List.length_append, phi_boxes h3]
  · rw [List.drop_left]; exact h2
end Go.Proofs.Ytfgfplpbddapnaa.It
namespace Go.Proofs.Ytfgfplpbddapnaa
open Go.RowKit

/-! ### a slice of slices as a row of values -/
abbrev Sl := Option Addr × Nat × Nat
def slV (s : Sl) : Value := .slice s.1 s.2.1 s.2.2
def slC (s : Sl) : List Value := [slV s]
theorem slC_len (s : Sl) : (slC s).length = 1 := rfl
theorem slC_cell (l : List Sl) : ∀ u ∈ l.flatMap slC, u.oneCell' = true := by
  intro u hu
  obtain ⟨x, _, hx⟩ := List.mem_flatMap.1 hu
  simp only [slC, List.mem_singleton] at hx
  subst hx
  rfl
/-- the values that a slice of lines holds -/
def Lns (w : World) (ss : List Sl) (l : List (List (List It.Pt))) : Prop := ss.length = l.length ∧ ∀ (i : Nat) (s : Sl) (x : List (List It.Pt)), ss[i]? = some s → l[i]? = some x → WordsAt w (slV s) x
theorem Lns.mono {w w' : World} {ss : List Sl} {l : List (List (List It.Pt))} (h : Lns w ss l) (hb : Below w.heap.size w w') : Lns w' ss l := ⟨h.1, fun i s x h1 h2 => words_mono _ _ _ _ (h.2 i s x h1 h2) hb⟩
theorem Lns.app {w : World} {ss tt : List Sl} {l m : List (List (List It.Pt))} (h : Lns w ss l) (g : Lns w tt m) : Lns w (ss ++ tt) (l ++ m) := by
  refine ⟨by rw [List.length_append, List.length_append, h.1, g.1], fun i s x h1 h2 => ?_⟩
  rcases Nat.lt_or_ge i ss.length with hi | hi
  · rw [List.getElem?_append_left hi] at h1
    rw [List.getElem?_append_left (by rw [← h.1]; exact hi)] at h2
    exact h.2 i s x h1 h2
  · rw [List.getElem?_append_right hi] at h1
    rw [List.getElem?_append_right (by rw [← h.1]; exact hi)] at h2
    rw [← h.1] at h2
    exact g.2 _ s x h1 h2
theorem lines_vals {w : World} {v : Value} {l : List (List (List It.Pt))} (h : LinesAt w v l) : ∃ ss, SlcAt slC 1 w v ss ∧ Lns w ss l := by
  obtain ⟨⟨a, cap, rfl, hc⟩, hm, hk⟩ := h
  rcases Nat.eq_zero_or_pos l.length with h0 | h0
  · obtain rfl := List.eq_nil_of_length_eq_zero h0
    exact ⟨[], ⟨⟨a, cap, rfl, hc⟩, hm, fun hp => absurd hp (by simp)⟩, rfl, fun i s x h1 _ => by simp at h1⟩
  · obtain ⟨b, o, c', e, hx⟩ := hk h0
    have each : ∀ i, i < l.length → ∃ s : Sl, w.cell? ⟨b, o + i, none⟩ = some (slV s) ∧ ∀ x, l[i]? = some x → WordsAt w (slV s) x := fun i hi => by
      obtain ⟨u, hu, hw⟩ := hx i l[i] (List.getElem?_eq_getElem hi)
      obtain ⟨⟨a', c', rfl, hc'⟩, hw2⟩ := id hw
      refine ⟨(a', l[i].length, c'), hu, fun x hxx => ?_⟩
      rw [List.getElem?_eq_getElem hi] at hxx
      obtain rfl := Option.some.inj hxx
      exact hw
    obtain ⟨F, hF⟩ := Go.Deep.choose_lt each
    have hln : ((List.range l.length).map F).length = l.length := by simp
    have at' : ∀ i s, ((List.range l.length).map F)[i]? = some s → i < l.length ∧ F i = s := fun i s hi => by
      have hil : i < l.length := by
        rcases Nat.lt_or_ge i l.length with h' | h'
        · exact h'
        · rw [List.getElem?_eq_none (by rw [hln]; exact h')] at hi; cases hi
      rw [List.getElem?_map, List.getElem?_range hil] at hi
      exact ⟨hil, Option.some.inj hi⟩
    refine ⟨(List.range l.length).map F, ⟨⟨a, cap, by rw [hln], by rw [hln]; exact hc⟩, by rw [hln]; exact hm, fun _ => ⟨b, o, c', by rw [hln]; exact e, fun i s hi j u hj => ?_⟩⟩, hln, fun i s x h1 h2 => ?_⟩
    · obtain ⟨hil, rfl⟩ := at' i s hi
      match j, hj with
      | 0, hj =>
        simp only [slC, List.getElem?_cons_zero, Option.some.injEq] at hj
        subst hj
        have := (hF i hil).1
        simpa using this
      | j + 1, hj => simp [slC] at hj
    · obtain ⟨hil, rfl⟩ := at' i s h1
      exact (hF i hil).2 x h2
theorem vals_lines {w : World} {v : Value} {ss : List Sl} {l : List (List (List It.Pt))} (h : SlcAt slC 1 w v ss) (g : Lns w ss l) : LinesAt w v l := by
  obtain ⟨⟨a, cap, rfl, hc⟩, hm, hk⟩ := h
  obtain ⟨g1, g2⟩ := g
  refine ⟨⟨a, cap, by rw [g1], by rw [← g1]; exact hc⟩, by rw [← g1]; exact hm, fun hp => ?_⟩
  obtain ⟨b, o, c', e, hx⟩ := hk (by rw [g1]; exact hp)
  refine ⟨b, o, c', by rw [← g1]; exact e, fun i x hi => ?_⟩
  have hil : i < ss.length := by rw [g1]; exact (List.getElem?_eq_some_iff.1 hi).1
  have hs : ss[i]? = some ss[i] := List.getElem?_eq_getElem hil
  refine ⟨slV ss[i], ?_, g2 i _ x hs hi⟩
  have := hx i _ hs 0 (slV ss[i]) rfl
  simpa using this
theorem infoSl : (Try.prog.info? 36).map (fun i => (i.zero, i.size, i.bytes)) = some (some (.slice none 0 0), 1, 24) := by kernel_rfl

/-! ### parts of a slice of items -/
theorem elemIt : Try.prog.elem 30 = 45 := by kernel_rfl
theorem sizeIt (wx : World) : (sizeOf 45).run Try.prog wx = .ok 9 wx := by kernel_rfl
theorem run_head9 (a : Option Addr) (n k cap : Nat) (h : k ≤ cap) (wx : World) : (Instr.slice 30 (.slice a n cap) none (some (.int .i64 (k : Int))) none).run Try.prog wx = .ok (.slice a k cap) wx := by
  rw [run_slice_h (ht := by rw [elemIt]; exact Try.underlying30) (h0 := by omega) (h2 := by omega), elemIt, sizeIt]
  cases a <;> simp [Result.andThen, sliced, Addr.add]
/-- where the rest of a slice begins -/
def tailA (a : Option Addr) (k cap : Nat) : Option Addr := a.map fun p => if cap = k then p else p.add (k * 9)
theorem run_tail9 (a : Option Addr) (n k cap : Nat) (h : k ≤ n) (wx : World) : (Instr.slice 30 (.slice a n cap) (some (.int .i64 (k : Int))) none none).run Try.prog wx = .ok (.slice (tailA a k cap) (n - k) (cap - k)) wx := by
  rw [run_slice_l (ht := by rw [elemIt]; exact Try.underlying30) (h0 := by omega) (h1 := by omega), elemIt, sizeIt]
  cases a with
  | none => simp [Result.andThen, sliced, tailA]
  | some p =>
    simp [Result.andThen, sliced, tailA]
    split <;> rfl
theorem slc_head {w : World} {a : Option Addr} {cap : Nat} {l : List It.Itm} (h : ItsAt w (.slice a l.length cap) l) (k : Nat) (hk : k ≤ l.length) : ItsAt w (.slice a k cap) (l.take k) := by
  obtain ⟨⟨a', c', e, hc⟩, hm, hx⟩ := h
  injection e with e1 e2 e3
  subst e1 e3
  have hl : (l.take k).length = k := by rw [List.length_take]; omega
  refine ⟨⟨a, cap, by rw [hl], by rw [hl]; omega⟩, by rw [hl]; omega, fun hp => ?_⟩
  rw [hl] at hp
  obtain ⟨b, o, c', e, hq⟩ := hx (by omega)
  injection e with e1 e2 e3
  subst e1 e3
  refine ⟨b, o, cap, by rw [hl], fun i x hi => hq i x ?_⟩
  rw [List.getElem?_take] at hi
  split at hi
  · exact hi
  · cases hi
theorem slc_tail {w : World} {a : Option Addr} {cap : Nat} {l : List It.Itm} (h : ItsAt w (.slice a l.length cap) l) (k : Nat) (hk : k ≤ l.length) : ItsAt w (.slice (tailA a k cap) (l.length - k) (cap - k)) (l.drop k) := by
  obtain ⟨⟨a', c', e, hc⟩, hm, hx⟩ := h
  injection e with e1 e2 e3
  subst e1 e3
  have hl : (l.drop k).length = l.length - k := List.length_drop ..
  refine ⟨⟨_, _, by rw [hl], by rw [hl]; omega⟩, by rw [hl]; omega, fun hp => ?_⟩
  rw [hl] at hp
  obtain ⟨b, o, c', e, hq⟩ := hx (by omega)
  injection e with e1 e2 e3
  subst e1 e3
  refine ⟨b, o + k * 9, cap - k, ?_, fun i x hi => ?_⟩
  · rw [hl]
    have : ¬ cap = k := by omega
    simp [tailA, this, Addr.add]
  · rw [List.getElem?_drop] at hi
    have := hq (k + i) x hi
    rw [show o + k * 9 + i * 9 = o + (k + i) * 9 by omega]
    exact this
end Go.Proofs.Ytfgfplpbddapnaa
