/-
  The plain mathematics of package sigla: keys are expanded from what they are compacted to; no program is mentioned here.
-/
import Derived.Test.YtjjkilopeofjjaaDoorSgL13
set_option linter.unusedVariables false
set_option linter.unusedSimpArgs false
namespace Go.Proofs.YtjjkilopeofjjaaDoor.Sg
open Go.Proofs.YtjjkilopeofjjaaDoor

theorem range_mid {t : List Sig} {pre run post : List Bs} (h : keys t = pre ++ (run ++ post)) {a b : Int} (ha : a = (pre.length : Int)) (hb : b + 1 = ((pre.length + run.length : Nat) : Int)) (h0 : 0 ≤ b) : range t a b = run := by
  unfold range
  have e : b.toNat + 1 = pre.length + run.length := by omega
  rw [e, ha, Int.toNat_natCast, h, ← List.append_assoc, List.take_left' (by rw [List.length_append]), List.drop_left]
theorem key_at {t : List Sig} {pre run post : List Bs} (h : keys t = pre ++ (run ++ post)) {j : Nat} {k : Bs} (hk : run[j]? = some k) : (keys t)[pre.length + j]? = some k := by
  rw [h, List.getElem?_append_right (by omega), Nat.add_sub_cancel_left, List.getElem?_append_left (List.getElem?_eq_some_iff.1 hk).1, hk]
theorem word_one {t : List Sig} (hm : may t = true) {pre post : List Bs} {k : Bs} (h : keys t = pre ++ ([k] ++ post)) : wordOf t k = some [k] := by
  have hf := find_at (may_yes hm).2.2 (key_at h (j := 0) (k := k) rfl)
  have hmem : k ∈ keys t := by rw [h]; simp
  unfold wordOf
  rw [dots_none (key_free (mem_key hm hmem) (.inr (.inr rfl)))]
  simp only []
  rw [hf, if_neg (by omega), range_mid h (by omega) (by simp) (by omega)]
theorem word_run {t : List Sig} (hm : may t = true) {pre run post : List Bs} (h : keys t = pre ++ (run ++ post)) (hl : 3 ≤ run.length) : wordOf t (run.headD [] ++ (dd ++ run.getLastD [])) = some run := by
  obtain ⟨n, hn⟩ : ∃ n, run.length = n + 1 := ⟨run.length - 1, by omega⟩
  have h0 : run[0]? = some (run.headD []) := by
    cases run with
    | nil => simp at hl
    | cons x r => rfl
  have h1 : run[n]? = some (run.getLastD []) := getLastD_at (i := 0) hn
  have f0 := find_at (may_yes hm).2.2 (key_at h h0)
  have f1 := find_at (may_yes hm).2.2 (key_at h h1)
  have m0 : run.headD [] ∈ keys t := List.mem_of_getElem? (key_at h h0)
  unfold wordOf
  rw [dots_at _ (key_free (mem_key hm m0) (.inr (.inr rfl)))]
  simp only []
  have e1 : (run.headD [] ++ (dd ++ run.getLastD [])).take (run.headD []).length = run.headD [] := List.take_left
  have e2 : (run.headD [] ++ (dd ++ run.getLastD [])).drop ((run.headD []).length + 2) = run.getLastD [] := by
    rw [← List.append_assoc, show (run.headD []).length + 2 = (run.headD [] ++ dd).length by simp [dd], List.drop_left]
  rw [e1, e2, f0, f1, if_neg (by omega), range_mid h (by omega) (by rw [hn]; omega) (by omega)]
theorem expand_emit {t : List Sig} (hm : may t = true) {pre run post : List Bs} (h : keys t = pre ++ (run ++ post)) (i : Nat) (out r : List Bs) : expandL t i out (emit run ++ r) = expandL t (i + (emit run).length) (out ++ run) r := by
  unfold emit
  by_cases hl : 3 ≤ run.length
  · rw [if_pos hl]
    simp only [List.cons_append, List.nil_append, expandL]
    rw [word_run hm h hl]
    rfl
  · rw [if_neg hl]
    match run, hl with
    | [], _ => simp
    | [k], _ =>
      simp only [List.cons_append, List.nil_append, expandL]
      rw [word_one hm h]
      rfl
    | [k, m], _ =>
      simp only [List.cons_append, List.nil_append, expandL]
      rw [word_one hm (pre := pre) (post := m :: post) (by rw [h]; rfl)]
      simp only []
      rw [word_one hm (pre := pre ++ [k]) (post := post) (by rw [h]; simp)]
      simp
    | _ :: _ :: _ :: _, hl => simp at hl
theorem comp_expand {t : List Sig} (hm : may t = true) (P : Bs → Bool) : ∀ (rest pre run : List Bs) (i : Nat) (out : List Bs), keys t = pre ++ (run ++ rest) → expandL t i out (comp P run rest) = (out ++ (run ++ rest.filter P), 0, 0)
  | [], pre, run, i, out, h => by
    have := expand_emit hm h i out []
    rw [List.append_nil] at this
    simp only [comp]
    rw [this]
    simp [expandL]
  | k :: r, pre, run, i, out, h => by
    simp only [comp]
    by_cases hp : P k = true
    · rw [if_pos hp, comp_expand hm P r pre (run ++ [k]) i out (by rw [h]; simp), List.filter_cons, if_pos hp]
      simp
    · rw [if_neg hp, expand_emit hm h, comp_expand hm P r (pre ++ (run ++ [k])) [] _ _ (by rw [h]; simp), List.filter_cons, if_neg hp]
      simp
/-- what is written has no blank in it, and is not empty -/
theorem emit_free {run : List Bs} (h : ∀ k ∈ run, keyOk k = true) : ∀ w ∈ emit run, (32 : UInt8) ∉ w ∧ w ≠ [] := by
  intro w hw
  unfold emit at hw
  split at hw
  · rename_i hl
    obtain ⟨n, hn⟩ : ∃ n, run.length = n + 1 := ⟨run.length - 1, by omega⟩
    rw [List.mem_singleton] at hw
    subst hw
    have m0 : run.headD [] ∈ run := by
      cases run with
      | nil => simp at hl
      | cons x r => simp
    have m1 : run.getLastD [] ∈ run := List.mem_of_getElem? (getLastD_at (i := 0) hn)
    refine ⟨fun hm => ?_, by simp [dd]⟩
    rcases List.mem_append.1 hm with hm | hm
    · exact key_free (h _ m0) (.inr (.inl rfl)) hm
    · rcases List.mem_append.1 hm with hm | hm
      · revert hm; decide
      · exact key_free (h _ m1) (.inr (.inl rfl)) hm
  · refine ⟨key_free (h w hw) (.inr (.inl rfl)), fun e => ?_⟩
    have := (keyOk_yes (h w hw)).2.1
    rw [e] at this
    simp at this
theorem comp_free {P : Bs → Bool} : ∀ (rest run : List Bs), (∀ k ∈ run, keyOk k = true) → (∀ k ∈ rest, keyOk k = true) → ∀ w ∈ comp P run rest, (32 : UInt8) ∉ w ∧ w ≠ []
  | [], run, h, _, w, hw => emit_free h w (by simpa [comp] using hw)
  | k :: r, run, h, hr, w, hw => by
    have h2 : ∀ m ∈ r, keyOk m = true := fun m hm => hr m (List.mem_cons_of_mem _ hm)
    simp only [comp] at hw
    split at hw
    · exact comp_free r (run ++ [k]) (fun m hm => by
        rcases List.mem_append.1 hm with hm | hm
        · exact h m hm
        · simp at hm; subst hm; exact hr m List.mem_cons_self) h2 w hw
    · rcases List.mem_append.1 hw with hw | hw
      · exact emit_free h w hw
      · exact comp_free r [] (by simp) h2 w hw
theorem join_ne {ls : List Bs} (h0 : ls ≠ []) (h : ∀ w ∈ ls, w ≠ []) : Mt.join 32 ls ≠ [] := by
  cases ls with
  | nil => exact absurd rfl h0
  | cons w r =>
    have hw := h w List.mem_cons_self
    cases r with
    | nil => simpa [Mt.join] using hw
    | cons a b =>
      rw [Mt.join_cons 32 w (by simp)]
      simp
/-- keys are expanded from what they are compacted to: each once, in the table's order -/
theorem expand_compact {t : List Sig} (hm : may t = true) (P : Bs → Bool) : expand t (Mt.join 32 (comp P [] (keys t))) = ((keys t).filter P, 0, 0) := by
  have hall : ∀ k ∈ keys t, keyOk k = true := fun k hk => mem_key hm hk
  have hfr := comp_free (P := P) (keys t) [] (by simp) hall
  have hx := comp_expand hm P (keys t) [] [] 0 [] (by simp)
  rw [List.nil_append, List.nil_append] at hx
  unfold expand
  rw [if_neg (by rw [hm]; decide)]
  by_cases h0 : comp P [] (keys t) = []
  · rw [h0] at hx ⊢
    simp only [expandL, Prod.mk.injEq] at hx
    rw [if_pos (by rfl), ← hx.1]
  · rw [if_neg (join_ne h0 fun w hw => (hfr w hw).2), Mt.split_join h0 (fun w hw => (hfr w hw).1), hx]
theorem comp_congr {P Q : Bs → Bool} : ∀ (rest run : List Bs), (∀ k ∈ rest, P k = Q k) → comp P run rest = comp Q run rest
  | [], run, _ => rfl
  | k :: r, run, h => by
    simp only [comp]
    rw [h k List.mem_cons_self, comp_congr r (run ++ [k]) (fun m hm => h m (List.mem_cons_of_mem _ hm)), comp_congr r [] (fun m hm => h m (List.mem_cons_of_mem _ hm))]
theorem compact_ok {t : List Sig} {sel : List Bs} (hm : may t = true) (h : ∀ k ∈ sel, k ∈ keys t) : compact t sel = (Mt.join 32 (comp (fun k => decide (k ∈ sel)) [] (keys t)), 0, 0) := by
  unfold compact
  rw [if_neg (by rw [hm]; decide)]
  have e : sel.findIdx? (fun k => decide (find t k < 0)) = none := by
    rw [List.findIdx?_eq_none_iff]
    intro k hk
    rw [decide_eq_false_iff_not, find_neg]
    exact fun hn => hn (h k hk)
  rw [e]
theorem compact_some {t : List Sig} {sel : List Bs} {c : Bs} {z : Int} (h : compact t sel = (c, 0, z)) : may t = true ∧ (∀ k ∈ sel, k ∈ keys t) ∧ c = Mt.join 32 (comp (fun k => decide (k ∈ sel)) [] (keys t)) ∧ z = 0 := by
  cases hm : may t with
  | false =>
    unfold compact at h
    rw [if_pos hm] at h
    simp at h
  | true =>
    have hs : ∀ k ∈ sel, k ∈ keys t := by
      unfold compact at h
      rw [if_neg (by rw [hm]; decide)] at h
      cases e : sel.findIdx? (fun k => decide (find t k < 0)) with
      | some i => rw [e] at h; simp at h
      | none =>
        intro k hk
        rw [List.findIdx?_eq_none_iff] at e
        have := e k hk
        rw [decide_eq_false_iff_not, find_neg] at this
        exact Decidable.not_not.1 this
    rw [compact_ok hm hs] at h
    simp only [Prod.mk.injEq] at h
    exact ⟨rfl, hs, h.1.symm, h.2.2.symm⟩
/-- the whole of it: what comes back, and what it is compacted to again -/
theorem back {t : List Sig} {sel : List Bs} {c : Bs} {z : Int} (h : compact t sel = (c, 0, z)) : expand t c = ((keys t).filter (fun k => decide (k ∈ sel)), 0, 0) ∧ compact t ((keys t).filter (fun k => decide (k ∈ sel))) = (c, 0, 0) := by
  obtain ⟨hm, hs, rfl, _⟩ := compact_some h
  refine ⟨expand_compact hm _, ?_⟩
  rw [compact_ok hm (fun k hk => (List.mem_filter.1 hk).1)]
  congr 2
  refine comp_congr _ _ fun k hk => ?_
  simp only [List.mem_filter, decide_eq_true_eq, decide_eq_decide]
  exact ⟨fun h => h.2, fun h => ⟨hk, h⟩⟩
/-- all keys of a table of three and more; one key -/
theorem compact_all {t : List Sig} (hm : may t = true) (h3 : 3 ≤ t.length) : compact t (keys t) = ((keys t).headD [] ++ (dd ++ (keys t).getLastD []), 0, 0) := by
  rw [compact_ok hm (fun k hk => hk)]
  have hc : ∀ (rest run : List Bs), (∀ k ∈ rest, k ∈ keys t) → comp (fun k => decide (k ∈ keys t)) run rest = emit (run ++ rest) := by
    intro rest
    induction rest with
    | nil => intro run _; simp [comp]
    | cons k r ih =>
      intro run h
      simp only [comp]
      rw [if_pos (by simpa using h k List.mem_cons_self), ih _ (fun m hm => h m (List.mem_cons_of_mem _ hm)), List.append_assoc]
      rfl
  rw [hc _ [] (fun k hk => hk), List.nil_append]
  unfold emit
  rw [if_pos (by unfold keys; rw [List.length_map]; exact h3)]
  rfl
theorem comp_skip {P : Bs → Bool} : ∀ (rest : List Bs), (∀ k ∈ rest, P k = false) → comp P [] rest = []
  | [], _ => rfl
  | k :: r, h => by
    simp only [comp]
    rw [if_neg (by rw [h k List.mem_cons_self]; decide), comp_skip r (fun m hm => h m (List.mem_cons_of_mem _ hm))]
    rfl
theorem comp_single {P : Bs → Bool} {k : Bs} (hk : P k = true) : ∀ (pre post : List Bs), (∀ m ∈ pre, P m = false) → (∀ m ∈ post, P m = false) → comp P [] (pre ++ k :: post) = [k]
  | m :: pre, post, h1, h2 => by
    simp only [List.cons_append, comp]
    rw [if_neg (by rw [h1 m List.mem_cons_self]; decide), comp_single hk pre post (fun x hx => h1 x (List.mem_cons_of_mem _ hx)) h2]
    rfl
  | [], [], _, _ => by
    simp only [List.nil_append, comp]
    rw [if_pos hk]
    rfl
  | [], m :: post, _, h2 => by
    simp only [List.nil_append, comp]
    rw [if_pos hk, if_neg (by rw [h2 m List.mem_cons_self]; decide), comp_skip post (fun x hx => h2 x (List.mem_cons_of_mem _ hx))]
    rfl
theorem compact_one {t : List Sig} (hm : may t = true) {k : Bs} (hk : k ∈ keys t) : compact t [k] = (k, 0, 0) := by
  rw [compact_ok hm (fun m hmm => by rw [List.mem_singleton] at hmm; subst hmm; exact hk)]
  obtain ⟨pre, post, e⟩ := List.append_of_mem hk
  have hn := (may_yes hm).2.2
  rw [e] at hn ⊢
  have h1 := List.nodup_append.1 hn
  rw [comp_single (P := fun m => decide (m ∈ [k])) (by simp) pre post (fun m hmm => by
    simp only [List.mem_singleton, decide_eq_false_iff_not]
    exact fun e' => h1.2.2 m hmm k List.mem_cons_self e') (fun m hmm => by
    simp only [List.mem_singleton, decide_eq_false_iff_not]
    intro e'
    subst e'
    exact (List.nodup_cons.1 h1.2.1).1 hmm)]
  rfl
end Go.Proofs.YtjjkilopeofjjaaDoor.Sg
