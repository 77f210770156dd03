/-
  The plain mathematics of package sigla: two texts of tables, one behind the other; lists of keys, compacted and expanded; no program is mentioned here.
-/
import Derived.Test.YtjjkilopeofjjaaDoorSg13
set_option linter.unusedVariables false
set_option linter.unusedSimpArgs false
namespace Go.Proofs.YtjjkilopeofjjaaDoor.Sg
open Go.Proofs.YtjjkilopeofjjaaDoor

theorem parseL_twice : ∀ (s t : List Sig) (i : Nat), (∀ x ∈ s, keyOk x.k = true ∧ nameOk x.n = true) → (keys s).Nodup → (t ++ s).length ≤ 100 → (∃ x ∈ s, x.k ∈ keys t) → ∀ r, r ≠ [] → ∃ j : Nat, j < s.length ∧ parseL t i (s.map line ++ r) = ([], 131, ((i + j : Nat) : Int))
  | [], t, i, _, _, _, ⟨x, hx, _⟩, r, _ => by simp at hx
  | x :: s, t, i, h, hn, hl, hx, r, hr => by
    obtain ⟨m, q, e⟩ : ∃ m q, s.map line ++ r = m :: q := by
      cases e : s.map line ++ r with
      | nil => simp at e; exact absurd e.2 hr
      | cons m q => exact ⟨m, q, rfl⟩
    have hxo := h x List.mem_cons_self
    have hlen : ¬ t.length = 100 := by simp at hl; omega
    by_cases hk : x.k ∈ keys t
    · refine ⟨0, by simp, ?_⟩
      rw [List.map_cons, List.cons_append, e]
      simp only [parseL]
      rw [lineOk_line hxo.1 hxo.2]
      simp only []
      rw [if_pos hk]
      simp
    · have hn2 : (keys s).Nodup := by
        unfold keys at hn ⊢
        rw [List.map_cons] at hn
        exact (List.nodup_cons.1 hn).2
      obtain ⟨y, hy, hyk⟩ := hx
      have hys : y ∈ s := by
        rcases List.mem_cons.1 hy with rfl | hy
        · exact absurd hyk hk
        · exact hy
      obtain ⟨j, hj, hp⟩ := parseL_twice s (t ++ [x]) (i + 1) (fun z hz => h z (List.mem_cons_of_mem _ hz)) hn2 (by rw [List.append_assoc]; exact hl) ⟨y, hys, by rw [keys_app]; exact List.mem_append_left _ hyk⟩ r hr
      refine ⟨j + 1, by simp; omega, ?_⟩
      rw [List.map_cons, List.cons_append, e]
      simp only [parseL]
      rw [lineOk_line hxo.1 hxo.2]
      simp only []
      rw [if_neg hk, if_neg hlen, ← e, hp]
      congr 3
      omega
theorem text_app (a b : List Sig) : text (a ++ b) = text a ++ text b := List.flatMap_append
/-- of two texts of tables, one behind the other: the one's and then the other one's; or a key stands twice -/
theorem parse_parts {s u : Bs} {a b : List Sig} {y z : Int} (hs : parse s = (a, 0, y)) (hu : parse u = (b, 0, z)) (hl : a.length + b.length ≤ 100) :
    ((∀ x ∈ b, x.k ∉ keys a) → parse (s ++ u) = (a ++ b, 0, 0)) ∧ ((∃ x ∈ b, x.k ∈ keys a) → ∃ j : Nat, a.length ≤ j ∧ j < a.length + b.length ∧ parse (s ++ u) = ([], 131, (j : Int))) := by
  obtain ⟨ha, hsa, _⟩ := parse_ok hs
  obtain ⟨hb, hub, _⟩ := parse_ok hu
  obtain ⟨a1, a2, a3⟩ := may_yes ha
  obtain ⟨b1, b2, b3⟩ := may_yes hb
  unfold print at hsa hub
  rw [if_pos ha] at hsa
  rw [if_pos hb] at hub
  have hall : ∀ x ∈ a ++ b, keyOk x.k = true ∧ nameOk x.n = true := fun x hx => by
    rcases List.mem_append.1 hx with hx | hx
    · exact a2 x hx
    · exact b2 x hx
  have hsp : Mt.split 10 (s ++ u) = a.map line ++ (b.map line ++ [[]]) := by
    rw [← hsa, ← hub, ← text_app, split_text hall, List.map_append, List.append_assoc]
  constructor
  · intro hd
    have hm : may (a ++ b) = true := by
      refine may_of (by rw [List.length_append]; exact hl) hall ?_
      rw [keys_app]
      refine List.nodup_append.2 ⟨a3, b3, fun k hk m hm e => ?_⟩
      unfold keys at hm
      obtain ⟨x, hx, rfl⟩ := List.mem_map.1 hm
      exact hd x hx (by rw [← e]; exact hk)
    have := parse_print hm
    unfold print at this
    rw [if_pos hm, text_app, hsa, hub] at this
    exact this
  · intro hd
    obtain ⟨j, hj, hp⟩ := parseL_twice b a (0 + a.length) b2 b3 (by rw [List.length_append]; exact hl) hd [[]] (by simp)
    refine ⟨a.length + j, by omega, by omega, ?_⟩
    unfold parse
    rw [hsp, parseL_lines a [] 0 a2 (by simpa using a3) (by simpa using a1) _ (by simp), List.nil_append, hp]
    congr 3
    omega

/-! ### lists of keys -/
def dd : Bs := [46, 46]
/-- a run of keys, as it is written -/
def emit (run : List Bs) : List Bs := if 3 ≤ run.length then [run.headD [] ++ (dd ++ run.getLastD [])] else run
/-- runs of the keys that P has -/
def comp (P : Bs → Bool) : List Bs → List Bs → List Bs
  | run, [] => emit run
  | run, k :: r => if P k = true then comp P (run ++ [k]) r else emit run ++ comp P [] r
def compact (t : List Sig) (sel : List Bs) : Bs × Int × Int :=
  if may t = false then ([], 130, -1) else match sel.findIdx? (fun k => decide (find t k < 0)) with
    | some i => ([], 133, i)
    | none => (Mt.join 32 (comp (fun k => decide (k ∈ sel)) [] (keys t)), 0, 0)
/-- the place of the first two dots -/
def dots : Bs → Option Nat
  | [] => none
  | [_] => none
  | a :: b :: r => if a = 46 ∧ b = 46 then some 0 else (dots (b :: r)).map (· + 1)
/-- the keys from a to b -/
def range (t : List Sig) (a b : Int) : List Bs := ((keys t).take (b.toNat + 1)).drop a.toNat
def wordOf (t : List Sig) (w : Bs) : Option (List Bs) := match dots w with
  | none => if find t w < 0 then none else some (range t (find t w) (find t w))
  | some d => if find t (w.take d) < 0 ∨ find t (w.drop (d + 2)) < 0 ∨ find t (w.drop (d + 2)) ≤ find t (w.take d) then none else some (range t (find t (w.take d)) (find t (w.drop (d + 2))))
def expandL (t : List Sig) : Nat → List Bs → List Bs → List Bs × Int × Int
  | _, out, [] => (out, 0, 0)
  | i, out, w :: r => match wordOf t w with
    | none => ([], 133, i)
    | some l => expandL t (i + 1) (out ++ l) r
def expand (t : List Sig) (s : Bs) : List Bs × Int × Int := if may t = false then ([], 130, -1) else if s = [] then ([], 0, 0) else expandL t 0 [] (Mt.split 32 s)

theorem dots_none : ∀ {s : Bs}, (46 : UInt8) ∉ s → dots s = none
  | [], _ => rfl
  | [_], _ => rfl
  | a :: b :: r, h => by
    simp only [dots]
    rw [if_neg (fun e => h (by rw [e.1]; exact List.mem_cons_self)), dots_none (fun hm => h (List.mem_cons_of_mem _ hm))]
    rfl
theorem dots_at : ∀ {a : Bs} (b : Bs), (46 : UInt8) ∉ a → dots (a ++ (dd ++ b)) = some a.length
  | [], b, _ => by simp [dd, dots]
  | [x], b, h => by
    have hx : x ≠ 46 := fun e => h (by rw [e]; exact List.mem_cons_self)
    simp [dd, dots, hx]
  | x :: y :: r, b, h => by
    have hx : x ≠ 46 := fun e => h (by rw [e]; exact List.mem_cons_self)
    have ih := dots_at (a := y :: r) b (fun hm => h (List.mem_cons_of_mem _ hm))
    simp only [List.cons_append, dots] at ih ⊢
    rw [if_neg (fun e => hx e.1), ih]
    simp
/-- where a key of the table stands -/
theorem find_at {t : List Sig} (hn : (keys t).Nodup) {i : Nat} {k : Bs} (h : (keys t)[i]? = some k) : find t k = (i : Int) := by
  unfold keys at h hn
  rw [List.getElem?_map] at h
  cases e : t[i]? with
  | none => rw [e] at h; cases h
  | some x =>
    rw [e] at h
    obtain rfl := Option.some.inj h
    obtain ⟨hi, hx⟩ := List.getElem?_eq_some_iff.1 e
    have hf : t.findIdx (fun y => decide (y.k = x.k)) = i := by
      rw [List.findIdx_eq hi]
      refine ⟨by simp [hx], fun j hj => ?_⟩
      simp only [decide_eq_false_iff_not]
      intro hk
      have h1 := List.pairwise_iff_getElem.1 hn j i (by simp; omega) (by simp; omega) hj
      simp only [List.getElem_map] at h1
      exact h1 (by rw [hk, hx])
    unfold find
    rw [if_pos (by rw [hf]; exact hi), hf]
theorem find_no {t : List Sig} {k : Bs} (h : k ∉ keys t) : find t k = -1 := by
  unfold find
  rw [if_neg]
  intro hlt
  have := List.findIdx_getElem (w := hlt)
  simp only [decide_eq_true_eq] at this
  apply h
  unfold keys
  rw [← this]
  exact List.mem_map_of_mem (List.getElem_mem hlt)
theorem find_neg {t : List Sig} {k : Bs} : find t k < 0 ↔ k ∉ keys t := by
  constructor
  · intro h hm
    unfold find at h
    rw [if_pos] at h
    · omega
    · unfold keys at hm
      obtain ⟨x, hx, rfl⟩ := List.mem_map.1 hm
      exact List.findIdx_lt_length_of_exists ⟨x, hx, by simp⟩
  · intro h
    rw [find_no h]
    omega
theorem mem_key {t : List Sig} (h : may t = true) {k : Bs} (hk : k ∈ keys t) : keyOk k = true := by
  unfold keys at hk
  obtain ⟨x, hx, rfl⟩ := List.mem_map.1 hk
  exact ((may_yes h).2.1 x hx).1
theorem getLastD_at {l : List Bs} {i n : Nat} (h : l.length = n + 1) : l[n]? = some (l.getLastD []) := by
  rw [List.getLastD_eq_getLast?, List.getLast?_eq_getElem?, h, Nat.add_sub_cancel]
  rw [List.getElem?_eq_getElem (by omega)]
  rfl
end Go.Proofs.YtjjkilopeofjjaaDoor.Sg
