/-
  A paragraph while it is broken, in memory: its record, its plans, the items of a short line.
-/
import Derived.Test.YtdimfmpolbijeaaPlan11
set_option linter.unusedVariables false
set_option linter.unusedSimpArgs false
namespace Go.Proofs.Ytdimfmpolbijeaa
open Go.RowKit

/-- blocks that hold no items, but one, stand as they stood -/
def Kept (ip : Nat) (w w' : World) : Prop := ∀ (j : Nat) (cs : Array Value) (T : TypeId) (fr : Nat × Nat), j ≠ ip → T ≠ 47 → w.heap[j]? = some (.cells cs T fr) → w'.heap[j]? = some (.cells cs T fr)
theorem Kept.refl (ip : Nat) (w : World) : Kept ip w w := fun _ _ _ _ _ _ h => h
theorem Kept.trans {ip : Nat} {a b c : World} (h : Kept ip a b) (k : Kept ip b c) : Kept ip a c := fun j cs T fr h1 h2 h3 => k j cs T fr h1 h2 (h j cs T fr h1 h2 h3)
theorem Kept.below {ip : Nat} {a b : World} (h : Below a.heap.size a b) : Kept ip a b := fun j cs T fr _ _ h3 => obj_kept h h3
theorem Kept.grown {ip : Nat} {a b : World} {B : Nat} {u : Value} {l : List It.Itm} (hu : OwnR 47 itC 9 B u l a) (h : a.grownBy b u.ownBlock) : Kept ip a b := fun j cs T fr _ h2 h3 => obj_far h3 h (own_off9 hu h3 h2)
theorem Kept.set (ip i : Nat) (y : Value) (w : World) : Kept ip w (w.setCell ⟨ip, i, none⟩ y) := fun j cs T fr h1 _ h3 => obj_set h3 h1

theorem own_set11 {u : Value} {l : List It.Itm} {B ip i : Nat} {y : Value} {cs : Array Value} {T : TypeId} {fr : Nat × Nat} {w : World} (h : OwnR 47 itC 9 B u l w) (hi : w.heap[ip]? = some (.cells cs T fr)) (hT : T ≠ 47) : OwnR 47 itC 9 B u l (w.setCell ⟨ip, i, none⟩ y) := by
  have hne := own_off9 h hi hT
  refine World.ownsRow.kept h (row := some ip) ?_ (.inr fun e => hne e.symm)
  have hb : Below 0 w (w.setCell ⟨ip, i, none⟩ y) := (Below.refl 0 w).setCell (p := ⟨ip, i, none⟩) (Nat.zero_le _) y
  exact ⟨hb.os, hb.tape, hb.output, hb.size, fun j hj hne => Below.heap_setCell w ⟨ip, i, none⟩ y j (fun e => hne (by rw [e]))⟩
/-- of an owned slice, what is ahead of its first item -/
theorem own_head0 {u : Value} {l : List It.Itm} {B : Nat} {w : World} (h : OwnR 47 itC 9 B u l w) : ∃ v, (∀ wx, (Instr.slice 22 u none (some (.int .i64 0)) none).run Try.prog wx = .ok v wx) ∧ (∀ wx, (Instr.sliceAt 22 u none (some (.int .i64 0)) none).run Try.prog wx = .ok v wx) ∧ OwnR 47 itC 9 B v [] w := by
  have hx : ∀ (a : Option Addr) (n k cap : Nat) (h : k ≤ cap) (wx : World), (Instr.sliceAt 22 (.slice a n cap) none (some (.int .i64 (k : Int))) none).run Try.prog wx = .ok (.slice a k cap) wx := fun a n k cap h wx => by rw [run_sliceAt_slice (h := by rw [elemIt]; exact Try.underlying22)]; exact run_head9 a n k cap h wx
  rcases h.2 with ⟨rfl, hn⟩ | ⟨g, cap, cu, rfl, hB, hg, hnc, hcm, hsz, htk⟩
  · exact ⟨.slice none 0 0, fun wx => run_head9 none 0 0 0 (Nat.le_refl _) wx, fun wx => hx none 0 0 0 (Nat.le_refl _) wx, ownR_nil _ _ _ _ _⟩
  · refine ⟨.slice (some ⟨g, 0, none⟩) 0 cap, fun wx => run_head9 _ _ 0 cap (Nat.zero_le _) wx, fun wx => hx _ _ 0 cap (Nat.zero_le _) wx, ?_⟩
    exact ⟨rfl, .inr ⟨g, cap, cu, rfl, hB, hg, Nat.zero_le _, hcm, hsz, by simp⟩⟩

/-- what is known while a short line grows: w1 the world ahead of it -/
structure CoW (ip B : Nat) (cs : Array Value) (w1 : World) (u : Value) (l : List It.Itm) (w : World) : Prop where
  ho : w.heap[ip]? = some (.cells cs 55 (0, 0))
  hu : OwnR 47 itC 9 B u l w
  hk : Kept ip w1 w
  hb : Below B w1 w
  hz : B ≤ w.heap.size
theorem CoW.below {ip B : Nat} {cs : Array Value} {w1 : World} {u : Value} {l : List It.Itm} {w w' : World} (h : CoW ip B cs w1 u l w) (hb : Below w.heap.size w w') : CoW ip B cs w1 u l w' :=
  ⟨obj_kept hb h.ho, h.hu.mono hb, h.hk.trans (Kept.below hb), h.hb.trans (hb.mono h.hz), Nat.le_trans h.hz hb.size⟩
theorem CoW.app {ip B : Nat} {cs : Array Value} {w1 : World} {u v : Value} {l m : List It.Itm} {w w' : World} (h : CoW ip B cs w1 u l w) (hg : w.grownBy w' u.ownBlock) (hv : OwnR 47 itC 9 B v m w') : CoW ip B cs w1 v m w' :=
  ⟨obj_far h.ho hg (own_off9 h.hu h.ho (by decide)), hv, h.hk.trans (Kept.grown h.hu hg), below_app h.hb hg h.hu h.hz, Nat.le_trans h.hz hg.size⟩
theorem CoW.set {ip B i : Nat} {cs : Array Value} {w1 : World} {u y : Value} {l : List It.Itm} {w : World} (h : CoW ip B cs w1 u l w) (hB : B ≤ ip) : CoW ip B (cs.setIfInBounds i y) w1 u l (w.setCell ⟨ip, i, none⟩ y) :=
  ⟨heap_setCell_same w ip i cs _ y h.ho, own_set11 h.hu h.ho (by decide), h.hk.trans (Kept.set ip i y w), h.hb.setCell (p := ⟨ip, i, none⟩) hB y, by rw [World.size_setCell]; exact h.hz⟩
theorem CoW.u {ip B : Nat} {cs : Array Value} {w1 : World} {u v : Value} {l m : List It.Itm} {w : World} (h : CoW ip B cs w1 u l w) (hv : OwnR 47 itC 9 B v m w) : CoW ip B cs w1 v m w := ⟨h.ho, hv, h.hk, h.hb, h.hz⟩

/-! ### the plans -/
/-- plans, as they lie in their block -/
def PlAt (bp n : Nat) (F : Nat → Nat → It.Pln) (w : World) : Prop := ∃ cs : Array Value, w.heap[bp]? = some (.cells cs 59 (0, 0)) ∧ cs.size = (n + 1) * 16 ∧ ∀ k q, k ≤ n → q < 4 → ∀ j u, (plC (F k q))[j]? = some u → cs[k * 16 + q * 4 + j]? = some u
theorem PlAt.below {bp n : Nat} {F : Nat → Nat → It.Pln} {w w' : World} (h : PlAt bp n F w) (hb : Below w.heap.size w w') : PlAt bp n F w' := by
  obtain ⟨cs, h1, h2, h3⟩ := h
  exact ⟨cs, obj_kept hb h1, h2, h3⟩
theorem PlAt.kept {bp n ip : Nat} {F : Nat → Nat → It.Pln} {w w' : World} (h : PlAt bp n F w) (hk : Kept ip w w') (hne : bp ≠ ip) : PlAt bp n F w' := by
  obtain ⟨cs, h1, h2, h3⟩ := h
  exact ⟨cs, hk bp cs _ _ hne (by decide) h1, h2, h3⟩
theorem PlAt.rec {bp n : Nat} {F : Nat → Nat → It.Pln} {w : World} (h : PlAt bp n F w) {k q : Nat} (hk : k ≤ n) (hq : q < 4) : RecAt w bp (k * 16 + q * 4) (plC (F k q)) ∧ ∀ j, w.frozen? ⟨bp, k * 16 + q * 4 + j, none⟩ = false := by
  obtain ⟨cs, h1, h2, h3⟩ := h
  exact ⟨fun j u hj => by rw [Lib.cell_of_heap h1]; exact h3 k q hk hq j u hj, fun j => Lib.frozen_of_heap h1 _⟩
def updF (F : Nat → Nat → It.Pln) (k q : Nat) (x : It.Pln) : Nat → Nat → It.Pln := fun i j => if i = k ∧ j = q then x else F i j
theorem PlAt.put {bp n : Nat} {F : Nat → Nat → It.Pln} {w : World} (h : PlAt bp n F w) {k q : Nat} (hk : k ≤ n) (hq : q < 4) (x : It.Pln) : PlAt bp n (updF F k q x) (putPl w bp (k * 16 + q * 4) x) := by
  obtain ⟨cs, h1, h2, h3⟩ := h
  have g1 := heap_setCell_same w bp (k * 16 + q * 4) cs _ (.int .i64 x.d) h1
  have g2 := heap_setCell_same _ bp (k * 16 + q * 4 + 1) _ _ (.int .i64 x.n) g1
  have g3 := heap_setCell_same _ bp (k * 16 + q * 4 + 2) _ _ (.int .i64 x.c) g2
  have g4 := heap_setCell_same _ bp (k * 16 + q * 4 + 3) _ _ (.bool x.ok) g3
  refine ⟨_, g4, by simp [h2], fun i j hi hj t u hu => ?_⟩
  have ht : t < 4 := by
    have := (List.getElem?_eq_some_iff.1 hu).1
    simpa [plC] using this
  have hin : k * 16 + q * 4 + 3 < cs.size := by rw [h2]; omega
  unfold updF at hu
  by_cases he : i = k ∧ j = q
  · rw [if_pos he] at hu
    obtain ⟨rfl, rfl⟩ := he
    match t, ht, hu with
    | 0, _, hu => simp [plC] at hu; subst hu; simp [Array.getElem?_setIfInBounds]; omega
    | 1, _, hu => simp [plC] at hu; subst hu; simp [Array.getElem?_setIfInBounds]; omega
    | 2, _, hu => simp [plC] at hu; subst hu; simp [Array.getElem?_setIfInBounds]; omega
    | 3, _, hu => simp [plC] at hu; subst hu; simp [Array.getElem?_setIfInBounds]; omega
  · rw [if_neg he] at hu
    have := h3 i j hi hj t u hu
    have hd : i * 16 + j * 4 + t ≠ k * 16 + q * 4 ∧ i * 16 + j * 4 + t ≠ k * 16 + q * 4 + 1 ∧ i * 16 + j * 4 + t ≠ k * 16 + q * 4 + 2 ∧ i * 16 + j * 4 + t ≠ k * 16 + q * 4 + 3 := by omega
    rw [Array.getElem?_setIfInBounds, if_neg (by omega), Array.getElem?_setIfInBounds, if_neg (by omega), Array.getElem?_setIfInBounds, if_neg (by omega), Array.getElem?_setIfInBounds, if_neg (by omega)]
    exact this

/-- a paragraph's record and its plans, the short line's memory; w0 the world at its beginning -/
structure ParW (v : Value) (n : Nat) (t tol : Int) (w0 : World) (ip bp : Nat) (F : Nat → Nat → It.Pln) (w : World) : Prop where
  ho : ∃ sv l, w.heap[ip]? = some (.cells #[v, .int .i64 t, .int .i64 tol, .slice (some ⟨bp, 0, none⟩) (n + 1) (n + 1), sv] 55 (0, 0)) ∧ OwnR 47 itC 9 w0.heap.size sv l w
  hp : PlAt bp n F w
  hb : Below w0.heap.size w0 w
  h0 : w0.heap.size ≤ bp ∧ w0.heap.size ≤ ip ∧ bp ≠ ip
theorem ParW.below {v : Value} {n : Nat} {t tol : Int} {w0 : World} {ip bp : Nat} {F : Nat → Nat → It.Pln} {w w' : World} (h : ParW v n t tol w0 ip bp F w) (hb : Below w.heap.size w w') : ParW v n t tol w0 ip bp F w' := by
  obtain ⟨sv, l, h1, h2⟩ := h.ho
  exact ⟨⟨sv, l, obj_kept hb h1, h2.mono hb⟩, h.hp.below hb, h.hb.trans (hb.mono h.hb.size), h.h0⟩
theorem putPl_grown (w : World) (b o : Nat) (x : It.Pln) : w.grownBy (putPl w b o x) (some b) := grown_set (grown_set (grown_set (grown_set (World.grownBy.refl w _) _) _) _) _
theorem putPl_heap (w : World) (b o : Nat) (x : It.Pln) (j : Nat) (hne : j ≠ b) : (putPl w b o x).heap[j]? = w.heap[j]? := by
  unfold putPl
  rw [Below.heap_setCell _ ⟨b, o + 3, none⟩ _ j hne, Below.heap_setCell _ ⟨b, o + 2, none⟩ _ j hne, Below.heap_setCell _ ⟨b, o + 1, none⟩ _ j hne, Below.heap_setCell _ ⟨b, o, none⟩ _ j hne]
theorem ParW.put {v : Value} {n : Nat} {t tol : Int} {w0 : World} {ip bp : Nat} {F : Nat → Nat → It.Pln} {w : World} (h : ParW v n t tol w0 ip bp F w) {k q : Nat} (hk : k ≤ n) (hq : q < 4) (x : It.Pln) : ParW v n t tol w0 ip bp (updF F k q x) (putPl w bp (k * 16 + q * 4) x) := by
  obtain ⟨sv, l, h1, h2⟩ := h.ho
  obtain ⟨hb0, hi0, hne⟩ := h.h0
  obtain ⟨cs, p1, p2, p3⟩ := h.hp
  refine ⟨⟨sv, l, ?_, ?_⟩, h.hp.put hk hq x, ?_, h.h0⟩
  · rw [putPl_heap w bp _ x ip (fun e => hne e.symm)]; exact h1
  · exact World.ownsRow.kept h2 (row := some bp) (putPl_grown w bp _ x) (.inr fun e => own_off9 h2 p1 (by decide) e.symm)
  · exact h.hb.grown (putPl_grown w bp _ x) h.hb.size (fun j hj => by cases hj; exact hb0)
theorem ParW.cells {v : Value} {n : Nat} {t tol : Int} {w0 : World} {ip bp : Nat} {F : Nat → Nat → It.Pln} {w : World} (h : ParW v n t tol w0 ip bp F w) : w.cell? ⟨ip, 0, none⟩ = some v ∧ w.cell? ⟨ip, 1, none⟩ = some (.int .i64 t) ∧ w.cell? ⟨ip, 2, none⟩ = some (.int .i64 tol) ∧ w.cell? ⟨ip, 3, none⟩ = some (.slice (some ⟨bp, 0, none⟩) (n + 1) (n + 1)) := by
  obtain ⟨sv, l, h1, h2⟩ := h.ho
  exact ⟨Lib.cell_of_heap h1 0, Lib.cell_of_heap h1 1, Lib.cell_of_heap h1 2, Lib.cell_of_heap h1 3⟩
end Go.Proofs.Ytdimfmpolbijeaa
