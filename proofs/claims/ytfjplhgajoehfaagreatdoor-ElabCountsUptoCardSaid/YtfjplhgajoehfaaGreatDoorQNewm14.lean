/-
  The landed newMaker: a maker with nothing read yet.
-/
import Derived.Test.YtfjplhgajoehfaaGreatDoorQCtx14
set_option linter.unusedVariables false
set_option linter.unusedSimpArgs false
namespace Go.Proofs.YtfjplhgajoehfaaGreatDoor
open Go.RowKit

/-- the maker's cells ahead of its contexts -/
def cellsZ (tv : Value) (bl : Nat) : Array Value := #[.string ⟨#[]⟩, .nilFunc, .map none, .string ⟨#[]⟩, .nilFunc, .map none, .string ⟨#[]⟩, .nilFunc, .map none, .string ⟨#[]⟩, .nilFunc, .map none, .string ⟨#[]⟩, .nilFunc, .map none, .string ⟨#[]⟩, .nilFunc, .map none, .string ⟨#[]⟩, .nilFunc, .map none, .string ⟨#[]⟩, .nilFunc, .map none, .string ⟨#[]⟩, .nilFunc, .map none, tv, .slice none 0 0, .slice none 0 0, .map (some bl), .slice none 0 0, .slice none 0 0, .slice none 0 0, .slice none 0 0, .slice none 0 0, .int .i64 0, .int .i64 0, .int .i64 0, .int .i64 0, .int .i64 0, .slice none 0 0, .int .i64 0, .slice none 0 0]
/-- a maker with nothing read yet, in the world w', made in the world w; X: blocks made since wb that are kept -/
def NewPost (tv : Value) (t : List Sg.Sig) (wb : World) (X : Nat → Prop) (w : World) (e : Ending) (w' : World) : Prop := ∃ (E : Env14) (S : Nat → Prop), e = .returned E.m ∧ E.w0 = wb ∧ E.tv = tv ∧ E.t = t ∧ (∀ b, X b → S b) ∧ Stat14 E S w' ∧ MK E S w' 0 0 El.St.none w' ∧ Below w.heap.size w w'
set_option maxHeartbeats 1000000 in
set_option maxRecDepth 100000 in
theorem new_of {tv : Value} {t : List Sg.Sig} {wb w w2 w3 : World} {X : Nat → Prop} (hwb : Below wb.heap.size wb w) (hX : ∀ b, X b → wb.heap.size ≤ b ∧ b < w.heap.size) (ht : SgsAt wb tv t) {bs bd bc bt bx bn bo pm : Nat} {q : Nat → Nat} (hb2 : Below ((w.alloc (.map #[] 0)).alloc (.cells (cellsZ tv w.heap.size) 83)).heap.size ((w.alloc (.map #[] 0)).alloc (.cells (cellsZ tv w.heap.size) 83)) w2)
    (h1 : Map14 w2 bs (env0 (w.heap.size + 1) bs bd bc bt bx bn bo pm q w).mSource) (h2 : Map14 w2 bd (env0 (w.heap.size + 1) bs bd bc bt bx bn bo pm q w).mSide) (h3 : Map14 w2 bc (env0 (w.heap.size + 1) bs bd bc bt bx bn bo pm q w).mChunk)
    (h4 : Map14 w2 bt (env0 (w.heap.size + 1) bs bd bc bt bx bn bo pm q w).mStanza) (h5 : Map14 w2 bx (env0 (w.heap.size + 1) bs bd bc bt bx bn bo pm q w).mText) (h6 : Map14 w2 bn ((env0 (w.heap.size + 1) bs bd bc bt bx bn bo pm q w).mNotes 11)) (h7 : Map14 w2 bo (env0 (w.heap.size + 1) bs bd bc bt bx bn bo pm q w).mNote)
    (h8 : w2.heap[pm]? = some (.cells #[.pointer (some ⟨w.heap.size + 1, 0, none⟩)] 66 (0, 0))) (h9 : ∀ i, i < 11 → w2.heap[q i]? = some (.cells #[.int .i64 i] 3 (0, 0)))
    (hH : ∀ b, (b = bs ∨ b = bd ∨ b = bc ∨ b = bt ∨ b = bx ∨ b = bn ∨ b = bo ∨ b = pm ∨ ∃ i, i < 11 ∧ b = q i) → w.heap.size + 2 ≤ b)
    (hobj : w3.heap[w.heap.size + 1]? = some (.cells (Env14.cells ⟨w.heap.size + 1, w.heap.size, bs, bd, bc, bt, bx, bn, bo, pm, q, tv, t, wb⟩ Dyn.none 0 El.St.none) 83 (0, 0))) (hg : w2.grownBy w3 (some (w.heap.size + 1))) :
    NewPost tv t wb X w (.returned (.pointer (some ⟨w.heap.size + 1, 0, none⟩))) w3 := by
  obtain ⟨S0, hS⟩ : ∃ S0 : Nat → Prop, S0 = fun b => (b = bs ∨ b = bd ∨ b = bc ∨ b = bt ∨ b = bx ∨ b = bn ∨ b = bo ∨ b = pm ∨ ∃ i, i < 11 ∧ b = q i) := ⟨_, rfl⟩
  obtain ⟨S, hSd⟩ : ∃ S : Nat → Prop, S = fun b => S0 b ∨ X b := ⟨_, rfl⟩
  have hSH : ∀ b, S0 b → w.heap.size + 2 ≤ b := by rw [hS]; exact hH
  have hSX : ∀ b, S b → wb.heap.size ≤ b ∧ b ≠ w.heap.size ∧ b ≠ w.heap.size + 1 := by
    rw [hSd]
    intro b hb
    have hwb9 := hwb.size
    rcases hb with hb | hb
    · have := hSH b hb; omega
    · have := hX b hb; omega
  have hSi : ∀ b, S0 b → S b := fun b hb => by rw [hSd]; exact .inl hb
  have hbA := below_alloc w (.map #[] 0)
  have hbB := below_alloc (w.alloc (.map #[] 0)) (.cells (cellsZ tv w.heap.size) 83)
  have hne : ∀ {b : Nat}, w.heap.size + 2 ≤ b → b ≠ w.heap.size + 1 := fun h e => by omega
  have ne : ∀ b, S0 b → some b ≠ some (w.heap.size + 1) := fun b hb e => by
    have := hSH b hb
    have := Option.some.inj e
    omega
  have mk : ∀ {b : Nat} {l : List (List UInt8 × Value)}, S0 b → Map14 w2 b l → Map14 w3 b l ∧ S b := fun hb hm => ⟨hm.kept hg (fun e => by have := hSH _ hb; have := Option.some.inj e; omega), hSi _ hb⟩
  have sz3 : w2.heap.size ≤ w3.heap.size := hg.size
  have szB : w.heap.size + 2 ≤ w2.heap.size := by have := hb2.size; simp only [World.size_alloc] at this; omega
  have lt2 : ∀ b, S0 b → b < w2.heap.size := by
    rw [hS]
    intro b hb
    rcases hb with rfl | rfl | rfl | rfl | rfl | rfl | rfl | rfl | ⟨i, hi, rfl⟩
    · exact h1.lt
    · exact h2.lt
    · exact h3.lt
    · exact h4.lt
    · exact h5.lt
    · exact h6.lt
    · exact h7.lt
    · exact lt_of_obj h8
    · exact lt_of_obj (h9 i hi)
  have hbelow : Below w.heap.size w w3 := (below_step (below_step (Below.refl _ _) (hbA)) hbB |>.trans (hb2.mono (by simp only [World.size_alloc]; omega))).grown hg (by omega) (fun j hj => by cases hj; omega)
  have lt3 : ∀ b, S b → b < w2.heap.size := by
    rw [hSd]
    intro b hb
    rcases hb with hb | hb
    · exact lt2 b hb
    · have := hX b hb; omega
  refine ⟨⟨w.heap.size + 1, w.heap.size, bs, bd, bc, bt, bx, bn, bo, pm, q, tv, t, wb⟩, S, rfl, rfl, rfl, rfl, fun b hb => by rw [hSd]; exact .inr hb, ?_, ⟨fun _ => False, Dyn.none, ?_⟩, hbelow⟩
  · exact {
      s0 := fun b hb => (hSX b hb).1
      ms := mk (by rw [hS]; simp) h1
      md := mk (by rw [hS]; simp) h2
      mc := mk (by rw [hS]; simp) h3
      mt := mk (by rw [hS]; simp) h4
      mx := mk (by rw [hS]; simp) h5
      mn := mk (by rw [hS]; simp) h6
      mo := mk (by rw [hS]; simp) h7
      pm := have hb : S0 pm := by rw [hS]; simp
        ⟨obj_far h8 hg (ne _ hb), hSi _ hb⟩
      q := fun i hi => have hb : S0 (q i) := by rw [hS]; exact .inr (.inr (.inr (.inr (.inr (.inr (.inr (.inr ⟨i, hi, rfl⟩)))))))
        ⟨obj_far (h9 i hi) hg (ne _ hb), hSi _ hb⟩
      tab := ht }
  · exact {
      obj := hobj
      lab := ((((map14_new w).mono (below_alloc _ _)).mono hb2).kept hg (fun e => by have := Option.some.inj e; omega))
      below := hwb.trans (hbelow.mono hwb.size)
      keep := fun b _ => rfl
      KS := fun b _ h => h
      Kp := fun h => h
      Kl := fun h => h
      Sp := fun h => (hSX _ h).2.2 rfl
      Sl := fun h => (hSX _ h).2.1 rfl
      hp := by have := hwb.size; show wb.heap.size ≤ w.heap.size + 1; omega
      hl := hwb.size
      rows := Rows14.none _ _ _ _ (fun b hb => hb.elim (fun h => h.elim) (fun h => Nat.lt_of_lt_of_le (lt3 b h) sz3)) (fun b hb => hb.elim) }
set_option maxHeartbeats 1000000 in
set_option maxRecDepth 100000 in
theorem newMaker_any (tv : Value) (t : List Sg.Sig) (wb w : World) (X : Nat → Prop) (hwb : Below wb.heap.size wb w) (hX : ∀ b, X b → wb.heap.size ≤ b ∧ b < w.heap.size) (hs : SerAt w) (ht : SgsAt wb tv t) : Calls Tryz.prog 28 #[tv] w (NewPost tv t wb X w) := by
  have hm9 := @run_makeMap Tryz.prog
  have hbA := below_alloc w (.map #[] 0)
  have hbB := below_alloc (w.alloc (.map #[] 0)) (.cells (cellsZ tv w.heap.size) 83)
  obtain ⟨pl, cl, ln, rfl⟩ : ∃ pl cl ln, tv = .slice pl ln cl := by
    obtain ⟨⟨pl, cl, h, _⟩, _⟩ := ht
    exact ⟨pl, cl, _, h⟩
  have HCX := Lib.hid (contextsOf_any (w.heap.size + 1) ((w.alloc (.map #[] 0)).alloc (.cells (cellsZ (.slice pl ln cl) w.heap.size) 83)) (fun k hk => cell_below (below_step hbA hbB) (hs k hk)))
  have HT := Lib.hid ht
  have HWB := Lib.hid hwb
  have HXX := Lib.hid hX
  have HZ := Lib.hid (obj_new (w.alloc (.map #[] 0)) (w.heap.size + 1) (by simp) (cellsZ (.slice pl ln cl) w.heap.size) 83)
  unfold cellsZ at HCX
  clear hs ht hbA hbB hwb hX
  go_enter Tryz.func28, Tryz.ntmps28
  go_wp2_with fail
  refine HCX.out.mono ?_
  rintro e w2 ⟨bs, bd, bc, bt, bx, bn, bo, pm, q, rfl, hb, h1, h2, h3, h4, h5, h6, h7, h8, h9, hB⟩
  have HO := Lib.hid (obj_kept hb HZ.out)
  have HP := Lib.hid (And.intro hb (And.intro h1 (And.intro h2 (And.intro h3 (And.intro h4 (And.intro h5 (And.intro h6 (And.intro h7 (And.intro h8 (And.intro h9 hB))))))))))
  clear hb h1 h2 h3 h4 h5 h6 h7 h8 h9 hB HCX
  go_wp2_with (first
    | (refine wpList_storeAll14 (by rfl) _ _ 80 (by rfl) 27 infoCx (w.heap.size + 1) 0 (by rfl) (cellsZ (.slice pl ln cl) w.heap.size) 83 HO.out (.agg (cellsF bs bd bc bt bx bn bo (.pointer (some ⟨w.heap.size + 1, 0, none⟩))).toArray) (by rfl) (cellsF bs bd bc bt bx bn bo (.pointer (some ⟨w.heap.size + 1, 0, none⟩))) (by rfl) (by rfl) (by show 0 + 27 ≤ 44; omega) one27 ?_; intro w3 hX hg; have HX := Lib.hid hX; have HG := Lib.hid hg; clear hX hg)
    | go_in)
  go_ret
  obtain ⟨hb, h1, h2, h3, h4, h5, h6, h7, h8, h9, hB⟩ := HP.out
  refine new_of HWB.out HXX.out HT.out hb h1 h2 h3 h4 h5 h6 h7 h8 h9 ?_ HX.out HG.out
  intro b hb9
  simp only [World.size_alloc] at hB
  obtain ⟨g1, g2, g3, g4, g5, g6, g7, g8, g9⟩ := hB
  rcases hb9 with rfl | rfl | rfl | rfl | rfl | rfl | rfl | rfl | ⟨i, hi, rfl⟩
  · exact g1
  · exact g2
  · exact g3
  · exact g4
  · exact g5
  · exact g6
  · exact g7
  · exact g8
  · exact g9 i hi
end Go.Proofs.YtfjplhgajoehfaaGreatDoor
