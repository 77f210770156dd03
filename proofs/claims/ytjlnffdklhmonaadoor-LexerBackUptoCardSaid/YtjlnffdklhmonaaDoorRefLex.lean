/-
  The reference's Lex: what tokens any bytes are, and what is wrong with them first.
-/
import Derived.Test.YtjlnffdklhmonaaDoorRefMay
import Derived.Test.YtjlnffdklhmonaaDoorCallDecode
import Derived.Test.YtjlnffdklhmonaaDoorRefWord
set_option linter.unusedVariables false
set_option linter.unusedSimpArgs false
namespace Go.Proofs.YtjlnffdklhmonaaDoor
open Go.RowKit

/-- what Lex answers -/
def LexPost (s : List UInt8) (w : World) (e : Ending) (w' : World) : Prop :=
  ∃ v, e = .returned (.tuple #[v, flt (Lx.lexC s) (Lx.lexA s)]) ∧ OwnT w.heap.size v (Lx.lexL s) w' ∧ Below w.heap.size w w'
/-- what is read so far, and what is still to be read -/
def Lread (l : List UInt8) (ts : List Tok) (a : Nat) : Prop := Lx.lex 0 l = (ts ++ (Lx.lex a (l.drop a)).1, (Lx.lex a (l.drop a)).2)
theorem lread_nil (l : List UInt8) : Lread l [] 0 := rfl
theorem Lread.gap {l : List UInt8} {ts : List Tok} {a n : Nat} (h : Lread l ts a) (hs : Lx.step (l.drop a) = .gap n) : Lread l ts (a + n) := by
  unfold Lread at h ⊢
  rw [h, Lx.lex_gap a hs, List.drop_drop]
theorem Lread.tok {l : List UInt8} {ts : List Tok} {a n : Nat} {k : Int} {t : List UInt8} (h : Lread l ts a) (hs : Lx.step (l.drop a) = .tok k t n) : Lread l (ts ++ [⟨k, t, (a : Int)⟩]) (a + n) := by
  unfold Lread at h ⊢
  rw [h, Lx.lex_tok a hs, List.drop_drop, List.append_assoc]
  rfl
theorem Lread.bad {l : List UInt8} {ts : List Tok} {a : Nat} (h : Lread l ts a) (hl : l.drop a ≠ []) (hs : Lx.step (l.drop a) = .bad) : Lx.lex 0 l = (ts, some a) := by
  unfold Lread at h
  rw [h, Lx.lex_bad a hl hs, List.append_nil]
theorem Lread.done {l : List UInt8} {ts : List Tok} {a : Nat} (h : Lread l ts a) (ha : l.length ≤ a) : Lx.lex 0 l = (ts, none) := by
  unfold Lread at h
  rw [h, List.drop_eq_nil_of_le ha, Lx.lex_nil, List.append_nil]
theorem cell_three_new (w : World) (x y z : Value) (T : TypeId) : ∀ j u, [x, y, z][j]? = some u → (w.alloc (.cells #[x, y, z] T)).cell? ((⟨w.heap.size, 0, none⟩ : Addr).add j) = some u := by
  intro j u hj
  rw [add_none]
  match j, hj with
  | 0, hj => simp at hj; subst hj; simp
  | 1, hj => simp at hj; subst hj; simp
  | 2, hj => simp at hj; subst hj; simp
  | j + 3, hj => simp at hj
theorem three_one (k a : Int) (s : ByteArray) : ∀ u ∈ [Value.int .i64 k, .string s, .int .i64 a], u.oneCell' = true := by
  intro u hu
  simp at hu
  rcases hu with rfl | rfl | rfl <;> rfl
theorem ownT_three {B : Nat} {v : Value} {ts : List Tok} {k a : Int} {x : ByteArray} {t : List UInt8} {w : World} (h : w.ownsRow B 38 3 v (ts.length + 1) (allCells ts ++ [.int .i64 k, .string x, .int .i64 a])) (hx : x.data.toList = t) : OwnT B v (ts ++ [⟨k, t, a⟩]) w := by
  refine ownT_snoc ?_
  show World.ownsRow _ _ _ _ _ _ (allCells ts ++ [.int .i64 k, .string (str t), .int .i64 a])
  rw [← str_is hx]
  exact h
theorem ownT_two {B p : Nat} {w : World} {v x y : Value} {ts : List Tok} (h : OwnT B v ts w) (hp : p < B) : OwnT B v ts ((w.setCell ⟨p, 0, none⟩ x).setCell ⟨p, 1, none⟩ y) := (h.set hp).set hp
theorem lex_yes_of {s : List UInt8} {ts : List Tok} (hc : Ut.clean s = true) (h : Lx.lex 0 s = (ts, none)) : Lx.lexL s = ts ∧ Lx.lexC s = 0 ∧ Lx.lexA s = 0 := by
  have hok : Lx.lexOk s = true := by unfold Lx.lexOk; rw [hc, h]; rfl
  obtain ⟨_, _, h3, h4, h5⟩ := Lx.lex_yes hok
  exact ⟨by rw [h3, h], h4, h5⟩
theorem lex_bad_of {s : List UInt8} {ts : List Tok} {a : Nat} (hc : Ut.clean s = true) (h : Lx.lex 0 s = (ts, some a)) : Lx.lexL s = [] ∧ Lx.lexC s = 50 ∧ Lx.lexA s = (a : Int) := by
  have hok : Lx.lexOk s = false := by unfold Lx.lexOk; rw [hc, h]; rfl
  refine ⟨(Lx.lex_no hok).1, by unfold Lx.lexC; rw [hc, h]; rfl, by unfold Lx.lexA; rw [hc, h]; rfl⟩
theorem lex_utf_of {s : List UInt8} (hc : Ut.clean s = false) : Lx.lexL s = [] ∧ Lx.lexC s = 40 ∧ Lx.lexA s = (Ut.stop s : Int) := by
  have hok : Lx.lexOk s = false := by unfold Lx.lexOk; rw [hc]; rfl
  refine ⟨(Lx.lex_no hok).1, by unfold Lx.lexC; rw [hc]; rfl, by unfold Lx.lexA; rw [hc]; rfl⟩
/-- up to where a run of bytes goes -/
theorem run_len (p : UInt8 → Bool) (l : List UInt8) (m : Nat) (ha : ∀ i, i < m → ∃ c, l[i]? = some c ∧ p c = true) (hb : l.length ≤ m ∨ ∃ c, l[m]? = some c ∧ p c = false) : l.takeWhile p = l.take m := by
  induction m generalizing l with
  | zero =>
    rw [List.take_zero]
    cases l with
    | nil => rfl
    | cons c r =>
      rcases hb with hb | ⟨d, hd, hp⟩
      · simp at hb
      · simp at hd
        subst hd
        rw [List.takeWhile_cons, hp]; rfl
  | succ m ih =>
    cases l with
    | nil => rfl
    | cons c r =>
      obtain ⟨d, hd, hp⟩ := ha 0 (by omega)
      simp at hd
      subst hd
      rw [List.takeWhile_cons, hp, List.take_succ_cons]
      simp only [if_true]
      rw [ih r (fun i hi => by obtain ⟨e, he, hpe⟩ := ha (i + 1) (by omega); exact ⟨e, by simpa using he, hpe⟩) (by
        rcases hb with hb | ⟨e, he, hpe⟩
        · exact .inl (by simp at hb; omega)
        · exact .inr ⟨e, by simpa using he, hpe⟩)]
theorem drop_get (s : ByteArray) (a i : Nat) (h : a + i < s.size) : (s.data.toList.drop a)[i]? = some s[a + i] := by
  rw [List.getElem?_drop]
  exact byte_at s (a + i) h

set_option maxHeartbeats 1000000 in
set_option maxRecDepth 100000 in
theorem refLex_utf (s : ByteArray) (hs : s.size * 32 ≤ 140737488355328) (hc : Ut.clean s.data.toList = false) (w : World) : Calls Tryd.prog 11 #[.string s] w (LexPost s.data.toList w) := by
  have hx := dec_no hc
  have hl := lex_utf_of hc
  obtain ⟨st, hst⟩ : ∃ st : Nat, st = Ut.stop s.data.toList := ⟨_, rfl⟩
  rw [← hst] at hx hl
  have cD : Hid (∀ w, Calls Tryd.prog 29 #[.string s] w (fun e w' => ∃ v, e = .returned (.tuple #[v, .agg #[.int .i64 40, .int .i64 (st : Int)]]) ∧ Below w.heap.size w w')) := Lib.hid (fun w => (refDecode_any s (by omega) w).mono fun e w' h => by
    obtain ⟨v, he, _, hb⟩ := h
    exact ⟨v, by rw [he, hx.2.1, hx.2.2.1]; rfl, hb⟩)
  have HL := Lib.hid hl
  have HF0 := Lib.hid (flt_new w 0 0)
  have HB0 := Lib.hid (below_alloc w (.cells #[.int .i64 0, .int .i64 0] 25))
  clear hx hl hst hc
  go_enter Tryd.func11, Tryd.ntmps11
  go_wp2_with fail
  refine (cD.out _).mono ?_
  rintro e w2 ⟨v2, rfl, hb2⟩
  have hb2' := below_step hb2 (below_alloc w2 (.cells #[.int .i64 40, .int .i64 (st : Int)] 25))
  have HB2 := Lib.hid (below_step HB0.out hb2')
  have HF2 := Lib.hid (flt_new w2 40 (st : Int))
  have HG2 := Lib.hid (HF0.out.mono hb2')
  have x0 := HF2.out.c0
  have x1 := HF2.out.c1
  have y0 := HG2.out.c0
  have y1 := HG2.out.c1
  have z0 := HG2.out.f0
  have z1 := HG2.out.f1
  clear hb2 hb2'
  go_wp2_with fail
  go_region
  all_goals (try go_wp2)
  all_goals exact bodyPost_ret (v := .tuple #[.slice none 0 0, .agg #[.int .i64 40, .int .i64 (st : Int)]]) (by simp [results, Tryd.results11, go_sem, x0, x1, y0, y1]) rfl ⟨_, by rw [HL.out.2.1, HL.out.2.2]; rfl, by rw [HL.out.1]; exact ownT_nil _ _, by first | exact ((HB2.out.setCell (Nat.le_refl _) _).setCell (Nat.le_refl _) _) | exact (((HB2.out.drew).setCell (Nat.le_refl _) _).setCell (Nat.le_refl _) _)⟩

theorem remark_len {s : ByteArray} {a j : Nat} (hlt : a < s.size) (h37 : s[a].toNat = 37) (hj : a ≤ j) (ha : ∀ i, i < j - a → ∃ c, (s.data.toList.drop a)[i]? = some c ∧ Lx.not10 c = true) (hb : s.size ≤ j ∨ ∃ h : j < s.size, s[j].toNat = 10) : a < j ∧ Lx.step (s.data.toList.drop a) = .gap (j - a) := by
  have hd := drop_head s a hlt
  have hr := run_len Lx.not10 (s.data.toList.drop a) (j - a) ha (by
    rcases hb with hb | ⟨h, hb⟩
    · left; rw [List.length_drop, ← Lib.size_eq]; omega
    · right
      have hg := drop_get s a (j - a) (by omega)
      refine ⟨_, hg, ?_⟩
      unfold Lx.not10
      have e : s[a + (j - a)]'(by omega) = s[j] := by congr 1; omega
      rw [e]
      exact decide_eq_false (by omega))
  have hn : Lx.not10 s[a] = true := decide_eq_true (by omega)
  have hl := congrArg List.length hr
  rw [hd, List.takeWhile_cons, hn, ← hd, List.length_take, List.length_drop, ← Lib.size_eq] at hl
  simp only [if_true, List.length_cons] at hl
  have hjs : j ≤ s.size ∨ s.size < j := by omega
  have hkey : 1 + ((s.data.toList.drop (a + 1)).takeWhile Lx.not10).length = min (j - a) (s.size - a) := by omega
  refine ⟨by omega, ?_⟩
  rw [hd, Lx.step_cons, if_neg (by unfold Lx.blank; simp; omega), if_pos h37, hkey]
  rcases hb with hb | ⟨h, _⟩
  · by_cases hjs2 : j = s.size
    · rw [hjs2]; congr 1; omega
    · exfalso
      obtain ⟨c, hc, _⟩ := ha (s.size - a) (by omega)
      rw [List.getElem?_eq_none (by rw [List.length_drop, ← Lib.size_eq]; omega)] at hc
      cases hc
  · congr 1; omega
theorem cmd_len {s : ByteArray} {a j : Nat} (hlt : a < s.size) (hc : cmdH (s.data.toList.drop a) = true) (hj : a + 1 ≤ j) (hjs : j ≤ s.size) (ha : ∀ i, i < j - (a + 1) → ∃ c, (s.data.toList.drop (a + 1))[i]? = some c ∧ Lx.alpha c = true) (hb : s.size ≤ j ∨ ∃ h : j < s.size, Lx.alpha s[j] = false) :
    Lx.step (s.data.toList.drop a) = .tok 1 (s.extract (a + 1) j).data.toList (j - a) := by
  have hd := drop_head s a hlt
  have hr := run_len Lx.alpha (s.data.toList.drop (a + 1)) (j - (a + 1)) ha (by
    rcases hb with hb | ⟨h, hb⟩
    · left; rw [List.length_drop, ← Lib.size_eq]; omega
    · right
      have hg := drop_get s (a + 1) (j - (a + 1)) (by omega)
      refine ⟨_, hg, ?_⟩
      have e0 : a + 1 + (j - (a + 1)) = j := by omega
      simp only [e0]
      exact hb)
  rw [hd] at hc
  have hc2 : Lx.isCmd s[a] (s.data.toList.drop (a + 1)) = true := hc
  have h92 : s[a].toNat = 92 := by
    unfold Lx.isCmd at hc2
    rw [Bool.and_eq_true] at hc2
    exact of_decide_eq_true hc2.1
  have ht : (s.extract (a + 1) j).data.toList = (s.data.toList.drop (a + 1)).take (j - (a + 1)) := by
    rw [ByteArray.data_extract, Array.toList_extract]
  rw [hd, Lx.step_cons, if_neg (by unfold Lx.blank; simp; omega), if_neg (by omega), if_neg (by omega), if_neg (by omega), if_pos hc2, hr, ht]
  congr 1
  rw [List.length_take, List.length_drop, ← Lib.size_eq]
  omega

set_option maxHeartbeats 8000000 in
set_option maxRecDepth 100000 in
theorem refLex_ok (s : ByteArray) (hs : s.size * 32 ≤ 140737488355328) (hc : Ut.clean s.data.toList = true) (w : World) : Calls Tryd.prog 11 #[.string s] w (LexPost s.data.toList w) := by
  obtain ⟨i0, hi, hz0, hz1, hz2⟩ := info_parts infoTok
  have hx := dec_yes hc
  have cD : Hid (∀ w, Calls Tryd.prog 29 #[.string s] w (fun e w' => ∃ v, e = .returned (.tuple #[v, .agg #[.int .i64 0, .int .i64 0]]) ∧ Below w.heap.size w w')) := Lib.hid (fun w => (refDecode_any s (by omega) w).mono fun e w' h => by
    obtain ⟨v, he, _, hb⟩ := h
    exact ⟨v, by rw [he, hx.2.1, hx.2.2.1]; rfl, hb⟩)
  have HCl := Lib.hid hc
  have HF0 := Lib.hid (flt_new w 0 0)
  have HB0 := Lib.hid (below_alloc w (.cells #[.int .i64 0, .int .i64 0] 25))
  clear hx hc
  go_enter Tryd.func11, Tryd.ntmps11
  go_wp2_with fail
  refine (cD.out _).mono ?_
  rintro e w2 ⟨v2, rfl, hb2⟩
  have hb2' := below_step hb2 (below_alloc w2 (.cells #[.int .i64 0, .int .i64 0] 25))
  obtain ⟨W0, hW0⟩ : ∃ W0, W0 = w2.alloc (.cells #[.int .i64 0, .int .i64 0] 25) := ⟨_, rfl⟩
  have HB2 := Lib.hid (below_step HB0.out hb2')
  have HF2 := Lib.hid (flt_new w2 0 0)
  have HG2 := Lib.hid (HF0.out.mono hb2')
  have x0 := HF2.out.c0
  have x1 := HF2.out.c1
  rw [← hW0] at HB2 HG2
  have HpW := Lib.hid (block_lt_of_cell HG2.out.c0)
  clear hb2 hb2'
  go_wp2_with fail
  rw [← hW0]
  have HO0 : Hid (OwnT W0.heap.size (.slice (some ⟨w2.heap.size + 1, 0, none⟩) 0 0) [] (W0.alloc (.cells #[] 38))) := Lib.hid (by
    have h := ownT_made W0
    have e : W0.heap.size = w2.heap.size + 1 := by rw [hW0, World.size_alloc]
    rw [← e]
    exact h)
  have HBW := Lib.hid (below_alloc W0 (.cells #[] 38))
  clear x0 x1 HF2 hW0
  go_loopw [6, 7] (fun ov av wr => ∃ (ts : List Tok) (a : Nat), av = .int .i64 a ∧ a ≤ s.size ∧ ts.length ≤ a ∧ Hid (Lread s.data.toList ts a) ∧ Hid (OwnT W0.heap.size ov ts wr) ∧ Hid (Below W0.heap.size W0 wr)) (fun _ av _ => s.size - (intOf av).toNat)
  case atStart => exact ⟨[], 0, rfl, Nat.zero_le _, Nat.le_refl _, Lib.hid (lread_nil _), HO0, HBW⟩
  case round =>
    obtain ⟨ts, a, rfl, ha, hta, HR, HO, HB⟩ := hrel
    clear HO0 HBW
    by_cases hlt : a < s.size
    · have hd := drop_head s a hlt
      have a0 : (0 : Int) ≤ (a : Int) := by omega
      have a1 : (a : Int) < (s.size : Int) := by omega
      have cB := Lib.hid (fun w => refBlank_any s[a] w)
      cases hbl : Lx.blank s[a] with
      | true =>
        have HR2 := Lib.hid (HR.out.gap (n := 1) (by rw [hd, Lx.step_cons, if_pos hbl]))
        rw [hbl] at cB
        clear hbl hd
        go_wp2_with fail
        refine (cB.out _).mono ?_
        rintro e w3 ⟨rfl, rfl⟩
        go_wp2_with fail
        go_roundw
        case rel => exact ⟨ts, a + 1, by go_num, by omega, by omega, HR2, HO, HB⟩
        case measure => simp [intOf]; omega
      | false =>
        by_cases h37 : s[a].toNat = 37
        · have hqi : (s[a].toNat : Int) = 37 := by omega
          have cB' : Hid (∀ w, Calls Tryd.prog 22 #[.int .u8 37] w (Is (.bool false) w)) := Lib.hid (fun w => by have h := cB.out w; rw [hbl, hqi] at h; exact h)
          have H37 := Lib.hid h37
          clear hbl hd h37 cB
          go_wp2_with fail
          refine (cB'.out _).mono ?_
          rintro e w3 ⟨rfl, rfl⟩
          go_wp2_with fail
          clear hqi
          go_loopw [7] (fun av wq => ∃ j : Nat, a ≤ j ∧ j ≤ s.size ∧ av = .int .i64 j ∧ Hid (∀ i, i < j - a → ∃ c, (s.data.toList.drop a)[i]? = some c ∧ Lx.not10 c = true) ∧ wq = wr) (fun av _ => s.size - (intOf av).toNat)
          case atStart => exact ⟨a, Nat.le_refl _, ha, rfl, Lib.hid (fun i hi => by omega), rfl⟩
          case round =>
            obtain ⟨j, haj, hjs, rfl, HA, rfl⟩ := hrel
            by_cases hj : j < s.size
            · have j0 : (0 : Int) ≤ (j : Int) := by omega
              have j1 : (j : Int) < (s.size : Int) := by omega
              by_cases h10 : s[j].toNat = 10
              · have h10i : (s[j].toNat : Int) = 10 := by omega
                have HL := Lib.hid (remark_len hlt H37.out haj HA.out (.inr ⟨hj, h10⟩))
                have HR2 := Lib.hid (HR.out.gap HL.out.2)
                clear h10
                go_wp2_with fail
                go_roundw
                case rel => exact ⟨ts, j, rfl, hjs, by omega, Lib.hid (by have h := HR2.out; rw [show a + (j - a) = j by omega] at h; exact h), HO, HB⟩
                case measure => have := HL.out.1; simp [intOf]; omega
              · have h10i : ((s[j].toNat : Int) == 10) = false := bne0 (by omega)
                have h10n : ((s[j].toNat : Int) != 10) = true := by simp only [bne, h10i]; rfl
                have HA2 : Hid (∀ i, i < j + 1 - a → ∃ c, (s.data.toList.drop a)[i]? = some c ∧ Lx.not10 c = true) := Lib.hid (fun i hi => by
                  by_cases hij : i < j - a
                  · exact HA.out i hij
                  · have e : a + i = j := by omega
                    have hg := drop_get s a i (by omega)
                    refine ⟨_, hg, ?_⟩
                    have e2 : s[a + i]'(by omega) = s[j] := by congr 1
                    rw [e2]
                    exact decide_eq_true h10)
                clear h10
                go_wp2_with fail
                go_roundw
                case rel => exact ⟨j + 1, by omega, by omega, by go_num, HA2, by trivial⟩
                case measure => simp [intOf]; omega
            · have HL := Lib.hid (remark_len hlt H37.out haj HA.out (.inl (by omega)))
              have HR2 := Lib.hid (HR.out.gap HL.out.2)
              go_wp2_with fail
              go_roundw
              case rel => exact ⟨ts, j, rfl, hjs, by omega, Lib.hid (by have h := HR2.out; rw [show a + (j - a) = j by omega] at h; exact h), HO, HB⟩
              case measure => have := HL.out.1; simp [intOf]; omega
        · by_cases hq : s[a].toNat = 123
          · have hqi : (s[a].toNat : Int) = 123 := by omega
            have HR2 := Lib.hid (HR.out.tok (k := 2) (t := []) (n := 1) (by rw [hd, Lx.step_cons, if_neg (by rw [hbl]; simp), if_neg (by omega), if_pos hq]))
            have hown := World.ownsRow.alloc HO.out (.cells #[.int .i64 2, .string (str []), .int .i64 (a : Int)] 38)
            have cB' : Hid (∀ w, Calls Tryd.prog 22 #[.int .u8 123] w (Is (.bool false) w)) := Lib.hid (fun w => by have h := cB.out w; rw [hbl, hqi] at h; exact h)
            clear hbl hd hq h37 cB
            go_wp2_with fail
            refine (cB'.out _).mono ?_
            rintro e w3 ⟨rfl, rfl⟩
            go_wp2_with (at_builtin; refine wpList_append_own _ rfl _ _ 22 rfl W0.heap.size 38 i0 _ 3 32 Tryd.underlying22 hi hz0 hz1 hz2 rfl (by decide) _ _ _ rfl hown ⟨wr.heap.size, 0, none⟩ 1 1 [.int .i64 2, .string (str []), .int .i64 (a : Int)] rfl rfl (cell_three_new _ _ _ _ _) (three_one _ _ _) (by unfold maxLen; omega) (by omega) (by have := HB.out.size; simp; omega) ?_; intro v9 w9 hown9 hgrow9 hnil9; have HB9 := Lib.hid ((HB.out.alloc HB.out.size (.cells #[.int .i64 2, .string (str []), .int .i64 (a : Int)] 38)).grown hgrow9 (by have := HB.out.size; simp; omega) (fun q hq => (World.ownsRow.lt hown q hq).1)); have HO9 := Lib.hid hown9; clear hown hown9 hgrow9 hnil9)
            go_roundw
            case rel => exact ⟨_, a + 1, by go_num, by omega, by rw [List.length_append, List.length_singleton]; omega, HR2, Lib.hid (ownT_three HO9.out rfl), HB9⟩
            case measure => simp [intOf]; omega
          · by_cases hq2 : s[a].toNat = 125
            · have hqi : (s[a].toNat : Int) = 125 := by omega
              have hq3 := hq
              have hq := hq2
              have HR2 := Lib.hid (HR.out.tok (k := 3) (t := []) (n := 1) (by rw [hd, Lx.step_cons, if_neg (by rw [hbl]; simp), if_neg (by omega), if_neg (by omega), if_pos hq]))
              have hown := World.ownsRow.alloc HO.out (.cells #[.int .i64 3, .string (str []), .int .i64 (a : Int)] 38)
              have cB' : Hid (∀ w, Calls Tryd.prog 22 #[.int .u8 125] w (Is (.bool false) w)) := Lib.hid (fun w => by have h := cB.out w; rw [hbl, hqi] at h; exact h)
              clear hbl hd hq h37 cB
              go_wp2_with fail
              refine (cB'.out _).mono ?_
              rintro e w3 ⟨rfl, rfl⟩
              go_wp2_with (at_builtin; refine wpList_append_own _ rfl _ _ 22 rfl W0.heap.size 38 i0 _ 3 32 Tryd.underlying22 hi hz0 hz1 hz2 rfl (by decide) _ _ _ rfl hown ⟨wr.heap.size, 0, none⟩ 1 1 [.int .i64 3, .string (str []), .int .i64 (a : Int)] rfl rfl (cell_three_new _ _ _ _ _) (three_one _ _ _) (by unfold maxLen; omega) (by omega) (by have := HB.out.size; simp; omega) ?_; intro v9 w9 hown9 hgrow9 hnil9; have HB9 := Lib.hid ((HB.out.alloc HB.out.size (.cells #[.int .i64 3, .string (str []), .int .i64 (a : Int)] 38)).grown hgrow9 (by have := HB.out.size; simp; omega) (fun q hq => (World.ownsRow.lt hown q hq).1)); have HO9 := Lib.hid hown9; clear hown hown9 hgrow9 hnil9)
              go_roundw
              case rel => exact ⟨_, a + 1, by go_num, by omega, by rw [List.length_append, List.length_singleton]; omega, HR2, Lib.hid (ownT_three HO9.out rfl), HB9⟩
              case measure => simp [intOf]; omega
            · have e37 : ((s[a].toNat : Int) == 37) = false := bne0 (by omega)
              have e123 : ((s[a].toNat : Int) == 123) = false := bne0 (by omega)
              have e125 : ((s[a].toNat : Int) == 125) = false := bne0 (by omega)
              have cC := Lib.hid (fun w => refCommand_any s a hlt (by omega) w)
              rw [hbl] at cB
              cases hcm : cmdH (s.data.toList.drop a) with
              | true =>
                rw [hcm] at cC
                have HCm := Lib.hid hcm
                clear hcm hd hbl hq hq2 h37
                go_wp2_with fail
                refine (cB.out _).mono ?_
                rintro e w3 ⟨rfl, rfl⟩
                go_wp2_with fail
                refine (cC.out _).mono ?_
                rintro e w3 ⟨rfl, rfl⟩
                go_wp2_with fail
                go_loopw [9] (fun av wq => ∃ j : Nat, a + 1 ≤ j ∧ j ≤ s.size ∧ av = .int .i64 j ∧ Hid (∀ i, i < j - (a + 1) → ∃ c, (s.data.toList.drop (a + 1))[i]? = some c ∧ Lx.alpha c = true) ∧ wq = wr) (fun av _ => s.size - (intOf av).toNat)
                case atStart => exact ⟨a + 1, Nat.le_refl _, by omega, by go_num, Lib.hid (fun i hi => by omega), rfl⟩
                case round =>
                  obtain ⟨j, haj, hjs, rfl, HA, rfl⟩ := hrel
                  by_cases hj : j < s.size
                  · have j0 : (0 : Int) ≤ (j : Int) := by omega
                    have j1 : (j : Int) < (s.size : Int) := by omega
                    have cA := Lib.hid (fun w => refAlpha_any s[j] w)
                    cases hal : Lx.alpha s[j] with
                    | true =>
                      have HA2 : Hid (∀ i, i < j + 1 - (a + 1) → ∃ c, (s.data.toList.drop (a + 1))[i]? = some c ∧ Lx.alpha c = true) := Lib.hid (fun i hi => by
                        by_cases hij : i < j - (a + 1)
                        · exact HA.out i hij
                        · have e : a + 1 + i = j := by omega
                          have hg := drop_get s (a + 1) i (by omega)
                          refine ⟨_, hg, ?_⟩
                          have e2 : s[a + 1 + i]'(by omega) = s[j] := by congr 1
                          rw [e2]
                          exact hal)
                      rw [hal] at cA
                      clear hal
                      go_wp2_with fail
                      refine (cA.out _).mono ?_
                      rintro e w4 ⟨rfl, rfl⟩
                      go_wp2_with fail
                      go_roundw
                      case rel => exact ⟨j + 1, by omega, by omega, by go_num, HA2, by trivial⟩
                      case measure => simp [intOf]; omega
                    | false =>
                      have HR2 := Lib.hid (HR.out.tok (cmd_len hlt HCm.out haj hjs HA.out (.inr ⟨hj, hal⟩)))
                      rw [hal] at cA
                      clear hal
                      have j2 : (a : Int) + 1 ≤ (j : Int) := by omega
                      have j3 : (j : Int) ≤ (s.size : Int) := by omega
                      have hown := World.ownsRow.alloc HO.out (.cells #[.int .i64 1, .string (s.extract (a + 1) j), .int .i64 (a : Int)] 38)
                      go_wp2_with fail
                      refine (cA.out _).mono ?_
                      rintro e w4 ⟨rfl, rfl⟩
                      go_wp2_with (at_builtin; refine wpList_append_own _ rfl _ _ 22 rfl W0.heap.size 38 i0 _ 3 32 Tryd.underlying22 hi hz0 hz1 hz2 rfl (by decide) _ _ _ rfl hown ⟨wr.heap.size, 0, none⟩ 1 1 [.int .i64 1, .string (s.extract (a + 1) j), .int .i64 (a : Int)] rfl rfl (cell_three_new _ _ _ _ _) (three_one _ _ _) (by unfold maxLen; omega) (by omega) (by have := HB.out.size; simp; omega) ?_; intro v9 w9 hown9 hgrow9 hnil9; have HB9 := Lib.hid ((HB.out.alloc HB.out.size (.cells #[.int .i64 1, .string (s.extract (a + 1) j), .int .i64 (a : Int)] 38)).grown hgrow9 (by have := HB.out.size; simp; omega) (fun q hq => (World.ownsRow.lt hown q hq).1)); have HO9 := Lib.hid hown9; clear hown hown9 hgrow9 hnil9)
                      go_roundw
                      case rel => exact ⟨_, j, rfl, hjs, by rw [List.length_append, List.length_singleton]; omega, Lib.hid (by have h := HR2.out; rw [show a + (j - a) = j by omega] at h; exact h), Lib.hid (ownT_three HO9.out rfl), HB9⟩
                      case measure => simp [intOf]; omega
                  · have HR2 := Lib.hid (HR.out.tok (cmd_len hlt HCm.out haj hjs HA.out (.inl (by omega))))
                    have j2 : (a : Int) + 1 ≤ (j : Int) := by omega
                    have j3 : (j : Int) ≤ (s.size : Int) := by omega
                    have hown := World.ownsRow.alloc HO.out (.cells #[.int .i64 1, .string (s.extract (a + 1) j), .int .i64 (a : Int)] 38)
                    go_wp2_with (at_builtin; refine wpList_append_own _ rfl _ _ 22 rfl W0.heap.size 38 i0 _ 3 32 Tryd.underlying22 hi hz0 hz1 hz2 rfl (by decide) _ _ _ rfl hown ⟨wr.heap.size, 0, none⟩ 1 1 [.int .i64 1, .string (s.extract (a + 1) j), .int .i64 (a : Int)] rfl rfl (cell_three_new _ _ _ _ _) (three_one _ _ _) (by unfold maxLen; omega) (by omega) (by have := HB.out.size; simp; omega) ?_; intro v9 w9 hown9 hgrow9 hnil9; have HB9 := Lib.hid ((HB.out.alloc HB.out.size (.cells #[.int .i64 1, .string (s.extract (a + 1) j), .int .i64 (a : Int)] 38)).grown hgrow9 (by have := HB.out.size; simp; omega) (fun q hq => (World.ownsRow.lt hown q hq).1)); have HO9 := Lib.hid hown9; clear hown hown9 hgrow9 hnil9)
                    go_roundw
                    case rel => exact ⟨_, j, rfl, hjs, by rw [List.length_append, List.length_singleton]; omega, Lib.hid (by have h := HR2.out; rw [show a + (j - a) = j by omega] at h; exact h), Lib.hid (ownT_three HO9.out rfl), HB9⟩
                    case measure => simp [intOf]; omega
              | false =>
                rw [hcm] at cC
                have hcm2 : Lx.isCmd s[a] (s.data.toList.drop (a + 1)) = false := by rw [hd] at hcm; exact hcm
                have cW := Lib.hid (fun w => refWord_any s a ha (by omega) w)
                have hwl := (Lx.word_is (s.data.toList.drop a).length (s.data.toList.drop a) (Nat.le_refl _)).1
                rw [List.length_drop, ← Lib.size_eq] at hwl
                obtain ⟨t, ht⟩ : ∃ t, t = (Lx.word (s.data.toList.drop a)).1 := ⟨_, rfl⟩
                obtain ⟨n, hn⟩ : ∃ n, n = (Lx.word (s.data.toList.drop a)).2 := ⟨_, rfl⟩
                rw [← ht, ← hn] at cW
                rw [← hn] at hwl
                by_cases h0 : n = 0
                · have HBad := Lib.hid (lex_bad_of HCl.out (HR.out.bad (by rw [hd]; simp) (by rw [hd, Lx.step_cons, if_neg (by rw [hbl]; simp), if_neg h37, if_neg hq, if_neg hq2, if_neg (by rw [hcm2]; simp), ← hd, if_pos (by rw [← hn]; exact h0)])))
                  subst h0
                  have cW' : Hid (∀ w, Calls Tryd.prog 32 #[.string s, .int .i64 (a : Int)] w (Is (.tuple #[.string ⟨t.toArray⟩, .int .i64 (a : Int)]) w)) := Lib.hid (fun w => by have h := cW.out w; rw [show ((a : Int) + ((0 : Nat) : Int)) = (a : Int) by omega] at h; exact h)
                  have HG9 := Lib.hid (HG2.out.below HB.out HpW.out)
                  have y0 := HG9.out.c0
                  have y1 := HG9.out.c1
                  have z0 := HG9.out.f0
                  have z1 := HG9.out.f1
                  have HB9 := Lib.hid (HB2.out.trans (HB.out.mono HB2.out.size))
                  clear hcm hcm2 hd hbl hq hq2 h37 ht hn hwl cW
                  go_wp2_with fail
                  refine (cB.out _).mono ?_
                  rintro e w3 ⟨rfl, rfl⟩
                  go_wp2_with fail
                  refine (cC.out _).mono ?_
                  rintro e w3 ⟨rfl, rfl⟩
                  go_wp2_with fail
                  refine (cW'.out _).mono ?_
                  rintro e w3 ⟨rfl, rfl⟩
                  go_wp2_with fail
                  exact bodyPost_ret (v := .tuple #[.slice none 0 0, .agg #[.int .i64 50, .int .i64 (a : Int)]]) (by simp [results, Tryd.results11, go_sem, y0, y1]) rfl ⟨_, by rw [HBad.out.2.1, HBad.out.2.2]; rfl, by rw [HBad.out.1]; exact ownT_nil _ _, (HB9.out.setCell (Nat.le_refl _) _).setCell (Nat.le_refl _) _⟩
                · have HR2 := Lib.hid (HR.out.tok (k := 0) (t := t) (n := n) (by rw [hd, Lx.step_cons, if_neg (by rw [hbl]; simp), if_neg h37, if_neg hq, if_neg hq2, if_neg (by rw [hcm2]; simp), ← hd, if_neg (by rw [← hn]; exact h0), ← ht, ← hn]))
                  have hne : ((a : Int) + (n : Int) == (a : Int)) = false := bne0 (by omega)
                  have hown := World.ownsRow.alloc HO.out (.cells #[.int .i64 0, .string (str t), .int .i64 (a : Int)] 38)
                  clear hcm hcm2 hd hbl hq hq2 h37 ht hn
                  go_wp2_with fail
                  refine (cB.out _).mono ?_
                  rintro e w3 ⟨rfl, rfl⟩
                  go_wp2_with fail
                  refine (cC.out _).mono ?_
                  rintro e w3 ⟨rfl, rfl⟩
                  go_wp2_with fail
                  refine (cW.out _).mono ?_
                  rintro e w3 ⟨rfl, rfl⟩
                  go_wp2_with (at_builtin; refine wpList_append_own _ rfl _ _ 22 rfl W0.heap.size 38 i0 _ 3 32 Tryd.underlying22 hi hz0 hz1 hz2 rfl (by decide) _ _ _ rfl hown ⟨wr.heap.size, 0, none⟩ 1 1 [.int .i64 0, .string (str t), .int .i64 (a : Int)] rfl rfl (cell_three_new _ _ _ _ _) (three_one _ _ _) (by unfold maxLen; omega) (by omega) (by have := HB.out.size; simp; omega) ?_; intro v9 w9 hown9 hgrow9 hnil9; have HB9 := Lib.hid ((HB.out.alloc HB.out.size (.cells #[.int .i64 0, .string (str t), .int .i64 (a : Int)] 38)).grown hgrow9 (by have := HB.out.size; simp; omega) (fun q hq => (World.ownsRow.lt hown q hq).1)); have HO9 := Lib.hid hown9; clear hown hown9 hgrow9 hnil9)
                  go_roundw
                  case rel => exact ⟨_, a + n, by go_num, by omega, by rw [List.length_append, List.length_singleton]; omega, HR2, Lib.hid (ownT_three HO9.out (str_data t)), HB9⟩
                  case measure => simp [intOf]; omega
    · have HE := Lib.hid (lex_yes_of HCl.out (HR.out.done (by rw [← Lib.size_eq]; omega)))
      have HG9 := Lib.hid (HG2.out.below HB.out HpW.out)
      have y0 := HG9.out.c0
      have y1 := HG9.out.c1
      have z0 := HG9.out.f0
      have z1 := HG9.out.f1
      have HB9 := Lib.hid (HB2.out.trans (HB.out.mono HB2.out.size))
      go_wp2_with fail
      exact bodyPost_ret (v := .tuple #[u6, .agg #[.int .i64 0, .int .i64 0]]) (by simp [results, Tryd.results11, go_sem, y0, y1]) rfl ⟨_, by rw [HE.out.2.1, HE.out.2.2]; rfl, by rw [HE.out.1]; exact (ownT_two HO.out HpW.out).base HB2.out.size, (HB9.out.setCell (Nat.le_refl _) _).setCell (Nat.le_refl _) _⟩

/-- The reference's Lex, at every text of at most 2^42 bytes. -/
theorem refLex_any (s : ByteArray) (hs : s.size * 32 ≤ 140737488355328) (w : World) : Calls Tryd.prog 11 #[.string s] w (LexPost s.data.toList w) := by
  cases hc : Ut.clean s.data.toList with
  | false => exact refLex_utf s hs hc w
  | true => exact refLex_ok s hs hc w
end Go.Proofs.YtjlnffdklhmonaaDoor
