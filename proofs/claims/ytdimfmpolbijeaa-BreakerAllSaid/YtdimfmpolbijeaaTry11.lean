/-
  The landed tryLine: a line's cost, and the plans behind its break, better the plans behind its beginning.
-/
import Derived.Test.YtdimfmpolbijeaaLineMid11
set_option linter.unusedVariables false
set_option linter.unusedSimpArgs false
namespace Go.Proofs.Ytdimfmpolbijeaa
open Go.RowKit

/-- blocks that hold no items, but two, stand as they stood -/
def Kept2 (ip bp : Nat) (w w' : World) : Prop := ∀ (j : Nat) (cs : Array Value) (T : TypeId) (fr : Nat × Nat), j ≠ ip → j ≠ bp → T ≠ 47 → w.heap[j]? = some (.cells cs T fr) → w'.heap[j]? = some (.cells cs T fr)
theorem Kept2.trans {ip bp : Nat} {a b c : World} (h : Kept2 ip bp a b) (k : Kept2 ip bp b c) : Kept2 ip bp a c := fun j cs T fr h1 h2 h3 h4 => k j cs T fr h1 h2 h3 (h j cs T fr h1 h2 h3 h4)
theorem Kept2.below {ip bp : Nat} {a b : World} (h : Below a.heap.size a b) : Kept2 ip bp a b := fun j cs T fr _ _ _ h3 => obj_kept h h3
theorem Kept.two {ip bp : Nat} {a b : World} (h : Kept ip a b) : Kept2 ip bp a b := fun j cs T fr h1 _ h3 h4 => h j cs T fr h1 h3 h4
theorem Kept2.grown {ip bp : Nat} {a b : World} (h : a.grownBy b (some bp)) : Kept2 ip bp a b := fun j cs T fr _ h2 _ h4 => obj_far h4 h (fun e => h2 (Option.some.inj e))

/-- the first q plans of a row, bettered -/
def stepF (F : Nat → Nat → It.Pln) (s n : Nat) (x : Nat → It.Pln) : Nat → Nat → It.Pln := fun k q => if k = s ∧ q < n then (if It.better (F s q) (x q) then x q else F s q) else F k q
theorem stepF_zero (F : Nat → Nat → It.Pln) (s : Nat) (x : Nat → It.Pln) : stepF F s 0 x = F := by
  funext k q
  unfold stepF
  rw [if_neg (by omega)]
theorem stepF_next (F : Nat → Nat → It.Pln) (s n : Nat) (x : Nat → It.Pln) : stepF F s (n + 1) x = if It.better (stepF F s n x s n) (x n) then updF (stepF F s n x) s n (x n) else stepF F s n x := by
  have e : stepF F s n x s n = F s n := by unfold stepF; rw [if_neg (by omega)]
  rw [e]
  cases hb : It.better (F s n) (x n) with
  | true =>
    rw [if_pos rfl]
    funext k q
    unfold updF stepF
    by_cases h1 : k = s ∧ q = n
    · obtain ⟨rfl, rfl⟩ := h1
      rw [if_pos (by omega), if_pos hb, if_pos ⟨rfl, rfl⟩]
    · rw [if_neg h1]
      by_cases h2 : k = s ∧ q < n
      · rw [if_pos (by omega), if_pos h2]
      · rw [if_neg (by omega), if_neg h2]
  | false =>
    rw [if_neg (by simp)]
    funext k q
    unfold stepF
    by_cases h1 : k = s ∧ q = n
    · obtain ⟨rfl, rfl⟩ := h1
      rw [if_pos (by omega), if_neg (by rw [hb]; simp), if_neg (by omega)]
    · by_cases h2 : k = s ∧ q < n
      · rw [if_pos (by omega), if_pos h2]
      · rw [if_neg (by omega), if_neg h2]

theorem improve_par (v : Value) (n : Nat) (t tol : Int) (w0 : World) (ip bp : Nat) (F : Nat → Nat → It.Pln) (k q : Nat) (hk : k ≤ n) (hq : q < 4) (x : It.Pln) (w : World) (h : ParW v n t tol w0 ip bp F w) :
    Calls Try.prog 53 #[.pointer (some ⟨bp, k * 16 + q * 4, none⟩), plV x] w fun e w' => e = .returned (.tuple #[]) ∧ ParW v n t tol w0 ip bp (if It.better (F k q) x then updF F k q x else F) w' ∧ w.grownBy w' (some bp) := by
  obtain ⟨h1, h2⟩ := h.hp.rec hk hq
  refine (improve_any bp (k * 16 + q * 4) (F k q) x w h1 h2).mono ?_
  rintro e w' ⟨rfl, m, rfl⟩
  have hB : Below w.heap.size w ((boxPl w x).drewN m) := below_step (below_alloc w _) (below_drew _ m)
  have hP := h.below hB
  refine ⟨rfl, ?_, ?_⟩
  · split
    · exact hP.put hk hq x
    · exact hP
  · split
    · have hg := putPl_grown ((boxPl w x).drewN m) bp (k * 16 + q * 4) x
      have hA := grown_below hB (some bp)
      exact ⟨hg.os.trans hA.os, hg.tape.trans hA.tape, hg.output.trans hA.output, Nat.le_trans hA.size hg.size, fun j hj hne => (hg.block j (Nat.lt_of_lt_of_le hj hA.size) hne).trans (hA.block j hj hne)⟩
    · exact grown_below hB (some bp)

/-- a line that may be asked for -/
structure LineOk (l : List It.Itm) (a : Int) (s b : Nat) : Prop where
  may : It.may l = true
  hs : a + 1 = (s : Int)
  ha : a = -1 ∨ It.legal l a = true
  hb : b < l.length
  lb : It.legal l (b : Int) = true
  sb : s ≤ b
  st : It.st l s ≤ b
  hf : ((l.take b).drop s).any It.forced = false

theorem lineCost_any (v : Value) (l : List It.Itm) (t tol : Int) (w0 : World) (ip bp : Nat) (F : Nat → Nat → It.Pln) (a : Int) (s b : Nat) (sm : It.Sm) (w : World) (hI : ItsAt w0 v l) (hL : LineOk l a s b) (hsm : sm = It.sumG (It.glB l (It.st l s) b)) (hP : ParW v l.length t tol w0 ip bp F w) :
    Calls Try.prog 52 #[.pointer (some ⟨ip, 0, none⟩), .int .i64 a, .int .i64 (b : Int), .agg (smC sm)] w fun e w' => e = .returned (costV (It.costOf l a (b : Int) t tol)) ∧ ParW v l.length t tol w0 ip bp F w' ∧ Kept ip w w' := by
  obtain ⟨hm, hs, ha, hb, lb, sb, st, hf⟩ := hL
  have hx : l[b]? = some l[b] := List.getElem?_eq_getElem hb
  rcases ha with rfl | ha
  · obtain rfl : s = 0 := by omega
    exact lineCost_first v l t tol w0 ip bp F b _ sm w hI hm hx lb st hf hsm hP
  · have h0 : 0 ≤ a := by
      unfold It.legal at ha
      rw [Bool.and_eq_true] at ha
      exact of_decide_eq_true ha.1
    obtain ⟨i, rfl⟩ : ∃ i : Nat, a = (i : Int) := ⟨a.toNat, by omega⟩
    obtain rfl : s = i + 1 := by omega
    have hy : l[i]? = some l[i] := List.getElem?_eq_getElem (by omega)
    exact lineCost_mid v l t tol w0 ip bp F i b _ _ sm w hI hm hy ha hx lb (by omega) st hf hsm hP

/-- the plans, a line more -/
def tryF (l : List It.Itm) (t tol : Int) (a : Int) (s b : Nat) (F : Nat → Nat → It.Pln) : Nat → Nat → It.Pln :=
  match It.costOf l a (b : Int) t tol with
  | none => F
  | some (d, c) => if (F (b + 1) c.toNat).ok then stepF F s 4 (fun q => ⟨d + (F (b + 1) c.toNat).d + It.apartZ c q, b, c, true⟩) else F

set_option maxHeartbeats 16000000 in
set_option maxRecDepth 100000 in
theorem tryLine_any (v : Value) (l : List It.Itm) (t tol : Int) (w0 : World) (ip bp : Nat) (F : Nat → Nat → It.Pln) (a : Int) (s b : Nat) (sm : It.Sm) (w : World) (hI : ItsAt w0 v l) (hL : LineOk l a s b) (hsm : sm = It.sumG (It.glB l (It.st l s) b)) (hF : ∀ q, q < 4 → -700000000000 ≤ (F (b + 1) q).d ∧ (F (b + 1) q).d ≤ 700000000000) (hP : ParW v l.length t tol w0 ip bp F w) :
    Calls Try.prog 39 #[.pointer (some ⟨ip, 0, none⟩), .int .i64 a, .int .i64 (b : Int), .agg (smC sm)] w fun e w' => e = .returned (.tuple #[]) ∧ ParW v l.length t tol w0 ip bp (tryF l t tol a s b F) w' ∧ Kept2 ip bp w w' := by
  have hlen := (It.may_yes hL.may).1
  have HL := Lib.hid hL
  have hB1 := below_alloc w (.cells (smC sm) 80)
  have HX1 := Lib.hid (obj_new w _ rfl (smC sm) 80)
  have HP1 := Lib.hid (hP.below hB1)
  have HK1 := Lib.hid (Kept2.below (ip := ip) (bp := bp) hB1)
  obtain ⟨W1, hW1⟩ : ∃ W1, W1 = w.alloc (.cells (smC sm) 80) := ⟨_, rfl⟩
  rw [← hW1] at HX1 HP1 HK1
  have HC := Lib.hid (lineCost_any v l t tol w0 ip bp F a s b sm W1 hI hL hsm HP1.out)
  obtain ⟨P, hPs⟩ : ∃ P, P = w.heap.size := ⟨_, rfl⟩
  rw [← hPs] at HX1
  have c0 : W1.cell? ⟨P, 0, none⟩ = some (.int .i64 sm.w) := Lib.cell_of_heap HX1.out 0
  have c1 : W1.cell? ⟨P, 1, none⟩ = some (.int .i64 sm.k) := Lib.cell_of_heap HX1.out 1
  have c2 : W1.cell? ⟨P, 2, none⟩ = some (.int .i64 sm.o0) := Lib.cell_of_heap HX1.out 2
  have c3 : W1.cell? ⟨P, 3, none⟩ = some (.int .i64 sm.o1) := Lib.cell_of_heap HX1.out 3
  have c4 : W1.cell? ⟨P, 4, none⟩ = some (.int .i64 sm.o2) := Lib.cell_of_heap HX1.out 4
  have c5 : W1.cell? ⟨P, 5, none⟩ = some (.int .i64 sm.o3) := Lib.cell_of_heap HX1.out 5
  unfold smC at hW1 HC ⊢
  cases hc : It.costOf l a (b : Int) t tol with
  | none =>
    have HE : Hid (tryF l t tol a s b F = F) := Lib.hid (by unfold tryF; rw [hc])
    rw [hc] at HC
    unfold costV at HC
    clear hc hL hP hI hB1 hsm hF
    go_enter Try.func39, Try.ntmps39
    go_upto_region 1 with fail
    rw [← hW1, ← hPs]
    clear hW1 hPs
    go_wp2_with fail
    refine HC.out.mono ?_
    rintro e w2 ⟨rfl, hp2, hk2⟩
    have HP2 := Lib.hid hp2
    have HK2 := Lib.hid (HK1.out.trans hk2.two)
    clear hp2 hk2
    go_wp2
    (try simp only [Exit.inBlock, Exit.then])
    refine bodyPost_ret (results_none rfl _ _ _) rfl ?_
    rw [HE.out]
    exact ⟨rfl, HP2.out, HK2.out⟩
  | some dc =>
    obtain ⟨d, c⟩ := dc
    obtain ⟨hdr, hc0, hc3⟩ := It.cost_range hL.may hc
    obtain ⟨m, rfl⟩ : ∃ m : Nat, c = (m : Int) := ⟨c.toNat, by omega⟩
    have hm4 : m < 4 := by omega
    have hs0 : 0 ≤ s := Nat.zero_le _
    have hsn : s ≤ l.length := by have := hL.sb; have := hL.hb; omega
    have hbn := hL.hb
    have HBb := Lib.hid (fun w h => behind_any ip bp (l.length + 1) (b + 1) (b : Int) rfl (by omega) (by omega) w h)
    have HBa := Lib.hid (fun w h => behind_any ip bp (l.length + 1) s a hL.hs (by omega) (by omega) w h)
    have hFd := hF m hm4
    have m0 : (0 : Int) ≤ (m : Int) := by omega
    have m4 : (m : Int) < 4 := by omega
    rw [hc] at HC
    unfold costV at HC
    simp only [] at HC
    obtain ⟨n, hn⟩ : ∃ n, n = l.length := ⟨_, rfl⟩
    rw [← hn] at HC HP1 HBb HBa hsn hbn ⊢
    cases hok : (F (b + 1) m).ok with
    | false =>
      have HE : Hid (tryF l t tol a s b F = F) := Lib.hid (by unfold tryF; rw [hc]; simp only []; rw [Int.toNat_natCast, hok]; rfl)
      clear hc hL hP hI hB1 hsm hF hdr hFd
      go_enter Try.func39, Try.ntmps39
      go_upto_region 1 with fail
      rw [← hW1, ← hPs]
      clear hW1 hPs
      go_wp2_with fail
      refine HC.out.mono ?_
      rintro e w2 ⟨rfl, hp2, hk2⟩
      have HP2 := Lib.hid hp2
      have HK2 := Lib.hid (HK1.out.trans hk2.two)
      clear hp2 hk2 c0 c1 c2 c3 c4 c5
      have q3 := (HP2.out.hp.rec (k := b + 1) (q := m) (by omega) hm4).1 3 _ rfl
      rw [hok] at q3
      go_wp2_with fail
      refine (HBb.out _ HP2.out.cells.2.2.2).mono ?_
      rintro e w3 ⟨rfl, rfl⟩
      go_wp2
      (try simp only [Exit.inBlock, Exit.then])
      refine bodyPost_ret (results_none rfl _ _ _) rfl ?_
      rw [HE.out]
      exact ⟨rfl, HP2.out, HK2.out⟩
    | true =>
      obtain ⟨E, hE⟩ : ∃ E, E = d + (F (b + 1) m).d := ⟨_, rfl⟩
      have hEw : IntKind.i64.wrap (d + (F (b + 1) m).d) = E := by rw [hE]; exact It.wr_in (by omega) (by omega)
      have hEr : -800000000000 ≤ E ∧ E ≤ 800000000000 := by omega
      have HE : Hid (tryF l t tol a s b F = stepF F s 4 (fun q => ⟨E + It.apartZ m q, b, m, true⟩)) := Lib.hid (by
        unfold tryF; rw [hc]; simp only []; rw [Int.toNat_natCast, hok, if_pos rfl, hE])
      rw [HE.out]
      obtain ⟨X, hX⟩ : ∃ X : Nat → It.Pln, X = fun q => ⟨E + It.apartZ m q, b, m, true⟩ := ⟨_, rfl⟩
      rw [← hX]
      have HXq : Hid (∀ q, X q = ⟨E + It.apartZ m q, b, m, true⟩) := Lib.hid (fun q => by rw [hX])
      clear hc hL hP hI hB1 hsm hF hdr hFd hX
      go_enter Try.func39, Try.ntmps39
      go_upto_region 1 with fail
      rw [← hW1, ← hPs]
      clear hW1 hPs
      go_wp2_with fail
      refine HC.out.mono ?_
      rintro e w2 ⟨rfl, hp2, hk2⟩
      have HP2 := Lib.hid hp2
      have HK2 := Lib.hid (HK1.out.trans hk2.two)
      clear hp2 hk2 c0 c1 c2 c3 c4 c5
      have q3 := (HP2.out.hp.rec (k := b + 1) (q := m) (by omega) hm4).1 3 _ rfl
      have q0 := (HP2.out.hp.rec (k := b + 1) (q := m) (by omega) hm4).1 0 _ rfl
      simp only [Nat.add_zero] at q0
      rw [hok] at q3
      go_wp2_with fail
      refine (HBb.out _ HP2.out.cells.2.2.2).mono ?_
      rintro e w3 ⟨rfl, rfl⟩
      go_wp2_with fail
      refine (HBb.out _ HP2.out.cells.2.2.2).mono ?_
      rintro e w3 ⟨rfl, rfl⟩
      go_wp2_with fail
      (try rw [← hE])
      clear q0 q3 hEw hok hE
      go_loopw [44] (fun kv wr => ∃ j : Nat, j ≤ 4 ∧ kv = .int .i64 j ∧ Hid (ParW v n t tol w0 ip bp (stepF F s j X) wr) ∧ Hid (Kept2 ip bp w wr)) (fun kv _ => 4 - (intOf kv).toNat)
      case atStart => exact ⟨0, Nat.zero_le _, rfl, Lib.hid (by rw [stepF_zero]; exact HP2.out), HK2⟩
      case round =>
        obtain ⟨j, hj, rfl, HP, HK⟩ := hrel
        clear HP2 HK2
        by_cases hlt : j < 4
        · have j0 : (0 : Int) ≤ (j : Int) := by omega
          have jl : (j : Int) < 4 := by omega
          have HD := Lib.hid (below_drew10 wr)
          have HPD := Lib.hid (HP.out.below HD.out)
          have HCl := Lib.hid (fun w => clash_any (j : Int) (m : Int) ⟨by omega, by omega⟩ ⟨hc0, hc3⟩ w)
          have hap := It.apartZ_range (m : Int) (j : Int)
          have HIm := Lib.hid (improve_par v n t tol w0 ip bp (stepF F s j X) s j hsn hlt (X j) wr.drew HPD.out)
          have hXj := HXq.out j
          have hsum : IntKind.i64.wrap (E + It.apartZ m j) = E + It.apartZ m j := It.wr_in (by omega) (by omega)
          rw [← stepF_next] at HIm
          rw [hXj] at HIm
          unfold plV at HIm
          simp only [] at HIm
          generalize It.apartZ (m : Int) (j : Int) = z at HCl HIm hsum hap
          clear hXj hap
          have z3 := HP.out.cells.2.2.2
          go_upto_region 7 with fail
          go_region_held3 (fun _ => True) (trivial) (first | ((with_reducible refine (HBa.out _ HPD.out.cells.2.2.2).mono ?_); rintro e w8 ⟨rfl, rfl⟩) | ((with_reducible refine (HCl.out _).mono ?_); rintro e w8 ⟨rfl, rfl⟩) | ((with_reducible refine HIm.out.mono ?_); rintro e w8 ⟨rfl, hpx, hgx⟩; have HPX := Lib.hid hpx; have HKX := Lib.hid ((HK.out.trans (Kept2.below HD.out)).trans (Kept2.grown hgx)); clear hpx hgx))
          go_wp2_with fail
          go_roundw
          case rel => exact ⟨j + 1, by omega, by go_num, HPX, HKX⟩
          case measure => simp [intOf]; omega
        · obtain rfl : j = 4 := by omega
          go_wp2
          go_end0
          exact ⟨rfl, HP.out, HK.out⟩
end Go.Proofs.Ytdimfmpolbijeaa
