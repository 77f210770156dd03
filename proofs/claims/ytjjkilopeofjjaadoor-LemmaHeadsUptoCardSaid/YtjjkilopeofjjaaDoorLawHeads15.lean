/-
  LemmaHeads: a head is made of its first and its last word's marks; of one word it is its mark; a head of all the line, where no word stands twice, is the line's short form; to part words elsewhere changes nothing.
-/
import Derived.Test.YtjjkilopeofjjaaDoorFixed15
set_option linter.unusedVariables false
set_option linter.unusedSimpArgs false
namespace Go.Proofs.YtjjkilopeofjjaaDoor
open Go.RowKit

/-- each word is plain already -/
def still (l : List (List UInt8)) : Bool := decide (∀ x ∈ l, Lm.plain x = x)
set_option maxHeartbeats 4000000 in
set_option maxRecDepth 100000 in
theorem stays_any (m : Int) (v : Value) (L : List (List UInt8)) (w : World) (hE : Env15 m w) (h : TxsAt w v L) (hs : TxSm L) : Calls Tryd.prog 20 #[v] w (Ret (.bool (still L)) w) := by
  have HA := Lib.hid h
  have HE := Lib.hid hE
  have HS := Lib.hid hs
  obtain ⟨⟨pa, cp, rfl, hcap⟩, hm, _⟩ := h
  have hza : L.length ≤ 9223372036854775807 := by unfold maxLen at hm; omega
  obtain ⟨n, hn⟩ : ∃ n, n = L.length := ⟨_, rfl⟩
  have Hn := Lib.hid hn
  rw [← hn] at HA hza ⊢
  have H0 : Hid (∀ x ∈ L.take 0, Lm.plain x = x) := Lib.hid (by simp)
  have HB0 : Hid (Below w.heap.size w w) := Lib.hid (Below.refl _ _)
  obtain ⟨q, hq⟩ : ∃ q, q = still L := ⟨_, rfl⟩
  have HQ := Lib.hid hq
  rw [← hq]
  clear hm hcap hE hs hn hq
  go_enter Tryd.func20, Tryd.ntmps20
  go_wp2_with fail
  go_loopw [3] (fun iv wr => ∃ k : Nat, k ≤ n ∧ iv = .int .i64 k ∧ Hid (∀ x ∈ L.take k, Lm.plain x = x) ∧ Hid (Below w.heap.size w wr)) (fun iv _ => n - (intOf iv).toNat)
  case atStart => exact ⟨0, Nat.zero_le _, rfl, H0, HB0⟩
  case round =>
    obtain ⟨k, hk, rfl, HT, HW⟩ := hrel
    clear H0 HB0
    by_cases hlt : k < n
    · obtain ⟨b1, o1, d1, e1, r1⟩ := HA.out.2.2 (by rw [← Hn.out]; omega)
      rw [← Hn.out] at e1
      obtain ⟨rfl, rfl⟩ : pa = some ⟨b1, o1, none⟩ ∧ cp = d1 := by injection e1 with a1 a2 a3; exact ⟨a1, a3⟩
      obtain ⟨x, hx⟩ : ∃ x, L[k]? = some x := ⟨_, List.getElem?_eq_getElem (by rw [← Hn.out]; exact hlt)⟩
      have HY := Lib.hid (fun wx (hb : Below w.heap.size w wx) => (by
        have := tx_cells ((r1 k _ hx).mono hb)
        rw [Nat.mul_one] at this
        exact this : wx.cell? ⟨b1, o1 + k, none⟩ = some (.string (str x))))
      have y0 := HY.out _ HW.out
      have kl : (k : Int) < (n : Int) := by omega
      have kk : (0 : Int) ≤ (k : Int) := by omega
      have HP := Lib.hid (fun wx hw => plainL_any m x (sm_get HS.out hx) wx hw)
      have hq := toList_beq15 (Lm.plain x) x
      have HD : Hid (Below w.heap.size w wr.drew) := Lib.hid (below_step HW.out (below_drew wr 1))
      by_cases he : Lm.plain x = x
      · have HN : Hid (∀ y ∈ L.take (k + 1), Lm.plain y = y) := Lib.hid (fun y hy => by
          rw [Lm.take_succ hx] at hy
          rcases List.mem_append.1 hy with hy | hy
          · exact HT.out y hy
          · simp at hy; subst hy; exact he)
        rw [decide_eq_true he] at hq
        generalize Lm.plain x = px at *
        clear r1 e1 hx he
        go_wp2_with fail
        go_region_held3 (fun w' => w'.cell? ⟨b1, o1 + k, none⟩ = some (.string (str x))) (first | (exact HY.out _ HX5.out) | go_keep) (first | ((with_reducible refine (HP.out _ (HE.out.mono HD.out)).mono ?_); rintro e w5 ⟨rfl, hb5⟩; have HX5 := Lib.hid (below_step HD.out hb5); clear hb5))
        clear y0
        go_wp2
        go_roundw
        case rel => exact ⟨k + 1, by omega, by go_num, HN, HX5⟩
        case measure => simp [intOf]; omega
      · have HN : Hid (q = false) := Lib.hid (HQ.out.trans (by
          unfold still
          exact decide_eq_false (fun h => he (h x (List.mem_of_getElem? hx)))))
        rw [decide_eq_false he] at hq
        generalize Lm.plain x = px at *
        clear r1 e1 hx he
        go_wp2_with fail
        go_region_held3 (fun w' => w'.cell? ⟨b1, o1 + k, none⟩ = some (.string (str x))) (first | (exact HY.out _ HX5.out) | go_keep) (first | ((with_reducible refine (HP.out _ (HE.out.mono HD.out)).mono ?_); rintro e w5 ⟨rfl, hb5⟩; have HX5 := Lib.hid (below_step HD.out hb5); clear hb5))
        clear y0
        go_wp2
        go_ret
        rw [HN.out]
        exact ⟨rfl, HX5.out⟩
    · have HN : Hid (q = true) := Lib.hid (HQ.out.trans (by
        unfold still
        exact decide_eq_true (by have := HT.out; rwa [List.take_of_length_le (by rw [← Hn.out]; omega)] at this)))
      go_wp2
      go_ret
      rw [HN.out]
      exact ⟨rfl, HW.out⟩
/-! ### pieces of a text -/
theorem pre15 {h x : List UInt8} (e : ∃ t, h = x ++ t) : (str x).size ≤ (str h).size ∧ (str h).extract 0 (str x).size = str x := by
  obtain ⟨t, rfl⟩ := e
  refine ⟨by rw [str_size13, str_size13, List.length_append]; omega, ?_⟩
  have : (str (x ++ t)).extract 0 (str x).size = str x := by
    apply ByteArray.ext
    rw [ByteArray.data_extract, str_size13]
    rw [← Array.toList_inj]
    simp [str]
  exact this
theorem suf15 {h x : List UInt8} (e : ∃ t, h = t ++ x) : ∃ d : Nat, (str h).size = d + (str x).size ∧ (str h).extract d (str h).size = str x := by
  obtain ⟨t, rfl⟩ := e
  refine ⟨t.length, by rw [str_size13, str_size13, List.length_append], ?_⟩
  have : (str (t ++ x)).extract t.length (str (t ++ x)).size = str x := by
    apply ByteArray.ext
    rw [ByteArray.data_extract, str_size13]
    rw [← Array.toList_inj]
    simp [str]
  exact this
theorem wr_sub15 {a b d : Nat} (h : a = d + b) (hd : a ≤ 4398046511104) : IntKind.i64.wrap ((a : Int) - (b : Int)) = (d : Int) ∧ wrap64 ((a : Int) - (b : Int)) = (d : Int) := by
  have e : (a : Int) - (b : Int) = (d : Int) := by omega
  rw [e]
  exact ⟨by rw [IntWalk.i64_left]; exact IntWalk.wrap64_in _ ⟨by omega, by omega⟩, w64 (by omega) (by omega)⟩
theorem wr_last15b {n p : Nat} (h : n = p + 1) (hn : n ≤ 281474976710656) : IntKind.i64.wrap ((n : Int) - 1) = (p : Int) ∧ wrap64 ((n : Int) - 1) = (p : Int) := by
  have e : (n : Int) - 1 = (p : Int) := by omega
  rw [e]
  exact ⟨by rw [IntWalk.i64_left]; exact IntWalk.wrap64_in _ ⟨by omega, by omega⟩, w64 (by omega) (by omega)⟩
def single (L : List (List UInt8)) (k : Nat) : Bool := decide (∀ i, i < k → Lm.alls L i = 1)
theorem single_next (L : List (List UInt8)) (k : Nat) : single L (k + 1) = (single L k && (Lm.alls L k == 1)) := by
  unfold single
  rw [Bool.eq_iff_iff, decide_eq_true_iff, Bool.and_eq_true, decide_eq_true_iff, beq_iff_eq]
  constructor
  · intro h; exact ⟨fun i hi => h i (by omega), h k (by omega)⟩
  · rintro ⟨h1, h2⟩ i hi
    rcases Nat.lt_or_ge i k with h | h
    · exact h1 i h
    · obtain rfl : i = k := by omega
      exact h2
theorem head_at {L : List (List UInt8)} {f d : Nat} (h : f + d ≤ L.length) (hd : 0 < d) : Lm.head L (f : Int) ((f + d : Nat) : Int) = Lm.join (Lm.marks L f d) := by
  unfold Lm.head
  rw [if_pos ⟨by omega, by omega, by omega⟩]
  have e1 : ((f : Int)).toNat = f := by omega
  have e2 : (((f + d : Nat) : Int) - (f : Int)).toNat = d := by omega
  rw [e1, e2]
theorem join_len {G : List (List UInt8)} (h : ∀ x ∈ G, x.length ≤ 1048600) : (Lm.join G).length ≤ 4398046511104 := by
  have hat : ∀ k, (Lm.at_ G k).length ≤ 1048600 := fun k => by
    by_cases hk : k < G.length
    · exact h _ (List.mem_of_getElem? (Lm.get_of hk))
    · have : Lm.at_ G k = [] := by unfold Lm.at_; rw [List.getD_eq_getElem?_getD, List.getElem?_eq_none (by omega)]; rfl
      rw [this]; simp
  unfold Lm.join
  split
  · have h0 := hat 0
    have h1 := hat (G.length - 1)
    rw [List.length_append, List.length_append]
    have : Lm.gap.length = 5 := rfl
    omega
  · have := sepd_len G h
    omega
set_option maxHeartbeats 8000000 in
set_option maxRecDepth 100000 in
theorem lemmaHeads_any (v : Value) (L : List (List UInt8)) (f t : Int) (m : Int) (w : World) (h : TxsAt w v L) (hs : TxSm L) (hE : Env15 m w) : Calls Tryd.prog 5 #[v, .agg #[.int .i64 f, .int .i64 t]] w (Ret (.bool true) w) := by
  have HA := Lib.hid h
  have HE := Lib.hid hE
  have HF := Lib.hid (fun wx hx => fixed_any m wx hx)
  have HS := Lib.hid hs
  have HX := Lib.hid (below_alloc w (.cells #[.int .i64 f, .int .i64 t] 24))
  have HCl := Lib.hid (fun wr (hb : Below (w.alloc (.cells #[.int .i64 f, .int .i64 t] 24)).heap.size (w.alloc (.cells #[.int .i64 f, .int .i64 t] 24)) wr) => (⟨cell_below hb (cell_lay w #[.int .i64 f, .int .i64 t] 24 0 _ rfl), cell_below hb (cell_lay w #[.int .i64 f, .int .i64 t] 24 1 _ rfl)⟩ : wr.cell? ⟨w.heap.size, 0, none⟩ = some (.int .i64 f) ∧ wr.cell? ⟨w.heap.size, 1, none⟩ = some (.int .i64 t)))
  have HHd := Lib.hid (fun (a b : Int) wx he hx => head_any m v L a b wx he hx hs)
  have HMk := Lib.hid (fun (k : Nat) (hk : k < L.length) wx he hx => (by
    have := mark_any m v L (k : Int) wx he hx hs
    rw [markI_at hk] at this
    exact this : Calls Tryd.prog 13 #[v, .int .i64 (k : Int)] wx (Ret (.string (str (Lm.mark L k))) wx)))
  have HCt := Lib.hid (fun (k : Nat) (hk : k < L.length) wx he hx => (by
    have := count_any m v L (k : Int) wx he hx hs
    rw [cnt_at hk] at this
    exact this : Calls Tryd.prog 9 #[v, .int .i64 (k : Int)] wx (Ret (cntV ((Lm.nth L k : Int), (Lm.alls L k : Int))) wx)))
  have HSh := Lib.hid (fun wx he hx => shortL_any m v L wx he hx hs)
  obtain ⟨⟨pa, cp, rfl, hcap⟩, hm, _⟩ := h
  have hza : L.length ≤ 9223372036854775807 := by unfold maxLen at hm; omega
  obtain ⟨n, hn⟩ : ∃ n, n = L.length := ⟨_, rfl⟩
  have Hn := Lib.hid hn
  rw [← hn] at HA hza HMk HCt HHd HSh ⊢
  clear hm hcap hE
  by_cases h100 : 100 < n
  · have i100 : (100 : Int) < (n : Int) := by omega
    clear hs hn h100 HCt HMk HHd HSh
    go_enter Tryd.func5, Tryd.ntmps5
    go_wp2_with fail
    refine (HF.out _ (HE.out.mono HX.out)).mono ?_
    rintro e w1 ⟨rfl, hb⟩
    have HB1 := Lib.hid (below_step HX.out hb)
    obtain ⟨c0, c1⟩ := HCl.out _ hb
    clear hb
    go_wp2_with fail
    refine (HF.out _ (HE.out.mono HB1.out)).mono ?_
    rintro e w2 ⟨rfl, hb⟩
    have HB2 := Lib.hid (below_step HB1.out hb)
    clear hb HB1
    go_wp2
    go_ret
    exact ⟨rfl, HB2.out⟩
  have i100 : (n : Int) ≤ 100 := by omega
  by_cases hf0 : f < 0
  · clear hs hn h100 HCt HMk HHd HSh
    go_enter Tryd.func5, Tryd.ntmps5
    go_wp2_with fail
    refine (HF.out _ (HE.out.mono HX.out)).mono ?_
    rintro e w1 ⟨rfl, hb⟩
    have HB1 := Lib.hid (below_step HX.out hb)
    obtain ⟨c0, c1⟩ := HCl.out _ hb
    clear hb
    go_wp2_with fail
    refine (HF.out _ (HE.out.mono HB1.out)).mono ?_
    rintro e w2 ⟨rfl, hb⟩
    have HB2 := Lib.hid (below_step HB1.out hb)
    clear hb HB1
    go_wp2
    go_ret
    exact ⟨rfl, HB2.out⟩
  by_cases htn : (n : Int) < t
  · clear hs hn h100 HCt HMk HHd HSh
    go_enter Tryd.func5, Tryd.ntmps5
    go_wp2_with fail
    refine (HF.out _ (HE.out.mono HX.out)).mono ?_
    rintro e w1 ⟨rfl, hb⟩
    have HB1 := Lib.hid (below_step HX.out hb)
    obtain ⟨c0, c1⟩ := HCl.out _ hb
    clear hb
    go_wp2_with fail
    refine (HF.out _ (HE.out.mono HB1.out)).mono ?_
    rintro e w2 ⟨rfl, hb⟩
    have HB2 := Lib.hid (below_step HB1.out hb)
    clear hb HB1
    go_wp2
    go_ret
    exact ⟨rfl, HB2.out⟩
  by_cases hft : t ≤ f
  · clear hs hn h100 HCt HMk HHd HSh
    go_enter Tryd.func5, Tryd.ntmps5
    go_wp2_with fail
    refine (HF.out _ (HE.out.mono HX.out)).mono ?_
    rintro e w1 ⟨rfl, hb⟩
    have HB1 := Lib.hid (below_step HX.out hb)
    obtain ⟨c0, c1⟩ := HCl.out _ hb
    clear hb
    go_wp2_with fail
    refine (HF.out _ (HE.out.mono HB1.out)).mono ?_
    rintro e w2 ⟨rfl, hb⟩
    have HB2 := Lib.hid (below_step HB1.out hb)
    clear hb HB1
    go_wp2
    go_ret
    exact ⟨rfl, HB2.out⟩
  obtain ⟨F, rfl⟩ : ∃ F : Nat, f = F := ⟨f.toNat, by omega⟩
  obtain ⟨T, rfl⟩ : ∃ T : Nat, t = T := ⟨t.toNat, by omega⟩
  obtain ⟨d, hd⟩ : ∃ d, T = F + d := ⟨T - F, by omega⟩
  obtain ⟨e, he⟩ : ∃ e, T = e + 1 := ⟨T - 1, by omega⟩
  have n100 : n ≤ 100 := by omega
  have hd0 : 0 < d := by omega
  have hTL : F + d ≤ L.length := by rw [← hn]; omega
  have hFl : F < L.length := by omega
  have heL : e < L.length := by omega
  have hhead : Lm.head L (F : Int) (T : Int) = Lm.join (Lm.marks L F d) := by rw [hd]; exact head_at hTL hd0
  have hml := Lm.marks_len L F d
  have hmsm := marks_len15 hs (by omega) F d
  have hfirst := Lm.join_first (Lm.marks L F d) (Lm.mark L F) (by rw [Lm.marks_get _ _ _ _ hd0, Nat.add_zero])
  have hlast := Lm.join_last (Lm.marks L F d) (Lm.mark L e) (by rw [hml, Lm.marks_get _ _ _ _ (by omega), show F + (d - 1) = e by omega])
  have hone : T = F + 1 → Lm.join (Lm.marks L F d) = Lm.mark L F := fun h => by
    obtain rfl : d = 1 := by omega
    exact Lm.join_one _
  have hHl := join_len hmsm
  obtain ⟨hd1, hf1⟩ := pre15 hfirst
  obtain ⟨D, hD, hl1⟩ := suf15 hlast
  have HMF := Lib.hid (fun wx he hx => HMk.out F (by rw [← Hn.out] at hFl; exact hFl) wx he hx)
  have HME := Lib.hid (fun wx he hx => HMk.out e (by rw [← Hn.out] at heL; exact heL) wx he hx)
  have HHh := Lib.hid (fun wx he hx => HHd.out (F : Int) (T : Int) wx he hx)
  rw [hhead] at HHh
  -- the whole line
  obtain ⟨P, hP⟩ : ∃ P, P = L.map Lm.plain := ⟨_, rfl⟩
  have HP := Lib.hid hP
  have HPl : Hid (P.length = n) := Lib.hid (by rw [hP, hn]; simp)
  have hPs : TxSm P := fun x hx => by
    rw [hP] at hx
    obtain ⟨y, hy, rfl⟩ := List.mem_map.1 hx
    have := hs y hy
    have := Lm.plain_length y
    omega
  have HSt := Lib.hid (fun v wx he hx => stays_any m v P wx he hx hPs)
  have HShP := Lib.hid (fun v wx he hx => shortL_any m v P wx he hx hPs)
  have HStill : Hid (still P = true → Lm.short P = Lm.short L) := Lib.hid (fun h => by
    have h2 : P.map Lm.plain = P := by
      have := of_decide_eq_true h
      conv => rhs; rw [← List.map_id P]
      exact List.map_congr_left (fun x hx => this x hx)
    unfold Lm.short
    rw [h2, hP])
  have HOnce : Hid (single L n = true → Lm.head L 0 (n : Int) = Lm.short L) := Lib.hid (fun h => by
    have h1 := of_decide_eq_true h
    have := head_at (L := L) (f := 0) (d := n) (by omega) (by omega)
    rw [Nat.zero_add] at this
    have h0 : ((0 : Nat) : Int) = 0 := rfl
    rw [h0] at this
    rw [this, hn, Lm.marks_once (fun k hk => h1 k (by rw [hn]; exact hk))]
    rfl)
  have HHa := Lib.hid (fun wx he hx => HHd.out 0 (n : Int) wx he hx)
  have HPg := Lib.hid (fun k (x : List UInt8) (hx : L[k]? = some x) => (by rw [hP]; rw [List.getElem?_map, hx]; rfl : P[k]? = some (Lm.plain x)))
  have HR := Lib.hid (fun (hp : 0 < n) => HA.out.2.2 (by rw [← hn]; exact hp))
  have hHs : (str (Lm.join (Lm.marks L F d))).size ≤ 4398046511104 := by rw [str_size13]; exact hHl
  -- letters
  have hOneQ : ((T : Int) == (F : Int) + 1) = true → ((str (Lm.join (Lm.marks L F d))).toList == (str (Lm.mark L F)).toList) = true := fun h => by
    have := beq_iff_eq.1 h
    rw [hone (by omega)]; simp
  have HOneQ := Lib.hid hOneQ
  have kw := wr_last15b he (by omega)
  obtain ⟨kw1, kw2⟩ := kw
  have zz : ((str (Lm.join (Lm.marks L F d))).size : Int) - ((str (Lm.mark L e)).size : Int) = (D : Int) := by omega
  have z6 : ((str (Lm.join (Lm.marks L F d))).size : Int) ≤ 4398046511104 := by omega
  have z1 : ((str (Lm.mark L F)).size : Int) ≤ ((str (Lm.join (Lm.marks L F d))).size : Int) := by omega
  have z2 : ((str (Lm.mark L e)).size : Int) ≤ ((str (Lm.join (Lm.marks L F d))).size : Int) := by omega
  have z3 : (D : Int) ≤ ((str (Lm.join (Lm.marks L F d))).size : Int) := by omega
  have z4 : (0 : Int) ≤ (D : Int) := by omega
  have z5 : (0 : Int) ≤ ((str (Lm.mark L F)).size : Int) := by omega
  have f0 : (0 : Int) ≤ (F : Int) := by omega
  have ft : (F : Int) < (T : Int) := by omega
  have tn : (T : Int) ≤ (n : Int) := by omega
  have fw : (F : Int) ≤ 100 := by omega
  have dd1 : decide ((100 : Int) < (n : Int)) = false := decide_eq_false (by omega)
  have dd2 : decide ((F : Int) < 0) = false := decide_eq_false (by omega)
  generalize str (Lm.join (Lm.marks L F d)) = H at *
  generalize str (Lm.mark L F) = A at *
  generalize str (Lm.mark L e) = B at *
  clear hs hn h100 HMk hf0 htn hft hd he hd0 hTL hFl heL hhead hml hmsm hfirst hlast hone hHl hd1 hD hP hPs hOneQ hHs HHd
  go_enter Tryd.func5, Tryd.ntmps5
  go_wp2_with fail
  refine (HF.out _ (HE.out.mono HX.out)).mono ?_
  rintro e w1 ⟨rfl, hb⟩
  have HB1 := Lib.hid (below_step HX.out hb)
  obtain ⟨c0, c1⟩ := HCl.out _ hb
  clear hb
  have HA1 := Lib.hid (HA.out.mono HB1.out)
  go_wp2_with fail
  refine (HHh.out _ (HE.out.mono HB1.out) HA1.out).mono ?_
  rintro e2 w2 ⟨rfl, hb⟩
  have HB2 := Lib.hid (below_step HB1.out hb)
  have HK2 : Hid (∀ wx, Below w2.heap.size w2 wx → wx.cell? ⟨w.heap.size, 0, none⟩ = some (.int .i64 (F : Int)) ∧ wx.cell? ⟨w.heap.size, 1, none⟩ = some (.int .i64 (T : Int))) := Lib.hid (fun wx hx => ⟨cell_below hx (cell_below hb c0), cell_below hx (cell_below hb c1)⟩)
  have c0 := cell_below hb c0
  have c1 := cell_below hb c1
  clear hb HHh
  have HD2 : Hid (Below w2.heap.size w2 w2.drew) := Lib.hid (below_drew w2 1)
  go_wp2_with fail
  go_region_held3 (fun w' => w'.cell? ⟨w.heap.size, 0, none⟩ = some (.int .i64 (F : Int)) ∧ w'.cell? ⟨w.heap.size, 1, none⟩ = some (.int .i64 (T : Int))) (first | (exact HK2.out _ HX6.out) | (exact HK2.out _ HX5.out) | go_keep) (first | ((with_reducible refine (HMF.out _ (HE.out.mono (below_step HB2.out HD2.out)) (HA.out.mono (below_step HB2.out HD2.out))).mono ?_); rintro e w5 ⟨rfl, hb5⟩; have HX5 := Lib.hid (below_step HD2.out hb5); clear hb5) | ((with_reducible refine (HME.out _ (HE.out.mono (below_step HB2.out HX5.out)) (HA.out.mono (below_step HB2.out HX5.out))).mono ?_); rintro e w6 ⟨rfl, hb6⟩; have HX6 := Lib.hid (below_step HX5.out hb6); clear hb6))
  obtain ⟨c0, c1⟩ := HK2.out _ HX6.out
  have HB6 := Lib.hid (below_step HB2.out HX6.out)
  clear HK2 HX5 HX6 HD2 HMF HME kw1 kw2 HB1 HB2 HA1
  have dz1 : decide (H.size < A.size) = false := decide_eq_false (by omega)
  have dz2 : decide (H.size < B.size) = false := decide_eq_false (by omega)
  have HO0 : Hid (OwnTx w6.heap.size (.slice (some ⟨w6.heap.size, 0, none⟩) 0 0) (P.take 0) (w6.alloc (.cells #[] 9))) := Lib.hid (own_empty _ _ _ _)
  have HW0 : Hid (Below w6.heap.size w6 (w6.alloc (.cells #[] 9))) := Lib.hid (below_alloc _ _)
  have HG0 : Hid (single L 0 = true) := Lib.hid (decide_eq_true (fun i h => by omega))
  have hfin : ∀ b : Bool, ((T : Int) == (F : Int) + 1) = b → True := fun _ _ => trivial
  cases hTF : ((T : Int) == (F : Int) + 1)
  case' false => skip
  case' true => have hHA := HOneQ.out hTF
  all_goals
    go_wp2_with fail
    clear c0 c1 hf1 hl1 z1 z2 z3 z4 z5 z6 zz
    go_loopw [8, 9, 10] (fun kv ov iv wr => ∃ k : Nat, k ≤ n ∧ iv = .int .i64 k ∧ ov = .bool (single L k) ∧ Hid (OwnTx w6.heap.size kv (P.take k) wr) ∧ Hid (Below w6.heap.size w6 wr)) (fun _ _ iv _ => n - (intOf iv).toNat)
    case atStart => exact ⟨0, Nat.zero_le _, rfl, by rw [HG0.out], HO0, HW0⟩
    case round =>
      obtain ⟨k, hk, rfl, rfl, HO, HW⟩ := hrel
      clear HO0 HW0 HG0
      by_cases hlt : k < n
      · obtain ⟨b1, o1, d1, e1, r1⟩ := HR.out (by omega)
        rw [← Hn.out] at e1
        obtain ⟨rfl, rfl⟩ : pa = some ⟨b1, o1, none⟩ ∧ cp = d1 := by injection e1 with a1 a2 a3; exact ⟨a1, a3⟩
        obtain ⟨x, hx⟩ : ∃ x, L[k]? = some x := ⟨_, List.getElem?_eq_getElem (by rw [← Hn.out]; exact hlt)⟩
        have HBk := Lib.hid (below_step HB6.out HW.out)
        have y0 := tx_cells ((r1 k x hx).mono HBk.out)
        rw [Nat.mul_one] at y0
        have kl : (k : Int) < (n : Int) := by omega
        have kk : (0 : Int) ≤ (k : Int) := by omega
        have HPx := Lib.hid (plainL_any m x (sm_get HS.out hx) wr (HE.out.mono HBk.out))
        have hpg := HPg.out k x hx
        have HTk : Hid (P.take (k + 1) = P.take k ++ [Lm.plain x]) := Lib.hid (by rw [List.take_add_one, hpg]; rfl)
        have HLi : Hid ((P.take k).length = k) := Lib.hid (by rw [List.length_take, HPl.out]; omega)
        have HCk := Lib.hid (fun wx he hx => HCt.out k hlt wx he hx)
        have HSn := Lib.hid (single_next L k)
        have HIa : Hid (((Lm.alls L k : Int) == 1) = (Lm.alls L k == 1)) := Lib.hid (by
          by_cases e : Lm.alls L k = 1
          · rw [e]; rfl
          · rw [beq_eq_false_iff_ne.2 e, beq_eq_false_iff_ne]; omega)
        generalize Lm.plain x = px at *
        generalize Lm.nth L k = nk at *
        clear r1 e1 hx hpg
        go_wp2_with fail
        refine HPx.out.mono ?_
        rintro e3 w7 ⟨rfl, hb7⟩
        have HO7 := Lib.hid (HO.out.mono hb7)
        have HW7 := Lib.hid (HW.out.trans (hb7.mono HW.out.size))
        clear hb7 y0 HO HW HPx
        have hb3 := below_alloc w7 (.cells #[.string (str px)] 9)
        have HO3 := Lib.hid (HO7.out.mono hb3)
        have HS3 := Lib.hid (slc_new txC_len w7 w7.heap.size rfl [px] 9 (by simp) #[.string (str px)] rfl)
        have HW3 := Lib.hid (HW7.out.trans (hb3.mono HW7.out.size))
        clear hb3 HO7 HW7
        cases hsk : single L k
        all_goals
          rw [hsk] at HSn
          go_wp2_with (at_builtin; refine wpList_append_slc Tryd.underlying22 infoTx13 rfl (by decide) txC_len txC_cell rfl _ _ rfl w6.heap.size _ _ (P.take k) [px] rfl HO3.out rfl HS3.out (by rw [HLi.out]; simp; omega) (by rw [HLi.out]; unfold maxLen; simp; omega) HW3.out.size ?_; intro v9 w9 h9 hg9; have HO9 := Lib.hid (HTk.out ▸ h9); have HW9 := Lib.hid (below_app HW3.out hg9 HO3.out HW3.out.size); clear h9 hg9)
          have HB9 := Lib.hid (below_step HB6.out HW9.out)
          refine (HCk.out _ (HE.out.mono HB9.out) (HA.out.mono HB9.out)).mono ?_
          rintro e4 w8 ⟨rfl, hb8⟩
          have HO8 := Lib.hid (HO9.out.mono hb8)
          have HW8 := Lib.hid (HW9.out.trans (hb8.mono HW9.out.size))
          unfold cntV
          clear hb8 HO9 HW9 HO3 HW3 HS3 HCk
          go_wp2
          go_roundw
          case rel => exact ⟨k + 1, by omega, by go_num, by rw [HSn.out]; first | rfl | (rw [← HIa.out]; rfl), HO8, HW8⟩
          case measure => simp [intOf]; omega
      · obtain rfl : k = n := by omega
        have HF2 : Hid (P.take k = P) := Lib.hid (List.take_of_length_le (by rw [HPl.out]; omega))
        rw [HF2.out] at HO
        have HBk := Lib.hid (below_step HB6.out HW.out)
        have HPv := Lib.hid (OwnR.at HO.out txC_len)
        cases hst : still P
        case false =>
          rw [hst] at HSt
          cases hon : single L k
          case false =>
            generalize Lm.short L = sl at *
            clear HStill HOnce hst hon hTF HCt HF
            go_wp2_with fail
            refine (HSt.out _ wr (HE.out.mono HBk.out) HPv.out).mono ?_
            rintro e4 wa ⟨rfl, hb⟩
            have HVwa := Lib.hid (hb)
            have HZwa := Lib.hid (below_step HBk.out HVwa.out)
            clear hb
            go_wp2_with fail
            refine (HSt.out _ wa (HE.out.mono HZwa.out) (HPv.out.mono HVwa.out)).mono ?_
            rintro e4 wc ⟨rfl, hb⟩
            have HVwc := Lib.hid (below_step HVwa.out hb)
            have HZwc := Lib.hid (below_step HBk.out HVwc.out)
            clear hb
            go_wp2
            go_ret
            exact ⟨rfl, HZwc.out⟩
          case true =>
            rw [HOnce.out hon] at HHa
            generalize Lm.short L = sl at *
            clear HStill HOnce hst hon hTF HCt HF
            go_wp2_with fail
            refine (HSt.out _ wr (HE.out.mono HBk.out) HPv.out).mono ?_
            rintro e4 wa ⟨rfl, hb⟩
            have HVwa := Lib.hid (hb)
            have HZwa := Lib.hid (below_step HBk.out HVwa.out)
            clear hb
            go_wp2_with fail
            refine (HSt.out _ wa (HE.out.mono HZwa.out) (HPv.out.mono HVwa.out)).mono ?_
            rintro e4 wc ⟨rfl, hb⟩
            have HVwc := Lib.hid (below_step HVwa.out hb)
            have HZwc := Lib.hid (below_step HBk.out HVwc.out)
            clear hb
            go_wp2_with fail
            refine (HHa.out wc (HE.out.mono HZwc.out) (HA.out.mono HZwc.out)).mono ?_
            rintro e4 wd ⟨rfl, hb⟩
            have HVwd := Lib.hid (below_step HVwc.out hb)
            have HZwd := Lib.hid (below_step HBk.out HVwd.out)
            clear hb
            go_wp2_with fail
            refine (HSh.out wd (HE.out.mono HZwd.out) (HA.out.mono HZwd.out)).mono ?_
            rintro e4 we ⟨rfl, hb⟩
            have HVwe := Lib.hid (below_step HVwd.out hb)
            have HZwe := Lib.hid (below_step HBk.out HVwe.out)
            clear hb
            go_wp2
            go_ret
            exact ⟨rfl, HZwe.out⟩
        case true =>
          rw [hst] at HSt
          rw [HStill.out hst] at HShP
          cases hon : single L k
          case false =>
            generalize Lm.short L = sl at *
            clear HStill HOnce hst hon hTF HCt HF
            go_wp2_with fail
            refine (HSt.out _ wr (HE.out.mono HBk.out) HPv.out).mono ?_
            rintro e4 wa ⟨rfl, hb⟩
            have HVwa := Lib.hid (hb)
            have HZwa := Lib.hid (below_step HBk.out HVwa.out)
            clear hb
            go_wp2_with fail
            refine (HShP.out _ wa (HE.out.mono HZwa.out) (HPv.out.mono HVwa.out)).mono ?_
            rintro e4 wb ⟨rfl, hb⟩
            have HVwb := Lib.hid (below_step HVwa.out hb)
            have HZwb := Lib.hid (below_step HBk.out HVwb.out)
            clear hb
            go_wp2_with fail
            refine (HSh.out wb (HE.out.mono HZwb.out) (HA.out.mono HZwb.out)).mono ?_
            rintro e4 wc ⟨rfl, hb⟩
            have HVwc := Lib.hid (below_step HVwb.out hb)
            have HZwc := Lib.hid (below_step HBk.out HVwc.out)
            clear hb
            go_wp2
            go_ret
            exact ⟨rfl, HZwc.out⟩
          case true =>
            rw [HOnce.out hon] at HHa
            generalize Lm.short L = sl at *
            clear HStill HOnce hst hon hTF HCt HF
            go_wp2_with fail
            refine (HSt.out _ wr (HE.out.mono HBk.out) HPv.out).mono ?_
            rintro e4 wa ⟨rfl, hb⟩
            have HVwa := Lib.hid (hb)
            have HZwa := Lib.hid (below_step HBk.out HVwa.out)
            clear hb
            go_wp2_with fail
            refine (HShP.out _ wa (HE.out.mono HZwa.out) (HPv.out.mono HVwa.out)).mono ?_
            rintro e4 wb ⟨rfl, hb⟩
            have HVwb := Lib.hid (below_step HVwa.out hb)
            have HZwb := Lib.hid (below_step HBk.out HVwb.out)
            clear hb
            go_wp2_with fail
            refine (HSh.out wb (HE.out.mono HZwb.out) (HA.out.mono HZwb.out)).mono ?_
            rintro e4 wc ⟨rfl, hb⟩
            have HVwc := Lib.hid (below_step HVwb.out hb)
            have HZwc := Lib.hid (below_step HBk.out HVwc.out)
            clear hb
            go_wp2_with fail
            refine (HHa.out wc (HE.out.mono HZwc.out) (HA.out.mono HZwc.out)).mono ?_
            rintro e4 wd ⟨rfl, hb⟩
            have HVwd := Lib.hid (below_step HVwc.out hb)
            have HZwd := Lib.hid (below_step HBk.out HVwd.out)
            clear hb
            go_wp2_with fail
            refine (HSh.out wd (HE.out.mono HZwd.out) (HA.out.mono HZwd.out)).mono ?_
            rintro e4 we ⟨rfl, hb⟩
            have HVwe := Lib.hid (below_step HVwd.out hb)
            have HZwe := Lib.hid (below_step HBk.out HVwe.out)
            clear hb
            go_wp2
            go_ret
            exact ⟨rfl, HZwe.out⟩
end Go.Proofs.YtjjkilopeofjjaaDoor
