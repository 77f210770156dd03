/-
  The law's text: the words of nodes, down to a depth.
-/
import Derived.Test.YtfjplhgajoehfaaGreatDoorQWor14
set_option linter.unusedVariables false
set_option linter.unusedSimpArgs false
namespace Go.Proofs.YtfjplhgajoehfaaGreatDoor
open Go.RowKit

namespace El
mutual
theorem txtL_len (d : Nat) : ∀ l : List Nd, (txtL d l).length ≤ sizeL l
  | [] => by unfold txtL; simp
  | n :: r => by
    have h1 := txtN_len d n
    have h2 := txtL_len d r
    unfold txtL sizeL
    rw [List.length_append]
    omega
theorem txtN_len (d : Nat) : ∀ n : Nd, (txtN d n).length ≤ sizeN n
  | .mk c x a p => by
    have h0 : ((if c = false then [x] else []) : List Txt).length ≤ 1 := by split <;> simp
    unfold txtN sizeN
    rw [List.length_append]
    by_cases hx : x = tLabel ∨ x = tSet
    · rw [if_pos hx]; simp only [List.length_nil]; omega
    · rw [if_neg hx]
      cases d with
      | zero => simp only [List.length_nil]; omega
      | succ d =>
        have h1 := txtA_len d x a 0
        simp only []
        omega
theorem txtA_len (d : Nat) (x : Txt) : ∀ (a : List (List Nd)) (k : Nat), (txtA d x a k).length ≤ sizeA a
  | [], k => by unfold txtA; simp
  | g :: r, k => by
    have h1 := txtL_len d g
    have h2 := txtA_len d x r (k + 1)
    unfold txtA sizeA
    split
    · rw [List.length_append]; omega
    · simp
end
end El
def TextPost (T : List (List UInt8)) (w : World) (e : Ending) (w' : World) : Prop := ∃ v, e = .returned v ∧ OwnTx w.heap.size v T w' ∧ Below w.heap.size w w'
set_option maxHeartbeats 8000000 in
set_option maxRecDepth 100000 in
theorem text_any : ∀ (d : Nat) (K : Nat → Prop) (v : Value) (l : List Nd) (w : World), d ≤ 64 → El.plainL l = true → El.sizeL l ≤ lim14 → NodesAt w K v l → Calls Tryz.prog 20 #[v, .int .i64 (d : Int)] w (TextPost (El.txtL d l) w) := by
  intro d
  induction d using Nat.strongRecOn with
  | ind d ih =>
    intro K v l w hd hpl hsz h
    have HA := Lib.hid h
    obtain ⟨pa, cp, rfl, hml⟩ := nodes_head h
    have hz : l.length ≤ 9223372036854775807 := by unfold maxLen at hml; omega
    obtain ⟨n, hn⟩ : ∃ n, n = l.length := ⟨_, rfl⟩
    have Hn := Lib.hid hn
    rw [← hn] at HA hz ⊢
    have HI : Hid (∀ (d' : Nat) (g : List El.Nd) (v : Value) (w : World), d = d' + 1 → El.plainL g = true → El.sizeL g ≤ lim14 → NodesAt w K v g → Calls Tryz.prog 20 #[v, .int .i64 (d' : Int)] w (TextPost (El.txtL d' g) w)) := Lib.hid (fun d' g v w e h1 h2 h3 => ih d' (by omega) K v g w (by omega) h1 h2 h3)
    have HPl : Hid (∀ x, x ∈ l → El.plainN x = true) := Lib.hid (by
      clear ih h HI HA Hn hn hsz hml hz
      induction l with
      | nil => intro x hx; cases hx
      | cons y r ihl =>
        unfold El.plainL at hpl
        simp only [Bool.and_eq_true] at hpl
        intro x hx
        cases hx with
        | head => exact hpl.1
        | tail _ hx => exact ihl hpl.2 x hx)
    have HSz : Hid (∀ i x, l[i]? = some x → El.sizeN x ≤ lim14) := Lib.hid (fun i x hx => Nat.le_trans (El.size_nodeN hx) hsz)
    have HTl : Hid ((El.txtL d l).length ≤ lim14) := Lib.hid (Nat.le_trans (El.txtL_len d l) hsz)
    have HT0 : Hid (([] : List (List UInt8)) ++ El.txtL d (l.drop 0) = El.txtL d l) := Lib.hid rfl
    obtain ⟨T, hT⟩ : ∃ T, T = El.txtL d l := ⟨_, rfl⟩
    rw [← hT] at HT0 HTl ⊢
    have hO := own_empty 9 txC 1 w
    have hB := below_alloc w (.cells #[] 9)
    obtain ⟨B, hBe⟩ : ∃ B, B = w.heap.size := ⟨_, rfl⟩
    obtain ⟨W, hW⟩ : ∃ W, W = w.alloc (.cells #[] 9) := ⟨_, rfl⟩
    rw [← hW, ← hBe] at hO
    rw [← hW] at hB
    have HO0 := Lib.hid hO
    have HB0 := Lib.hid hB
    have HBe := Lib.hid hBe
    have HW := Lib.hid hW
    have d0 : (0 : Int) ≤ (d : Int) := by omega
    have d64 : (d : Int) ≤ 64 := by omega
    clear h hml hn ih hT hsz hpl hO hB hBe hW
    go_enter Tryz.func20, Tryz.ntmps20
    go_upto_region 2 with fail
    rw [← HW.out, ← HBe.out]
    go_wp2_with fail
    go_loopw [5, 6] (fun ov iv wr => ∃ (i : Nat) (acc : List (List UInt8)), i ≤ n ∧ iv = .int .i64 i ∧ Hid (acc ++ El.txtL d (l.drop i) = T) ∧ Hid (OwnTx B ov acc wr) ∧ Hid (Below w.heap.size w wr)) (fun _ iv _ => n - (intOf iv).toNat)
    case atStart => exact ⟨0, [], Nat.zero_le _, rfl, HT0, HO0, HB0⟩
    case round =>
      obtain ⟨i, acc, hi, rfl, HT, HO, HB⟩ := hrel
      clear HT0 HO0 HB0
      by_cases hlt : i < n
      · obtain ⟨x, hx⟩ : ∃ x, l[i]? = some x := ⟨_, List.getElem?_eq_getElem (by rw [← Hn.out]; exact hlt)⟩
        have hpx := HPl.out x (List.mem_of_getElem? hx)
        have hsx := HSz.out i x hx
        obtain ⟨b1, o1, c1, e1, pq, cq, y0, y1, y2, y3, hargs⟩ := node_get HA.out hx
        rw [← Hn.out] at e1
        obtain ⟨rfl, rfl⟩ : pa = some ⟨b1, o1, none⟩ ∧ cp = c1 := by injection e1 with a1 a2 a3; exact ⟨a1, a3⟩
        have ht := HT.out
        rw [drop_next14 hx] at ht
        unfold El.txtL at ht
        obtain ⟨c, tx, ags, p⟩ := x
        have HAr0 : ArgsAt w K (.slice pq ags.length cq) ags := hargs
        have y0 := stays_below HB.out b1 _ _ (show w.cell? ⟨b1, o1 + i * 4, none⟩ = some (.bool c) from y0)
        have y1 := stays_below HB.out b1 _ _ (show w.cell? ⟨b1, o1 + i * 4 + 1, none⟩ = some (.string (str tx)) from y1)
        have y2 := stays_below HB.out b1 _ _ (show w.cell? ⟨b1, o1 + i * 4 + 2, none⟩ = some (.slice pq ags.length cq) from y2)
        have y3 := stays_below HB.out b1 _ _ (show w.cell? ⟨b1, o1 + i * 4 + 3, none⟩ = some (.int .i64 p) from y3)
        have hza : ags.length ≤ 9223372036854775807 := by have := HAr0.2.1; unfold maxLen at this; omega
        obtain ⟨na, hna⟩ : ∃ na, na = ags.length := ⟨_, rfl⟩
        have Hna := Lib.hid hna
        have HAr := Lib.hid HAr0
        rw [← hna] at y2 HAr hza
        have HTx := Lib.hid ht
        have HPx := Lib.hid hpx
        have HSx := Lib.hid hsx
        have i0 : (0 : Int) ≤ (i : Int) := by omega
        have il : (i : Int) < (n : Int) := by omega
        have hbx := below_alloc wr (.cells #[.bool c, .string (str tx), .slice pq na cq, .int .i64 p] 89)
        have hox := obj_new wr _ rfl #[.bool c, .string (str tx), .slice pq na cq, .int .i64 p] 89
        obtain ⟨wq, hwq⟩ : ∃ wq, wq = wr.alloc (.cells #[.bool c, .string (str tx), .slice pq na cq, .int .i64 p] 89) := ⟨_, rfl⟩
        obtain ⟨H, hH⟩ : ∃ H, H = wr.heap.size := ⟨_, rfl⟩
        rw [← hwq, ← hH] at hox
        rw [← hwq] at hbx
        have HOx := Lib.hid hox
        have HBq := Lib.hid (below_step HB.out hbx)
        have HOq := Lib.hid (HO.out.mono hbx)
        have HWq := Lib.hid hwq
        have HHe := Lib.hid hH
        clear e1 hx hpx hsx hargs ht hna HAr0 hbx hox hwq hH HT
        go_upto_region 6 with fail
        rw [← HWq.out, ← HHe.out]
        clear y0 y1 y2 y3 HWq HHe HO HB
        have s0 := mcell HOx.out 0 rfl
        have s1 := mcell HOx.out 1 rfl
        have s2 := mcell HOx.out 2 rfl
        cases c with
        | false =>
          obtain rfl : ags = [] := by
            have := HPx.out
            unfold El.plainN at this
            simp only [Bool.false_or, Bool.and_eq_true] at this
            exact List.isEmpty_iff.1 this.1
          have hna := Hna.out
          simp only [List.length_nil] at hna
          subst hna
          have HN : Hid (acc ++ [tx] ++ El.txtL d (l.drop (i + 1)) = T) := Lib.hid (by
            have := HTx.out
            rw [El.txt_word rfl HPx.out] at this
            rw [List.append_assoc]
            exact this)
          have hb3 := below_alloc wq (.cells #[.string (str tx)] 9)
          have HO3 := Lib.hid (HOq.out.mono hb3)
          have HS3 := Lib.hid (slc_new txC_len wq wq.heap.size rfl [tx] 9 (by simp) #[.string (str tx)] rfl)
          have HB3 := Lib.hid (below_step HBq.out hb3)
          have HJ3 := Lib.hid (obj_kept hb3 HOx.out)
          have HLn : Hid (acc.length + 1 ≤ 4194304) := Lib.hid (by
            have h1 := HTl.out
            have h2 := congrArg List.length HN.out
            simp only [List.length_append, List.length_singleton] at h2
            unfold lim14 at h1
            omega)
          clear hb3
          by_cases hL : tx = El.tLabel
          · have hLb : ((str tx).toList == [108, 97, 98, 101, 108]) = true := by rw [txt_eq]; exact decide_eq_true hL
            clear hL
            go_wp2_with (at_builtin; refine wpList_append_slc Tryz.underlying38 infoTx13 rfl (by decide) txC_len txC_cell rfl _ _ rfl B _ _ acc [tx] rfl HO3.out rfl HS3.out (by have := HLn.out; (try simp only [List.length_singleton] at *); omega) (by have := HLn.out; unfold maxLen; (try simp only [List.length_singleton] at *); omega) (by have := HB3.out.size; rw [HBe.out]; exact this) ?_; intro v9 w9 h9 hg9; have HO9 := Lib.hid h9; have HB9 := Lib.hid (below_app HB3.out hg9 (by have := HO3.out; rw [HBe.out] at this; exact this) HB3.out.size); have HJ9 := Lib.hid (obj_far HJ3.out hg9 (own_off9 HO3.out HJ3.out (by decide))); have q1 := mcell HJ9.out 1 rfl; have q2 := mcell HJ9.out 2 rfl; clear h9 hg9)
            go_roundw
            case rel => exact ⟨i + 1, acc ++ [tx], by omega, by go_num, HN, HO9, HB9⟩
            case measure => simp [intOf]; omega
          · have hLb : ((str tx).toList == [108, 97, 98, 101, 108]) = false := by rw [txt_eq]; exact decide_eq_false hL
            clear hL
            by_cases hS : tx = El.tSet
            · have hSb : ((str tx).toList == [115, 101, 116]) = true := by rw [txt_eq]; exact decide_eq_true hS
              clear hS
              go_wp2_with (at_builtin; refine wpList_append_slc Tryz.underlying38 infoTx13 rfl (by decide) txC_len txC_cell rfl _ _ rfl B _ _ acc [tx] rfl HO3.out rfl HS3.out (by have := HLn.out; (try simp only [List.length_singleton] at *); omega) (by have := HLn.out; unfold maxLen; (try simp only [List.length_singleton] at *); omega) (by have := HB3.out.size; rw [HBe.out]; exact this) ?_; intro v9 w9 h9 hg9; have HO9 := Lib.hid h9; have HB9 := Lib.hid (below_app HB3.out hg9 (by have := HO3.out; rw [HBe.out] at this; exact this) HB3.out.size); have HJ9 := Lib.hid (obj_far HJ3.out hg9 (own_off9 HO3.out HJ3.out (by decide))); have q1 := mcell HJ9.out 1 rfl; have q2 := mcell HJ9.out 2 rfl; clear h9 hg9)
              go_roundw
              case rel => exact ⟨i + 1, acc ++ [tx], by omega, by go_num, HN, HO9, HB9⟩
              case measure => simp [intOf]; omega
            · have hSb : ((str tx).toList == [115, 101, 116]) = false := by rw [txt_eq]; exact decide_eq_false hS
              clear hS
              go_wp2_with (at_builtin; refine wpList_append_slc Tryz.underlying38 infoTx13 rfl (by decide) txC_len txC_cell rfl _ _ rfl B _ _ acc [tx] rfl HO3.out rfl HS3.out (by have := HLn.out; (try simp only [List.length_singleton] at *); omega) (by have := HLn.out; unfold maxLen; (try simp only [List.length_singleton] at *); omega) (by have := HB3.out.size; rw [HBe.out]; exact this) ?_; intro v9 w9 h9 hg9; have HO9 := Lib.hid h9; have HB9 := Lib.hid (below_app HB3.out hg9 (by have := HO3.out; rw [HBe.out] at this; exact this) HB3.out.size); have HJ9 := Lib.hid (obj_far HJ3.out hg9 (own_off9 HO3.out HJ3.out (by decide))); have q1 := mcell HJ9.out 1 rfl; have q2 := mcell HJ9.out 2 rfl; clear h9 hg9)
              go_roundw
              case rel => exact ⟨i + 1, acc ++ [tx], by omega, by go_num, HN, HO9, HB9⟩
              case measure => simp [intOf]; omega
        | true =>
          by_cases hL : tx = El.tLabel
          · have hLb : ((str tx).toList == [108, 97, 98, 101, 108]) = true := by rw [txt_eq]; exact decide_eq_true hL
            have HNil : El.txtN d (.mk true tx ags p) = [] := El.txt_none rfl (.inl hL)
            clear hL
            have HN : Hid (acc ++ El.txtL d (l.drop (i + 1)) = T) := Lib.hid (by
              have := HTx.out
              rw [HNil] at this
              exact this)
            clear HNil
            go_wp2_with fail
            go_roundw
            case rel => exact ⟨i + 1, acc, by omega, by go_num, HN, HOq, HBq⟩
            case measure => simp [intOf]; omega
          · have hLb : ((str tx).toList == [108, 97, 98, 101, 108]) = false := by rw [txt_eq]; exact decide_eq_false hL
            by_cases hS : tx = El.tSet
            · have hSb : ((str tx).toList == [115, 101, 116]) = true := by rw [txt_eq]; exact decide_eq_true hS
              have HNil : El.txtN d (.mk true tx ags p) = [] := El.txt_none rfl (.inr hS)
              clear hS hL
              have HN : Hid (acc ++ El.txtL d (l.drop (i + 1)) = T) := Lib.hid (by
                have := HTx.out
                rw [HNil] at this
                exact this)
              clear HNil
              go_wp2_with fail
              go_roundw
              case rel => exact ⟨i + 1, acc, by omega, by go_num, HN, HOq, HBq⟩
              case measure => simp [intOf]; omega
            · have hSb : ((str tx).toList == [115, 101, 116]) = false := by rw [txt_eq]; exact decide_eq_false hS
              have HLS : Hid (¬ (tx = El.tLabel ∨ tx = El.tSet)) := Lib.hid (by rintro (h | h); exact hL h; exact hS h)
              clear hL hS
              by_cases hp : 0 < na
              · have hnb : ((na : Int) == 0) = false := beq_eq_false_iff_ne.2 (by omega)
                by_cases hd0 : d = 0
                · have hdb : ((d : Int) == 0) = true := by rw [hd0]; rfl
                  have HNil : El.txtN d (.mk true tx ags p) = [] := by
                    rw [hd0]
                    unfold El.txtN
                    rw [if_neg (show ¬ (tx = El.tLabel ∨ tx = El.tSet) from HLS.out)]
                    rfl
                  have HN : Hid (acc ++ El.txtL d (l.drop (i + 1)) = T) := Lib.hid (by
                    have := HTx.out
                    rw [HNil] at this
                    exact this)
                  clear HNil
                  go_wp2_with fail
                  go_roundw
                  case rel => exact ⟨i + 1, acc, by omega, by go_num, HN, HOq, HBq⟩
                  case measure => simp [intOf]; omega
                · have hdb : ((d : Int) == 0) = false := beq_eq_false_iff_ne.2 (by omega)
                  have hd' : ¬ ((d : Int) = 0) := by omega
                  obtain ⟨d', hdd⟩ : ∃ d', d = d' + 1 := ⟨d - 1, by omega⟩
                  have HI2 : Hid (∀ (g : List El.Nd) (v : Value) (w : World), El.plainL g = true → El.sizeL g ≤ lim14 → NodesAt w K v g → Calls Tryz.prog 20 #[v, .int .i64 (d' : Int)] w (TextPost (El.txtL d' g) w)) := Lib.hid (fun g v w h1 h2 h3 => HI.out d' g v w hdd h1 h2 h3)
                  clear HI
                  have hcmd : El.txtN d (.mk true tx ags p) = El.txtA d' tx ags 0 := by
                    rw [hdd]
                    unfold El.txtN
                    rw [if_neg (show ¬ (tx = El.tLabel ∨ tx = El.tSet) from HLS.out)]
                    rfl
                  have HU : Hid (acc ++ (El.txtA d' tx (ags.drop 0) 0 ++ El.txtL d (l.drop (i + 1))) = T) := Lib.hid (by
                    have := HTx.out
                    rw [hcmd] at this
                    exact this)
                  have HD : Hid ((d : Int) - 1 = (d' : Int)) := Lib.hid (by omega)
                  clear hcmd hdd
                  go_wp2_with fail
                  go_loopw [5, 8] (fun ov kv wr => ∃ (k : Nat) (acc2 : List (List UInt8)), k ≤ na ∧ kv = .int .i64 k ∧ Hid (acc2 ++ (El.txtA d' tx (ags.drop k) k ++ El.txtL d (l.drop (i + 1))) = T) ∧ Hid (OwnTx B ov acc2 wr) ∧ Hid (wr.heap[H]? = some (.cells #[.bool true, .string (str tx), .slice pq na cq, .int .i64 p] 89 (0, 0))) ∧ Hid (Below w.heap.size w wr)) (fun _ kv _ => na - (intOf kv).toNat)
                  case atStart => exact ⟨0, acc, Nat.zero_le _, rfl, HU, HOq, HOx, HBq⟩
                  case round =>
                    obtain ⟨k, acc2, hk, rfl, HK, HO2, HJ2, HB2⟩ := hrel
                    clear HU HOq HBq HOx s0 s1 s2
                    have s1 := mcell HJ2.out 1 rfl
                    have s2 := mcell HJ2.out 2 rfl
                    by_cases hkl : k < na
                    · by_cases hk0 : k = 0
                      · have hkb : ((k : Int) == 0) = true := by rw [hk0]; rfl
                        have HK0 := Lib.hid hk0
                        clear hk0
                        obtain ⟨g, hg⟩ : ∃ g, ags[k]? = some g := ⟨_, List.getElem?_eq_getElem (by rw [← Hna.out]; exact hkl)⟩
                        obtain ⟨b2, o2, c2, e2, vg, hvg, hgn⟩ := arg_get HAr.out hg
                        rw [← Hna.out] at e2
                        obtain ⟨rfl, rfl⟩ : pq = some ⟨b2, o2, none⟩ ∧ cq = c2 := by injection e2 with a1 a2 a3; exact ⟨a1, a3⟩
                        have hvg := stays_below HB2.out b2 _ _ hvg
                        have HCl := Lib.hid (HI2.out g vg wr (by
                          have := HPx.out
                          unfold El.plainN at this
                          simp only [Bool.true_or, Bool.true_and] at this
                          exact El.plain_arg this hg) (Nat.le_trans (Nat.le_of_lt (El.size_argN (x := .mk true tx ags p) hg)) HSx.out) (hgn.mono HB2.out))
                        obtain ⟨ag, cg, rfl, _⟩ := nodes_head hgn
                        rw [← HD.out] at HCl
                        have ht := HK.out
                        rw [drop_next14 hg] at ht
                        unfold El.txtA at ht
                        have HT2 := Lib.hid ht
                        have k0 : (0 : Int) ≤ (k : Int) := by omega
                        have kl : (k : Int) < (na : Int) := by omega
                        clear e2 hg hgn ht HK
                        have HN : Hid (acc2 ++ El.txtL d' g ++ (El.txtA d' tx (ags.drop (k + 1)) (k + 1) ++ El.txtL d (l.drop (i + 1))) = T) := Lib.hid (by
                          have := HT2.out
                          rw [if_pos (.inl HK0.out)] at this
                          rw [List.append_assoc, ← List.append_assoc (El.txtL d' g)]
                          exact this)
                        have HLn : Hid (acc2.length + (El.txtL d' g).length ≤ 4194304) := Lib.hid (by
                          have h1 := HTl.out
                          have h2 := congrArg List.length HN.out
                          simp only [List.length_append] at h2
                          unfold lim14 at h1
                          omega)
                        go_wp2_with fail
                        refine HCl.out.mono ?_
                        rintro e w2 ⟨v2, rfl, ho2, hb2⟩
                        have HS3 := Lib.hid (OwnR.at ho2 txC_len)
                        have HO3 := Lib.hid (HO2.out.mono hb2)
                        have HJ3 := Lib.hid (obj_kept hb2 HJ2.out)
                        have HB3 := Lib.hid (below_step HB2.out hb2)
                        clear ho2 hb2
                        go_wp2_with (at_builtin; refine wpList_append_slc Tryz.underlying38 infoTx13 rfl (by decide) txC_len txC_cell rfl _ _ rfl B _ _ acc2 (El.txtL d' g) rfl HO3.out rfl HS3.out (by have := HLn.out; (try simp only [List.length_singleton] at *); omega) (by have := HLn.out; unfold maxLen; (try simp only [List.length_singleton] at *); omega) (by have := HB3.out.size; rw [HBe.out]; exact this) ?_; intro v9 w9 h9 hg9; have HO9 := Lib.hid h9; have HB9 := Lib.hid (below_app HB3.out hg9 (by have := HO3.out; rw [HBe.out] at this; exact this) HB3.out.size); have HJ9 := Lib.hid (obj_far HJ3.out hg9 (own_off9 HO3.out HJ3.out (by decide))); clear h9 hg9)
                        go_roundw
                        case rel => exact ⟨k + 1, acc2 ++ El.txtL d' g, by omega, by go_num, HN, HO9, HJ9, HB9⟩
                        case measure => simp [intOf]; omega
                      · have hkb : ((k : Int) == 0) = false := beq_eq_false_iff_ne.2 (by omega)
                        by_cases hE : tx = El.tEd
                        · have hEq : ((str tx).toList == [101, 100]) = true := by rw [txt_eq]; exact decide_eq_true (show tx = [101, 100] from hE)
                          have hEb : ((str tx).toList != [101, 100]) = false := by rw [bne, txt_eq, decide_eq_true (show tx = [101, 100] from hE)]; rfl
                          have HN : Hid (acc2 ++ El.txtL d (l.drop (i + 1)) = T) := Lib.hid (by
                            obtain ⟨g, hg⟩ : ∃ g, ags[k]? = some g := ⟨_, List.getElem?_eq_getElem (by rw [← Hna.out]; exact hkl)⟩
                            have ht := HK.out
                            rw [drop_next14 hg] at ht
                            unfold El.txtA at ht
                            rw [if_neg (by rintro (h | h); exact hk0 h; exact h hE)] at ht
                            exact ht)
                          clear hE
                          go_wp2_with fail
                          go_roundw
                          case rel => exact ⟨i + 1, acc2, by omega, by go_num, HN, HO2, HB2⟩
                          case measure => simp [intOf]; omega
                        · have hEq : ((str tx).toList == [101, 100]) = false := by rw [txt_eq]; exact decide_eq_false (show ¬ tx = [101, 100] from hE)
                          have hEb : ((str tx).toList != [101, 100]) = true := by rw [bne, txt_eq, decide_eq_false (show ¬ tx = [101, 100] from hE)]; rfl
                          have HEd := Lib.hid hE
                          clear hE
                          obtain ⟨g, hg⟩ : ∃ g, ags[k]? = some g := ⟨_, List.getElem?_eq_getElem (by rw [← Hna.out]; exact hkl)⟩
                          obtain ⟨b2, o2, c2, e2, vg, hvg, hgn⟩ := arg_get HAr.out hg
                          rw [← Hna.out] at e2
                          obtain ⟨rfl, rfl⟩ : pq = some ⟨b2, o2, none⟩ ∧ cq = c2 := by injection e2 with a1 a2 a3; exact ⟨a1, a3⟩
                          have hvg := stays_below HB2.out b2 _ _ hvg
                          have HCl := Lib.hid (HI2.out g vg wr (by
                            have := HPx.out
                            unfold El.plainN at this
                            simp only [Bool.true_or, Bool.true_and] at this
                            exact El.plain_arg this hg) (Nat.le_trans (Nat.le_of_lt (El.size_argN (x := .mk true tx ags p) hg)) HSx.out) (hgn.mono HB2.out))
                          obtain ⟨ag, cg, rfl, _⟩ := nodes_head hgn
                          rw [← HD.out] at HCl
                          have ht := HK.out
                          rw [drop_next14 hg] at ht
                          unfold El.txtA at ht
                          have HT2 := Lib.hid ht
                          have k0 : (0 : Int) ≤ (k : Int) := by omega
                          have kl : (k : Int) < (na : Int) := by omega
                          clear e2 hg hgn ht HK
                          have HN : Hid (acc2 ++ El.txtL d' g ++ (El.txtA d' tx (ags.drop (k + 1)) (k + 1) ++ El.txtL d (l.drop (i + 1))) = T) := Lib.hid (by
                            have := HT2.out
                            rw [if_pos (.inr HEd.out)] at this
                            rw [List.append_assoc, ← List.append_assoc (El.txtL d' g)]
                            exact this)
                          have HLn : Hid (acc2.length + (El.txtL d' g).length ≤ 4194304) := Lib.hid (by
                            have h1 := HTl.out
                            have h2 := congrArg List.length HN.out
                            simp only [List.length_append] at h2
                            unfold lim14 at h1
                            omega)
                          go_wp2_with fail
                          refine HCl.out.mono ?_
                          rintro e w2 ⟨v2, rfl, ho2, hb2⟩
                          have HS3 := Lib.hid (OwnR.at ho2 txC_len)
                          have HO3 := Lib.hid (HO2.out.mono hb2)
                          have HJ3 := Lib.hid (obj_kept hb2 HJ2.out)
                          have HB3 := Lib.hid (below_step HB2.out hb2)
                          clear ho2 hb2
                          go_wp2_with (at_builtin; refine wpList_append_slc Tryz.underlying38 infoTx13 rfl (by decide) txC_len txC_cell rfl _ _ rfl B _ _ acc2 (El.txtL d' g) rfl HO3.out rfl HS3.out (by have := HLn.out; (try simp only [List.length_singleton] at *); omega) (by have := HLn.out; unfold maxLen; (try simp only [List.length_singleton] at *); omega) (by have := HB3.out.size; rw [HBe.out]; exact this) ?_; intro v9 w9 h9 hg9; have HO9 := Lib.hid h9; have HB9 := Lib.hid (below_app HB3.out hg9 (by have := HO3.out; rw [HBe.out] at this; exact this) HB3.out.size); have HJ9 := Lib.hid (obj_far HJ3.out hg9 (own_off9 HO3.out HJ3.out (by decide))); clear h9 hg9)
                          go_roundw
                          case rel => exact ⟨k + 1, acc2 ++ El.txtL d' g, by omega, by go_num, HN, HO9, HJ9, HB9⟩
                          case measure => simp [intOf]; omega
                    · have HN : Hid (acc2 ++ El.txtL d (l.drop (i + 1)) = T) := Lib.hid (by
                        have ht := HK.out
                        rw [show List.drop k ags = [] from List.drop_eq_nil_of_le (by rw [← Hna.out]; omega)] at ht
                        unfold El.txtA at ht
                        exact ht)
                      go_wp2_with fail
                      go_roundw
                      case rel => exact ⟨i + 1, acc2, by omega, by go_num, HN, HO2, HB2⟩
                      case measure => simp [intOf]; omega
              · obtain rfl : na = 0 := by omega
                have HNil : El.txtN d (.mk true tx ags p) = [] := by
                  have h0 : ags = [] := List.length_eq_zero_iff.1 Hna.out.symm
                  subst h0
                  unfold El.txtN
                  rw [if_neg (show ¬ (tx = El.tLabel ∨ tx = El.tSet) from HLS.out)]
                  cases d <;> rfl
                have HN : Hid (acc ++ El.txtL d (l.drop (i + 1)) = T) := Lib.hid (by
                  have := HTx.out
                  rw [HNil] at this
                  exact this)
                clear HNil
                go_wp2_with fail
                go_roundw
                case rel => exact ⟨i + 1, acc, by omega, by go_num, HN, HOq, HBq⟩
                case measure => simp [intOf]; omega
      · have HE : Hid (acc = T) := Lib.hid (by
          have := HT.out
          rw [show List.drop i l = [] from List.drop_eq_nil_of_le (by rw [← Hn.out]; omega)] at this
          unfold El.txtL at this
          rw [List.append_nil] at this
          exact this)
        go_wp2
        go_ret
        rw [← HE.out]
        exact ⟨_, rfl, by rw [← HBe.out]; exact HO.out, HB.out⟩
end Go.Proofs.YtfjplhgajoehfaaGreatDoor
