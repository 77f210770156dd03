/-
  The landed visit: a list's nodes, one behind the other, up to the first fault.
-/
import Derived.Test.YtfjplhgajoehfaaGreatDoorQCx14
set_option linter.unusedVariables false
set_option linter.unusedSimpArgs false
namespace Go.Proofs.YtfjplhgajoehfaaGreatDoor
open Go.RowKit

theorem El.then_ok {s : El.St} {f : El.St → El.Res} : (El.Res.ok s).then f = f s := rfl
theorem El.then_bad {c a : Int} {f : El.St → El.Res} : (El.Res.bad c a).then f = .bad c a := rfl
theorem El.visit_app (op : El.Op) : ∀ (l m : List El.Nd) (s : El.St), El.visit op s (l ++ m) = (El.visit op s l).then (fun s1 => El.visit op s1 m)
  | [], m, s => rfl
  | n :: l, m, s => by
    show (op s n).then _ = ((op s n).then _).then _
    cases h : op s n with
    | ok s1 => exact El.visit_app op l m s1
    | bad c a => rfl
theorem El.visit_one (op : El.Op) (s : El.St) (n : El.Nd) : El.visit op s [n] = op s n := by
  show (op s n).then _ = _
  cases op s n <;> rfl
theorem El.visit_step {op : El.Op} {s s' : El.St} {l : List El.Nd} {k : Nat} {n : El.Nd} (hn : l[k]? = some n) (h : El.visit op s (l.take k) = .ok s') : El.visit op s (l.take (k + 1)) = op s' n := by
  rw [It.take_snoc hn, El.visit_app, h, El.then_ok, El.visit_one]
theorem El.visit_stop {op : El.Op} {s : El.St} {l : List El.Nd} {k : Nat} {c a : Int} (h : El.visit op s (l.take k) = .bad c a) : El.visit op s l = .bad c a := by
  rw [← List.take_append_drop k l, El.visit_app, h]
  rfl
theorem El.sizeL_app : ∀ l m : List El.Nd, El.sizeL (l ++ m) = El.sizeL l + El.sizeL m
  | [], m => by simp [El.sizeL]
  | n :: l, m => by simp only [List.cons_append, El.sizeL, El.sizeL_app l m]; omega
theorem El.visit_grows {op : El.Op} (h : Grows op) : ∀ (l : List El.Nd) (s s' : El.St), El.visit op s l = .ok s' → El.sz s' ≤ El.sz s + El.sizeL l
  | [], s, s', e => by cases e; omega
  | n :: l, s, s', e => by
    have e2 : (op s n).then (fun s1 => El.visit op s1 l) = .ok s' := e
    cases h1 : op s n with
    | ok s1 =>
      rw [h1] at e2
      have h2 := h s n s1 h1
      have h3 := El.visit_grows h l s1 s' e2
      simp only [El.sizeL]
      omega
    | bad c a => rw [h1] at e2; cases e2
theorem El.size_part {l : List El.Nd} {k : Nat} {n : El.Nd} (hn : l[k]? = some n) : El.sizeL (l.take k) + El.sizeN n ≤ El.sizeL l := by
  have h := congrArg El.sizeL (List.take_append_drop (k + 1) l)
  rw [It.take_snoc hn, El.sizeL_app, El.sizeL_app] at h
  simp only [El.sizeL] at h
  omega
theorem ndV_eq (n : El.Nd) : n = .mk (El.isCmd n) (El.text n) (El.args n) (El.loc n) := by cases n; rfl

theorem below_box {w : World} (wr : World) (o : Obj) : Below wr.heap.size wr (wr.alloc o) := below_alloc _ _
set_option maxHeartbeats 4000000 in
set_option maxRecDepth 100000 in
theorem visit_any (E : Env14) (lev d : Nat) (nm : List UInt8) (wf cm : Value) (op : El.Op) (hg : Grows op) (HT : TakeC E lev d (.agg #[.string (str nm), wf, cm]) op) : VisitC E lev d (.agg #[.string (str nm), wf, cm]) op := by
  intro S w1 hst l v s w hl hsz hmk
  obtain ⟨⟨ad, cp, rfl, hcp⟩, hm, hq⟩ := hl
  obtain ⟨len, hlen⟩ : ∃ n, n = l.length := ⟨_, rfl⟩
  have HL := Lib.hid hlen
  have hll : len ≤ 9223372036854775807 := by rw [hlen]; unfold maxLen at hm; omega
  have HQ := Lib.hid hq
  obtain ⟨wb, hwb⟩ : ∃ wb, wb = w.alloc (.cells #[.string (str nm), wf, cm] 78) := ⟨_, rfl⟩
  have hb : Below w.heap.size w wb := by rw [hwb]; exact below_alloc _ _
  have HM0 := Lib.hid (hmk.enter hb)
  have HS0 := Lib.hid (hst.enter hmk hb)
  have HBK := Lib.hid (fun lev' d' s' w2 (h : MK E (Plus S w wb) wb lev' d' s' w2) => hmk.back hb h)
  have HBX : Hid ((Plus S w wb) w.heap.size ∧ wb.heap[w.heap.size]? = some (.cells #[.string (str nm), wf, cm] 78 (0, 0))) := Lib.hid ⟨.inr ⟨Nat.le_refl _, by rw [hwb, World.size_alloc]; omega⟩, by rw [hwb]; exact obj_new _ _ rfl _ _⟩
  have HSZ := Lib.hid hsz
  have HG := Lib.hid hg
  have HTT := Lib.hid HT
  have HV0 : Hid (El.visit op s (l.take 0) = .ok s) := Lib.hid rfl
  have q1 := err_nil
  have q2 := err_some
  rw [← hlen]
  clear hm hq hlen hb hst hmk hsz hg HT hcp
  go_enter Tryz.func42, Tryz.ntmps42
  go_wp2_with fail
  rw [← hwb]
  have HWB := Lib.hid hwb
  clear hwb
  go_loopw [10] (fun iv wr => ∃ (k : Nat) (s' : El.St), k ≤ len ∧ iv = .int .i64 k ∧ Hid (El.visit op s (l.take k) = .ok s') ∧ Hid (MK E (Plus S w wb) wb lev d s' wr)) (fun iv _ => len - (intOf iv).toNat)
  case atStart => exact ⟨0, s, Nat.zero_le _, rfl, HV0, HM0⟩
  case round =>
    obtain ⟨k, s', hk, rfl, HV, HM⟩ := hrel
    clear HV0 HM0
    by_cases hlt : k < len
    · obtain ⟨n, hn⟩ : ∃ n, l[k]? = some n := ⟨_, List.getElem?_eq_getElem (by rw [← HL.out]; exact hlt)⟩
      obtain ⟨b1, o1, d1, e1, _, r1⟩ := HQ.out (by rw [← HL.out]; omega)
      obtain ⟨rfl, rfl⟩ : ad = some ⟨b1, o1, none⟩ ∧ cp = d1 := by injection e1 with a1 a2 a3; exact ⟨a1, a3⟩
      have hnd := r1.at hn
      rw [ndV_eq n] at hnd
      unfold NdAt at hnd
      obtain ⟨va, y0, y1, y2, y3, y4⟩ := hnd
      have hbw := HM.out.below
      have z0 := cell_below hbw y0
      have z1 := cell_below hbw y1
      have z2 := cell_below hbw y2
      have z3 := cell_below hbw y3
      have HA := Lib.hid y4
      obtain ⟨⟨pa, ca, rfl, _⟩, _, _⟩ := y4
      have hbx := HM.out.kept HBX.out.1 HBX.out.2
      have x0 := mcell hbx 0 rfl
      have x1 := mcell hbx 1 rfl
      have x2 := mcell hbx 2 rfl
      have k0 : (0 : Int) ≤ (k : Int) := by omega
      have kl : (k : Int) < (len : Int) := by omega
      have HZ : Hid (El.sz s' + El.sizeN n ≤ lim14) := Lib.hid (by
        have h1 := El.visit_grows HG.out _ _ _ HV.out
        have h2 := El.size_part hn
        have h3 := HSZ.out
        omega)
      obtain ⟨wn, hwn⟩ : ∃ wn, wn = wr.alloc (.cells #[.bool (El.isCmd n), .string (str (El.text n)), .slice pa (El.args n).length ca, .int .i64 (El.loc n)] 89) := ⟨_, rfl⟩
      have hbn : Below wr.heap.size wr wn := by rw [hwn]; exact below_alloc _ _
      have HC := Lib.hid (HTT.out _ _ HS0.out n _ s' wn HA.out HZ.out (HM.out.mono hbn))
      have HVS := Lib.hid (El.visit_step hn HV.out)
      have v0 := cell_below (below_alloc wr (.cells #[.bool (El.isCmd n), .string (str (El.text n)), .slice pa (El.args n).length ca, .int .i64 (El.loc n)] 89)) x0
      have v1 := cell_below (below_alloc wr (.cells #[.bool (El.isCmd n), .string (str (El.text n)), .slice pa (El.args n).length ca, .int .i64 (El.loc n)] 89)) x1
      have v2 := cell_below (below_alloc wr (.cells #[.bool (El.isCmd n), .string (str (El.text n)), .slice pa (El.args n).length ca, .int .i64 (El.loc n)] 89)) x2
      clear r1 e1 hbw y0 y1 y2 y3 hbx hbn
      unfold ndV at HC
      go_wp2_with fail
      rw [← hwn]
      clear hwn
      obtain ⟨r, hr⟩ : ∃ r, r = op s' n := ⟨_, rfl⟩
      rw [← hr] at HC HVS
      clear hr
      refine HC.out.mono ?_
      intro e w2 ho
      cases r with
      | ok s2 =>
        obtain ⟨rfl, hm2⟩ := ho
        have HM2 := Lib.hid hm2
        clear hm2 HC
        go_wp2
        go_roundw
        case rel => exact ⟨k + 1, s2, by omega, by go_num, HVS, HM2⟩
        case measure => simp [intOf]; omega
      | bad c a =>
        obtain ⟨ns, ev, s2, rfl, he, hm2⟩ := ho
        have HE := Lib.hid he
        have HM2 := Lib.hid hm2
        have hbx2 := hm2.kept HBX.out.1 HBX.out.2
        have t0 := mcell hbx2 0 rfl
        obtain ⟨T, x, hx⟩ : ∃ T x, ev = .iface T x := by
          cases ns with
          | nil => exact ⟨_, _, he⟩
          | cons _ _ => obtain ⟨u, h, _⟩ := he; exact ⟨_, _, h⟩
        subst hx
        clear he hm2 hbx2 HC x0 x1 x2 v0 v1 v2 z0 z1 z2 z3
        go_wp2
        go_ret
        rw [El.visit_stop HVS.out]
        exact ⟨nm :: ns, _, s2, rfl, ⟨_, rfl, HE.out⟩, HBK.out _ _ _ _ HM2.out⟩
    · have HE : Hid (l.take k = l) := Lib.hid (List.take_of_length_le (by rw [← HL.out]; omega))
      go_wp2
      go_ret
      have h1 := HV.out
      rw [HE.out] at h1
      rw [h1]
      exact ⟨rfl, HBK.out _ _ _ _ HM.out⟩
end Go.Proofs.YtfjplhgajoehfaaGreatDoor
