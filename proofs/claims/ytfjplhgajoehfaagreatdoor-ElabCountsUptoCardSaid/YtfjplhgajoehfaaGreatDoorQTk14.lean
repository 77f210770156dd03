/-
  A context's take: from what its functions do.
-/
import Derived.Test.YtfjplhgajoehfaaGreatDoorQVisit14
set_option linter.unusedVariables false
set_option linter.unusedSimpArgs false
namespace Go.Proofs.YtfjplhgajoehfaaGreatDoor
open Go.RowKit

abbrev Enters (k : Nat) : Prop := ∀ args w, (callFunc k args).run Tryz.prog w = .ok (.enter k args) w
/-- function k, called on what mk makes of a node, does what op says -/
def OpA (E : Env14) (lev d : Nat) (k : Nat) (mk : Value → Array Value) (ar : Nat → Prop) (op : El.Op) : Prop := ∀ (S : Nat → Prop) (w1 : World), Stat14 E S w1 → ∀ (n : El.Nd) (va : Value) (s : El.St) (w : World), ArgsAt E.w0 (fun _ => True) va (El.args n) → ar (El.args n).length → El.sz s + El.sizeN n ≤ lim14 → MK E S w1 lev d s w →
  Calls Tryz.prog k (mk (ndV n va)) w (Out14 E S w1 lev d (op s n))
def FnW (E : Env14) (lev d : Nat) (fv : Value) (ar : Nat → Prop) (op : El.Op) : Prop :=
  (∃ k, fv = E.mf k ∧ Enters k ∧ OpA E lev d k (fun v => #[E.m, v]) ar op) ∨ (∃ k, fv = .func (.func k) #[] #[] ∧ Enters k ∧ OpA E lev d k (fun v => #[v]) ar op) ∨ (∃ k p1 p2, fv = .func (.func k) #[] #[p1, p2] ∧ Enters k ∧ OpA E lev d k (fun v => #[v, p1, p2]) ar op)
theorem FnW.func {E : Env14} {lev d : Nat} {fv : Value} {ar : Nat → Prop} {op : El.Op} (h : FnW E lev d fv ar op) : ∃ fn x y, fv = .func fn x y := by
  rcases h with ⟨k, rfl, _⟩ | ⟨k, rfl, _⟩ | ⟨k, p1, p2, rfl, _⟩ <;> exact ⟨_, _, _, rfl⟩
theorem fail_out {E : Env14} {S : Nat → Prop} {w1 : World} {lev d : Nat} {s : El.St} {w : World} {c a : Int} {k : Nat} {xs : Array Value} (hmk : MK E S w1 lev d s w)
    (h : Calls Tryz.prog k xs w (Ret (.iface 69 (.agg #[.int .i64 c, .int .i64 a])) w)) : Calls Tryz.prog k xs w (Out14 E S w1 lev d (.bad c a)) := by
  refine h.mono ?_
  rintro e w' ⟨rfl, hb⟩
  exact ⟨[], _, s, rfl, rfl, (hmk.mono hb).down (Nat.zero_le _)⟩
theorem takeC_gen (E : Env14) (lev d : Nat) (nm : List UInt8) (wf cm : Value) (b : Nat) (lst : List (List UInt8 × Value)) (wd : Option El.Op) (rules : List UInt8 → Option (Nat × El.Op))
    (hcm : (cm = .map none ∧ lst = []) ∨ (cm = .map (some b) ∧ ∀ S w1, Stat14 E S w1 → Map14 w1 b lst ∧ S b))
    (hw : match wd with
      | none => wf = .nilFunc
      | some f => FnW E lev d wf (fun _ => True) f)
    (hr : ∀ x, match rules x with
      | none => look x lst = none
      | some (j, f) => ∃ fv, look x lst = some (ruleV j fv) ∧ FnW E lev d fv (fun l => l = j) f) : TakeC E lev d (.agg #[.string (str nm), wf, cm]) (El.take wd rules) := by
  intro S w1 hst n va s w hva hsz hmk
  obtain ⟨cmd, x, args, a⟩ := n
  have hva' := hva
  obtain ⟨⟨pa, ca, rfl, _⟩, _, _⟩ := hva'
  cases cmd with
  | false =>
    cases wd with
    | none =>
      simp only [] at hw
      subst hw
      exact fail_out hmk (take_noWord nm x cm _ a w)
    | some f =>
      simp only [] at hw
      rcases hw with ⟨k, rfl, hk, hop⟩ | ⟨k, rfl, hk, hop⟩ | ⟨k, p1, p2, rfl, hk, hop⟩
      · exact take_word k hk nm x cm _ E.m a w _ Out14.ret (fun w2 hb => hop S w1 hst (.mk false x args a) _ s w2 hva trivial hsz (hmk.mono hb))
      · exact take_wordF k hk nm x cm _ a w _ Out14.ret (fun w2 hb => hop S w1 hst (.mk false x args a) _ s w2 hva trivial hsz (hmk.mono hb))
      · exact take_wordC k hk nm x cm _ p1 p2 a w _ Out14.ret (fun w2 hb => hop S w1 hst (.mk false x args a) _ s w2 hva trivial hsz (hmk.mono hb))
  | true =>
    have hrx := hr x
    show Calls _ _ _ _ (Out14 E S w1 lev d (match rules x with
      | none => .bad 142 a
      | some (k, f) => if args.length = k then f s (.mk true x args a) else .bad 143 a))
    rcases hcm with ⟨rfl, rfl⟩ | ⟨rfl, hcm⟩
    · cases hx : rules x with
      | none => exact fail_out hmk (take_nilRule nm x wf _ a w)
      | some jf =>
        rw [hx] at hrx
        obtain ⟨fv, h1, _⟩ := hrx
        cases h1
    · obtain ⟨h1, h2⟩ := hcm S w1 hst
      have hm : Map14 w b lst := by
        obtain ⟨K, y, h⟩ := hmk
        exact h1.same (h.keep b h2)
      cases hx : rules x with
      | none =>
        rw [hx] at hrx
        exact fail_out hmk (take_noRule nm x wf _ b lst a w hm hrx)
      | some jf =>
        obtain ⟨j, f⟩ := jf
        rw [hx] at hrx
        obtain ⟨fv, h1, hf⟩ := hrx
        show Calls _ _ _ _ (Out14 E S w1 lev d (if args.length = j then f s (.mk true x args a) else .bad 143 a))
        by_cases hj : args.length = j
        · rw [if_pos hj]
          subst hj
          rcases hf with ⟨k, rfl, hk, hop⟩ | ⟨k, rfl, hk, hop⟩ | ⟨k, p1, p2, rfl, hk, hop⟩
          · exact take_do k hk nm x wf E.m b _ ca pa lst a w hm h1 _ Out14.ret (fun w2 hb => hop S w1 hst (.mk true x args a) _ s w2 hva rfl hsz (hmk.mono hb))
          · exact take_doF k hk nm x wf b _ ca pa lst a w hm h1 _ Out14.ret (fun w2 hb => hop S w1 hst (.mk true x args a) _ s w2 hva rfl hsz (hmk.mono hb))
          · exact take_doC k hk nm x wf p1 p2 b _ ca pa lst a w hm h1 _ Out14.ret (fun w2 hb => hop S w1 hst (.mk true x args a) _ s w2 hva rfl hsz (hmk.mono hb))
        · rw [if_neg hj]
          obtain ⟨fn, fs, cs, rfl⟩ := hf.func
          exact fail_out hmk (take_args nm x wf fn fs cs b args.length ca j pa lst a w hm h1 (by omega))
end Go.Proofs.YtfjplhgajoehfaaGreatDoor
