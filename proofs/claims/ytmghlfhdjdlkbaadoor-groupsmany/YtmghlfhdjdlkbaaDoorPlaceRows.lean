/- append of rows of groups that lie somewhere, none of them too; the same rows in two lists. No statement of the program is proved here. -/
import Derived.Test.YtmghlfhdjdlkbaaDoorRPlace
import Derived.Laws.AppendOwnNone
namespace Go.Proofs.YtmghlfhdjdlkbaaDoor
open Go.RowKit

def noGB : Nat → Prop := fun _ => False
def OwnG (t : TypeId) (w : World) (base : Nat) (v : Value) (ms : List PlaceM) : Prop := OwnS placeRep t w noGB base v ms
theorem OwnG.nil {t : TypeId} {w : World} {base : Nat} : OwnG t w base (.slice none 0 0) [] := OwnS.nil (fun _ h => h.elim)
section
variable {w : World} {ops : Array Oper} {rest : List Oper} {o : Oper} {a : Act} {Q : Exit → Act → World → Prop}
theorem wpList_append_places (hgd : o.guard = none) (s x : Operand) (tl t : TypeId) (ho : o.op = .call { callee := .builtin .append, args := #[s, x], argTypes := #[tl, tl] })
    (ht : Tryd.prog.underlying tl = some (.slice t)) (hinf : (Tryd.prog.info? t).map (fun i => (i.zero, i.size, decide (i.bytes ≤ 1024))) = some (some (.agg #[.string ⟨#[]⟩, .int .i64 0]), 2, true))
    (base : Nat) (v : Value) (xs : List PlaceM) (hs : a.eval s = v) (hown : OwnG t w base v xs) (S : Nat → Prop) (A : Option Addr) (m c : Nat) (ys : List PlaceM) (hx : a.eval x = .slice A m c) (hm : ys.length = m)
    (hl : RowsLie placeRep w S A ys c) (hA : A = none → c = 0) (hb : xs.length + ys.length ≤ 137438953472) (hbase : base ≤ w.heap.size)
    (h : ∀ v' w', OwnG t w' base v' (xs ++ ys) → Below base w w' → w.grownBy w' v.ownBlock → wpList Tryd.prog ops Q rest (a.put o.dst v') w') : wpList Tryd.prog ops Q (o :: rest) a w := by
  by_cases hn : ys = []
  · subst hn
    have hm0 : m = 0 := hm.symm
    subst hm0
    rcases A with _ | ad
    · obtain rfl : c = 0 := hA rfl
      obtain ⟨i, hi, _⟩ := Option.map_eq_some_iff.1 hinf
      obtain ⟨l, h1, h2, h3, h4⟩ := hown
      refine wpList_append_own_none hgd s x tl ho base t i _ ht hi v xs.length l hs h2 hx (h v w ?_ (Below.refl _ _) ⟨rfl, rfl, rfl, Nat.le_refl _, fun _ _ _ => rfl⟩)
      rw [List.append_nil]
      exact ⟨l, h1, h2, h3, h4⟩
    · obtain ⟨i, hi, hi2⟩ := Option.map_eq_some_iff.1 hinf
      simp only [Prod.mk.injEq, decide_eq_true_eq] at hi2
      obtain ⟨hz, hsz, hby⟩ := hi2
      have hown' := hown
      obtain ⟨l, h1, h2, h3, h4⟩ := hown
      obtain ⟨v', w', hrun, e2, e3, _, _⟩ := run_append_own_at (P := Tryd.prog) w base tl o.type t i _ 2 i.bytes ht hi hz hsz rfl rfl (by decide) v xs.length l h2 ad 0 c [] rfl
        (fun j u hu => by simp at hu) (fun u hu => by simp at hu) (by simp only [maxLen]; simp at hb; omega) (by have := Nat.mul_le_mul_left (xs.length + 0) hby; simp at hb; omega) hbase
      have hfin : OwnG t w' base v' (xs ++ []) := by
        rw [List.append_nil]
        rw [List.append_nil, Nat.add_zero] at e2
        exact ⟨l, h1.keep e3.size fun b hb => hb.elim, e2, fun b hb => hb.elim, fun g _ hs => hs.elim⟩
      refine wpList_plain hgd fun K hK => ?_
      unfold Oper.wp execOp
      simp only [ho, resolve, invoke, builtin, Sem.run_bind, Sem.run_pure, Result.andThen_ok, List.map_toArray, List.map_cons, List.map_nil, hs, hx, hrun]
      exact hK _ _ (h v' w' hfin (hown'.grown_below e3 hbase) e3)
  · obtain ⟨b, off, rfl, hb0, hs0, hc⟩ := hl.1 hn
    refine wpList_append_rows (R := placeRep) (S := noGB) hgd s x tl t ho ht (.agg #[.string ⟨#[]⟩, .int .i64 0]) hinf rfl base v xs hs hown b off m c ys hx hm (fun i hi => ?_) hb hbase fun v' w' h1 h2 h3 _ => h v' w' h1 h2 h3
    obtain ⟨cs, e, h2⟩ := hc i hi
    exact ⟨cs, e, h2⟩
end
end Go.Proofs.YtmghlfhdjdlkbaaDoor
