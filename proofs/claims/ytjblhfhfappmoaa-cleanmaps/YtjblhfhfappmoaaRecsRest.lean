/- Records that lie somewhere: the first of them, the rest of them, and append of any (nil too) to a list of the call's own. -/
import Derived.Test.YtjblhfhfappmoaaRecsMore
namespace Go.Proofs.Ytjblhfhfappmoaa
open Go.RowKit

theorem RecsLie.front {w : World} {A : Option Addr} {rs : List Rec} {cap : Nat} (h : RecsLie w A rs cap) (n : Nat) : RecsLie w A (rs.take n) cap := by
  refine ⟨fun hne => ?_, by have := h.2.1; rw [List.length_take]; omega, h.2.2.1, fun r hr => h.2.2.2 r (List.mem_of_mem_take hr)⟩
  obtain ⟨b, off, e, hb, hc⟩ := h.1 (by rintro rfl; simp at hne)
  refine ⟨b, off, e, hb, fun i hi => ?_⟩
  rw [List.getElem_take]
  exact hc i (by rw [List.length_take] at hi; omega)
/-- The rest of a list that lies somewhere, as a slice has it. -/
theorem recs_cut {w : World} {A : Option Addr} {rs : List Rec} {cap n : Nat} (h : RecsLie w A rs cap) (hn : n ≤ rs.length) :
    RecsLie w (if cap = n then A else A.map (·.add (n * 5))) (rs.drop n) (cap - n) := by
  refine ⟨fun hne => ?_, by rw [List.length_drop]; have := h.2.1; omega, by have := h.2.2.1; omega, fun r hr => h.2.2.2 r (List.mem_of_mem_drop hr)⟩
  have hlt : n < rs.length := by
    rcases Nat.lt_or_ge n rs.length with h1 | h1
    · exact h1
    · exact absurd (List.drop_eq_nil_of_le h1) hne
  obtain ⟨b, off, rfl, hb, hc⟩ := h.1 (by rintro rfl; simp at hlt)
  have hcl := h.2.1
  rw [if_neg (by omega)]
  refine ⟨b, off + n * 5, by simp [add_lit], hb, fun i hi => ?_⟩
  rw [List.length_drop] at hi
  have := hc (n + i) (by omega)
  rw [List.getElem_drop]
  have e : off + (n + i) * 5 = off + n * 5 + i * 5 := by omega
  rw [e] at this
  exact this
section
variable {w : World} {ops : Array Oper} {rest : List Oper} {o : Oper} {a : Act} {Q : Exit → Act → World → Prop}
theorem wpList_append_recs_any (hgd : o.guard = none) (s x : Operand) (ho : o.op = .call { callee := .builtin .append, args := #[s, x], argTypes := #[22, 22] })
    (base : Nat) (v : Value) (rs : List Rec) (hs : a.eval s = v) (hown : OwnR w base v rs) (A : Option Addr) (m c : Nat) (ys : List Rec) (hx : a.eval x = .slice A m c) (hm : ys.length = m) (hl : RecsLie w A ys c) (hA : A = none → c = 0)
    (hb : rs.length + ys.length ≤ 1099511627776) (hbase : base ≤ w.heap.size)
    (h : ∀ v' w', OwnR w' base v' (rs ++ ys) → Below base w w' → w.grownBy w' v.ownBlock → wpList Try.prog ops Q rest (a.put o.dst v') w') : wpList Try.prog ops Q (o :: rest) a w := by
  rcases A with _ | ⟨b, off, e⟩
  · obtain rfl : c = 0 := hA rfl
    obtain rfl : ys = [] := by
      rcases ys with _ | ⟨y, ys⟩
      · rfl
      · exact absurd hl.2.1 (by simp)
    subst hm
    obtain ⟨i, hi, _⟩ := Option.map_eq_some_iff.1 rec_info
    refine wpList_append_own_none hgd s x 22 ho base 32 i _ Try.underlying22 hi v rs.length (recsCells rs) hs hown hx (h v w ?_ (Below.refl _ _) ⟨rfl, rfl, rfl, Nat.le_refl _, fun _ _ _ => rfl⟩)
    rw [List.append_nil]
    exact hown
  · by_cases hn : ys = []
    · subst hn
      obtain rfl : m = 0 := hm.symm
      obtain ⟨i, hi, hi2⟩ := Option.map_eq_some_iff.1 rec_info
      obtain ⟨i', hi', hi3⟩ := Option.map_eq_some_iff.1 rec_bytes
      obtain rfl := Option.some.inj (hi.symm.trans hi')
      simp only [Prod.mk.injEq] at hi2
      have hby := of_decide_eq_true hi3
      have hown' : w.ownsRow base 32 5 v rs.length (recsCells rs) := hown
      obtain ⟨v', w', hrun, e2, e3, _, _⟩ := run_append_own_at (P := Try.prog) w base 22 o.type 32 i _ 5 i.bytes Try.underlying22 hi hi2.1 hi2.2 rfl rfl (by omega) v rs.length (recsCells rs) hown' ⟨b, off, e⟩ 0 c [] rfl
        (fun j u hu => by simp at hu) (fun u hu => by simp at hu) (by simp only [maxLen]; simp at hb; omega) (by have := Nat.mul_le_mul_left (rs.length + 0) hby; simp at hb; omega) hbase
      have hfin : OwnR w' base v' (rs ++ []) := by
        rw [List.append_nil]
        rw [List.append_nil, Nat.add_zero] at e2
        exact e2
      refine wpList_plain hgd fun K hK => ?_
      unfold Oper.wp execOp
      simp only [ho, resolve, invoke, builtin, Sem.run_bind, Sem.run_pure, Result.andThen_ok, List.map_toArray, List.map_cons, List.map_nil, hs, hx, hrun]
      exact hK _ _ (h v' w' hfin (hown.grown_below e3 hbase) e3)
    · obtain ⟨b', off', e', _, hc⟩ := hl.1 hn
      injection e' with e'
      rw [e'] at hx
      exact wpList_append_recs hgd s x ho base v rs hs hown b' off' m c ys hx hm hc (by have := hl.2.1; omega) hb hbase h
end
end Go.Proofs.Ytjblhfhfappmoaa
