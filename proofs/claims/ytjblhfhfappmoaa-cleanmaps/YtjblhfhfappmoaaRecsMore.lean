/- append of records that lie somewhere to a list of records of the call's own. -/
import Derived.Test.YtjblhfhfappmoaaRecs
namespace Go.Proofs.Ytjblhfhfappmoaa
open Go.RowKit

section
variable {w : World} {ops : Array Oper} {rest : List Oper} {o : Oper} {a : Act} {Q : Exit → Act → World → Prop}
theorem recsCells_one (rs : List Rec) : ∀ u ∈ recsCells rs, u.oneCell' = true := by
  intro u hu
  obtain ⟨r, _, hr⟩ := List.mem_flatMap.1 hu
  exact recCells_one r u hr
theorem recsCells_append (a b : List Rec) : recsCells (a ++ b) = recsCells a ++ recsCells b := by unfold recsCells; rw [List.flatMap_append]
theorem wpList_append_recs (hgd : o.guard = none) (s x : Operand) (ho : o.op = .call { callee := .builtin .append, args := #[s, x], argTypes := #[22, 22] })
    (base : Nat) (v : Value) (rs : List Rec) (hs : a.eval s = v) (hown : OwnR w base v rs) (b off m c : Nat) (ys : List Rec) (hx : a.eval x = .slice (some ⟨b, off, none⟩) m c) (hm : ys.length = m) (hl : ∀ i (h : i < ys.length), RecAt w b (off + i * 5) ys[i]) (hmc : m ≤ c)
    (hb : rs.length + ys.length ≤ 1099511627776) (hbase : base ≤ w.heap.size)
    (h : ∀ v' w', OwnR w' base v' (rs ++ ys) → Below base w w' → w.grownBy w' v.ownBlock → wpList Try.prog ops Q rest (a.put o.dst v') w') : wpList Try.prog ops Q (o :: rest) a w := by
  subst hm
  obtain ⟨i, hi, hi2⟩ := Option.map_eq_some_iff.1 rec_info
  obtain ⟨i', hi', hi3⟩ := Option.map_eq_some_iff.1 rec_bytes
  obtain rfl := Option.some.inj (hi.symm.trans hi')
  simp only [Prod.mk.injEq] at hi2
  have hby := of_decide_eq_true hi3
  have hown' : w.ownsRow base 32 5 v rs.length (recsCells rs) := hown
  obtain ⟨v', w', hrun, h2, h3, _, h5⟩ := run_append_own_at (P := Try.prog) w base 22 o.type 32 i _ 5 i.bytes Try.underlying22 hi hi2.1 hi2.2 rfl rfl (by omega) v rs.length (recsCells rs) hown' ⟨b, off, none⟩ ys.length c (recsCells ys) (recsCells_length ys)
    (fun j u hu => by
      have hj : j < ys.length * 5 := by
        rcases Nat.lt_or_ge j (ys.length * 5) with h | h
        · exact h
        · rw [List.getElem?_eq_none (by rw [recsCells_length]; exact h)] at hu; cases hu
      have hk : j / 5 < ys.length := by omega
      have e : j = j / 5 * 5 + j % 5 := by omega
      have h5 : j % 5 < 5 := Nat.mod_lt _ (by decide)
      rw [e, recsCells_at ys (j / 5) (j % 5) hk h5] at hu
      obtain ⟨a0, a1, a2, a3, a4⟩ := hl (j / 5) hk
      rw [add_lit]
      have ea : off + j = off + j / 5 * 5 + j % 5 := by omega
      rw [ea]
      generalize j % 5 = t at *
      have ht : t = 0 ∨ t = 1 ∨ t = 2 ∨ t = 3 ∨ t = 4 := by omega
      rcases ht with rfl | rfl | rfl | rfl | rfl <;> (simp only [recCells, List.getElem?_cons_zero, List.getElem?_cons_succ, Option.some.injEq] at hu; subst hu; first | exact a0 | exact a1 | exact a2 | exact a3 | exact a4)) (recsCells_one ys)
    (by simp only [maxLen]; omega) (by have := Nat.mul_le_mul_left (rs.length + ys.length) hby; omega) hbase
  have hfin : OwnR w' base v' (rs ++ ys) := by
    unfold OwnR
    rw [List.length_append, recsCells_append]
    exact h2
  have hbel := hown.grown_below h3 hbase
  refine wpList_plain hgd fun K hK => ?_
  unfold Oper.wp execOp
  simp only [ho, resolve, invoke, builtin, Sem.run_bind, Sem.run_pure, Result.andThen_ok, List.map_toArray, List.map_cons, List.map_nil, hs, hx, hrun]
  exact hK _ _ (h v' w' hfin hbel h3)
end
end Go.Proofs.Ytjblhfhfappmoaa
