/- Words for lists of texts that a call has made: append of one more; the names of files. No statement of the program is proved here. -/
import Derived.Test.YtfbdmagonjjjoaaDoorKeep
import Derived.Test.YtfbdmagonjjjoaaDoorDiskNum
import Derived.Test.YtfbdmagonjjjoaaDoorProg
namespace Go.Proofs.YtfbdmagonjjjoaaDoor
open Go.RowKit

/-- The slice value v holds texts in a row of the call's own. -/
def OwnT (w : World) (base : Nat) (v : Value) (ts : List ByteArray) : Prop := w.ownsRow base 9 1 v ts.length (ts.map Value.string)
theorem OwnT.nil {w : World} {base : Nat} : OwnT w base (.slice none 0 0) [] := World.ownsRow_nil w base 9 1
theorem OwnT.below {w w' : World} {base : Nat} {v : Value} {ts : List ByteArray} (h : OwnT w base v ts) (hb : Below w.heap.size w w') : OwnT w' base v ts :=
  World.ownsRow.kept (row := none) h ⟨hb.os, hb.tape, hb.output, hb.size, fun i hi _ => hb.block i hi⟩ (by cases v.ownBlock <;> simp)
theorem text_info : (Tryd.prog.info? 9).map (fun i => (i.zero, i.size)) = some (some (.string ⟨#[]⟩), 1) := by kernel_rfl
theorem text_bytes : (Tryd.prog.info? 9).map (fun i => decide (i.bytes ≤ 64)) = some true := by kernel_rfl
section
variable {w : World} {ops : Array Oper} {rest : List Oper} {o : Oper} {a : Act} {Q : Exit → Act → World → Prop}
/-- append of one text, which the walk has laid in the newest block. -/
theorem wpList_append_text1 (hgd : o.guard = none) (s x : Operand) (ho : o.op = .call { callee := .builtin .append, args := #[s, x], argTypes := #[60, 60] })
    (base : Nat) (v : Value) (ts : List ByteArray) (hs : a.eval s = v) (W : World) (t : ByteArray) (hw : w = W.alloc (.cells #[.string t] 9)) (hown : OwnT W base v ts) (hx : a.eval x = .slice (some ⟨W.heap.size, 0, none⟩) 1 1)
    (hb : ts.length + 1 ≤ 1099511627776) (hbase : base ≤ W.heap.size)
    (h : ∀ v' w', OwnT w' base v' (ts ++ [t]) → Below base W w' → wpList Tryd.prog ops Q rest (a.put o.dst v') w') : wpList Tryd.prog ops Q (o :: rest) a w := by
  subst hw
  obtain ⟨i, hi, hi2⟩ := Option.map_eq_some_iff.1 text_info
  obtain ⟨i', hi', hi3⟩ := Option.map_eq_some_iff.1 text_bytes
  obtain rfl := Option.some.inj (hi.symm.trans hi')
  simp only [Prod.mk.injEq] at hi2
  have hby := of_decide_eq_true hi3
  have h1' : (W.alloc (.cells #[.string t] 9)).ownsRow base 9 1 v ts.length (ts.map Value.string) := World.ownsRow.alloc hown _
  obtain ⟨v', w', hrun, h3, h4, _, _⟩ := run_append_own_at (P := Tryd.prog) (W.alloc (.cells #[.string t] 9)) base 60 o.type 9 i _ 1 i.bytes Tryd.underlying60 hi hi2.1 hi2.2 rfl rfl (by omega) v ts.length _ h1' ⟨W.heap.size, 0, none⟩ 1 1 [.string t] rfl
    (fun j u hu => by
      rw [add_lit, Nat.zero_add]
      have hj : j = 0 := by
        rcases Nat.lt_or_ge j 1 with h | h
        · omega
        · rw [List.getElem?_eq_none (by simpa using h)] at hu; cases hu
      subst hj
      simp only [List.getElem?_cons_zero, Option.some.injEq] at hu
      subst hu
      simp)
    (fun u hu => by simp only [List.mem_singleton] at hu; subst hu; rfl)
    (by simp only [maxLen]; omega) (by have := Nat.mul_le_mul_left (ts.length + 1) hby; omega) (by simp; omega)
  have hfin : OwnT w' base v' (ts ++ [t]) := by
    unfold OwnT
    rw [List.length_append, List.map_append]
    exact h3
  have hbel : Below base (W.alloc (.cells #[.string t] 9)) w' := (Below.refl _ _).grown h4 (by simp; omega) fun g hg' => (World.ownsRow.lt h1' g hg').1
  refine wpList_plain hgd fun K hK => ?_
  unfold Oper.wp execOp
  simp only [ho, resolve, invoke, builtin, Sem.run_bind, Sem.run_pure, Result.andThen_ok, List.map_toArray, List.map_cons, List.map_nil, hs, hx, hrun]
  exact hK _ _ (h v' w' hfin (((Below.refl _ _).alloc hbase _).trans hbel))
end

def namesM (l : List FileM) : List ByteArray := l.map FileM.name
end Go.Proofs.YtfbdmagonjjjoaaDoor
