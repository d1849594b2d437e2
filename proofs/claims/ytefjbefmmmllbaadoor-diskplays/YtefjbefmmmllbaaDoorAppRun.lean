/- append by its run; append of bytes onto nothing. No statement of the program is proved here. -/
import Derived.Test.YtefjbefmmmllbaaDoorBytes
namespace Go.Proofs.YtefjbefmmmllbaaDoor
open Go.RowKit

section
variable {P : Program} {w : World} {ops : Array Oper} {rest : List Oper} {o : Oper} {a : Go.Act} {Q : Exit → Go.Act → World → Prop}
/-- append by its run, where the order is open. -/
theorem wp_append_run {K : Go.Act → World → Prop} (s x : Operand) (t : TypeId) (ho : o.op = .call { callee := .builtin .append, args := #[s, x], argTypes := #[t, t] })
    (v u : Value) (hs : a.eval s = v) (hx : a.eval x = u) (v' : Value) (w' : World) (hrun : (Builtin.append_ #[t, t] o.type #[v, u]).run P w = .ok v' w')
    (h : K (a.put o.dst v') w') : o.wp P a w K Q := by
  unfold Oper.wp execOp
  simp only [ho, resolve, invoke, builtin, Sem.run_bind, Sem.run_pure, Result.andThen_ok, List.map_toArray, List.map_cons, List.map_nil, hs, hx, hrun]
  exact h
/-- append by its run. -/
theorem wpList_append_run (hgd : o.guard = none) (s x : Operand) (t : TypeId) (ho : o.op = .call { callee := .builtin .append, args := #[s, x], argTypes := #[t, t] })
    (v u : Value) (hs : a.eval s = v) (hx : a.eval x = u) (v' : Value) (w' : World) (hrun : (Builtin.append_ #[t, t] o.type #[v, u]).run P w = .ok v' w')
    (h : wpList P ops Q rest (a.put o.dst v') w') : wpList P ops Q (o :: rest) a w :=
  wpList_wanted (by simp [Region.wanted, hgd]) fun _ hK => wp_append_run s x t ho v u hs hx v' w' hrun (hK _ _ h)
end
theorem bytes_under : Tryd.prog.underlying 31 = some (.slice 5) := by kernel_rfl
/-- append of bytes onto nothing: the run. -/
theorem new_bytes {W : World} {ys : List Int} {A : Option Addr} {c B : Nat} (hl : Lies .u8 W B A ys) (hA : A = none → c = 0) (hc : ys.length ≤ c) (hb : ys.length ≤ 549755813888) (ty : TypeId) :
    ∃ A' c' w1, (Builtin.append_ #[31, 31] ty #[.slice none 0 0, .slice A ys.length c]).run Tryd.prog W = .ok (.slice A' ys.length c') w1 ∧ Own .u8 5 w1 W.heap.size (.slice A' ys.length c') ys ∧ Below W.heap.size W w1 := by
  obtain ⟨i, hi, hz, hs, hby⟩ : ∃ i, Tryd.prog.info? 5 = some i ∧ i.zero = some (.int .u8 0) ∧ i.size = 1 ∧ i.bytes = 1 := by
    obtain ⟨i, hi, he⟩ := Option.map_eq_some_iff.1 byte_info
    exact ⟨i, hi, congrArg (·.1) he, congrArg (·.2.1) he, congrArg (·.2.2) he⟩
  obtain ⟨v', w1, hrun, h1, h2, _⟩ := run_append_ints (P := Tryd.prog) (w := W) 31 ty W.heap.size 5 .u8 i 1 bytes_under hi hz hs hby (by decide) (.slice none 0 0) [] Own.nil B A ys.length c ys rfl hc hl (by simp; omega) (Nat.le_refl _) hA
  rw [List.nil_append] at h1
  obtain ⟨A', c', rfl, _⟩ := h1.form
  exact ⟨A', c', w1, hrun, h1, ⟨h2.os, h2.tape, h2.output, h2.size, fun i hi => h2.block i hi (by simp [Value.ownBlock])⟩⟩
end Go.Proofs.YtefjbefmmmllbaaDoor
