/- What each assertion of a field's type comes to. No statement of the program is proved here. -/
import Derived.Test.YtiglignfjegilaaDoorVField
namespace Go.Proofs.YtiglignfjegilaaDoor
open Go.RowKit

theorem ta_num_num (v : Value) (W : World) : (Instr.typeAssert (.iface 59 v) 20 59 true).run Tryd.prog W = .ok (.tuple #[v, .bool true]) W := by kernel_rfl
theorem ta_num_recs (v : Value) (W : World) : (Instr.typeAssert (.iface 59 v) 20 60 true).run Tryd.prog W = .ok (.tuple #[(.pointer none), .bool false]) W := by kernel_rfl
theorem ta_num_group (v : Value) (W : World) : (Instr.typeAssert (.iface 59 v) 20 61 true).run Tryd.prog W = .ok (.tuple #[(.pointer none), .bool false]) W := by kernel_rfl
theorem ta_num_sum (v : Value) (W : World) : (Instr.typeAssert (.iface 59 v) 20 64 true).run Tryd.prog W = .ok (.tuple #[(.pointer none), .bool false]) W := by kernel_rfl
theorem ta_recs_num (v : Value) (W : World) : (Instr.typeAssert (.iface 60 v) 20 59 true).run Tryd.prog W = .ok (.tuple #[(.agg #[.pointer none, .int .i64 0, .int .i64 0]), .bool false]) W := by kernel_rfl
theorem ta_recs_recs (v : Value) (W : World) : (Instr.typeAssert (.iface 60 v) 20 60 true).run Tryd.prog W = .ok (.tuple #[v, .bool true]) W := by kernel_rfl
theorem ta_recs_group (v : Value) (W : World) : (Instr.typeAssert (.iface 60 v) 20 61 true).run Tryd.prog W = .ok (.tuple #[(.pointer none), .bool false]) W := by kernel_rfl
theorem ta_recs_sum (v : Value) (W : World) : (Instr.typeAssert (.iface 60 v) 20 64 true).run Tryd.prog W = .ok (.tuple #[(.pointer none), .bool false]) W := by kernel_rfl
theorem ta_group_num (v : Value) (W : World) : (Instr.typeAssert (.iface 61 v) 20 59 true).run Tryd.prog W = .ok (.tuple #[(.agg #[.pointer none, .int .i64 0, .int .i64 0]), .bool false]) W := by kernel_rfl
theorem ta_group_recs (v : Value) (W : World) : (Instr.typeAssert (.iface 61 v) 20 60 true).run Tryd.prog W = .ok (.tuple #[(.pointer none), .bool false]) W := by kernel_rfl
theorem ta_group_group (v : Value) (W : World) : (Instr.typeAssert (.iface 61 v) 20 61 true).run Tryd.prog W = .ok (.tuple #[v, .bool true]) W := by kernel_rfl
theorem ta_group_sum (v : Value) (W : World) : (Instr.typeAssert (.iface 61 v) 20 64 true).run Tryd.prog W = .ok (.tuple #[(.pointer none), .bool false]) W := by kernel_rfl
theorem ta_sum_num (v : Value) (W : World) : (Instr.typeAssert (.iface 64 v) 20 59 true).run Tryd.prog W = .ok (.tuple #[(.agg #[.pointer none, .int .i64 0, .int .i64 0]), .bool false]) W := by kernel_rfl
theorem ta_sum_recs (v : Value) (W : World) : (Instr.typeAssert (.iface 64 v) 20 60 true).run Tryd.prog W = .ok (.tuple #[(.pointer none), .bool false]) W := by kernel_rfl
theorem ta_sum_group (v : Value) (W : World) : (Instr.typeAssert (.iface 64 v) 20 61 true).run Tryd.prog W = .ok (.tuple #[(.pointer none), .bool false]) W := by kernel_rfl
theorem ta_sum_sum (v : Value) (W : World) : (Instr.typeAssert (.iface 64 v) 20 64 true).run Tryd.prog W = .ok (.tuple #[v, .bool true]) W := by kernel_rfl
theorem below_drewN {B m : Nat} {w w' : World} (h : Below B w w') : Below B w (w'.drewN m) := ⟨h.os, h.tape, h.output, h.size, h.block⟩
/-- The number in a field's cell. -/
theorem num_at {W : World} {g k : Nat} {v : Value} {c : Cmd} (h : W.heap[g]? = some (cmdO v c)) (hk : isNum k) : W.cell? ⟨g, k, none⟩ = some (.int .i64 (c.num k)) := by
  obtain ⟨h0, h1, h2, h3, h4, h5, h6, h7, h8, h9, h10, h11, h12⟩ := cmd_at h
  rcases hk with rfl | rfl | rfl | rfl | rfl | rfl | rfl | rfl | rfl | rfl <;> assumption
theorem num_wf {c : Cmd} (h : c.wf) (k : Nat) : -9223372036854775808 ≤ c.num k ∧ c.num k ≤ 9223372036854775807 := by
  unfold Cmd.num
  have := h.kind; have := h.pid; have := h.seq; have := h.off; have := h.max; have := h.now; have := h.seg; have := h.keep; have := h.age; have := h.grace
  split <;> omega
end Go.Proofs.YtiglignfjegilaaDoor
