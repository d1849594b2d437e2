/- Commands as values. No statement of the program is proved here. -/
import Derived.Test.YtiglignfjegilaaDoorCmdNum
import Derived.Test.YtiglignfjegilaaDoorRecs
import Derived.Test.YtiglignfjegilaaDoorProg
namespace Go.Proofs.YtiglignfjegilaaDoor
open Go.RowKit

/-- A command's cells, its records' slice being v (a struct within a struct lies in its cells). -/
def cmdCells (v : Value) (c : Cmd) : List Value := [.int .i64 c.kind, .int .i64 c.pid, .int .i64 c.seq, v, .string c.group, .int .i64 c.off, .int .i64 c.max, .int .i64 c.now, .int .u32 c.sum, .int .i64 c.seg, .int .i64 c.keep, .int .i64 c.age, .int .i64 c.grace]
/-- Its value. -/
def cmdV (v : Value) (c : Cmd) : Value := .agg #[.int .i64 c.kind, .int .i64 c.pid, .int .i64 c.seq, v, .string c.group, .int .i64 c.off, .int .i64 c.max, .int .i64 c.now, .int .u32 c.sum, .int .i64 c.seg, .int .i64 c.keep, .int .i64 c.age, .int .i64 c.grace]
/-- A block that holds it. -/
def cmdO (v : Value) (c : Cmd) : Obj := .cells #[.int .i64 c.kind, .int .i64 c.pid, .int .i64 c.seq, v, .string c.group, .int .i64 c.off, .int .i64 c.max, .int .i64 c.now, .int .u32 c.sum, .int .i64 c.seg, .int .i64 c.keep, .int .i64 c.age, .int .i64 c.grace] 27
/-- Its cells, where it lies in a block. -/
theorem cmd_at {W : World} {g : Nat} {v : Value} {c : Cmd} (h : W.heap[g]? = some (cmdO v c)) :
    W.cell? ⟨g, 0, none⟩ = some (.int .i64 c.kind) ∧ W.cell? ⟨g, 1, none⟩ = some (.int .i64 c.pid) ∧ W.cell? ⟨g, 2, none⟩ = some (.int .i64 c.seq) ∧ W.cell? ⟨g, 3, none⟩ = some v ∧ W.cell? ⟨g, 4, none⟩ = some (.string c.group) ∧ W.cell? ⟨g, 5, none⟩ = some (.int .i64 c.off) ∧ W.cell? ⟨g, 6, none⟩ = some (.int .i64 c.max) ∧ W.cell? ⟨g, 7, none⟩ = some (.int .i64 c.now) ∧ W.cell? ⟨g, 8, none⟩ = some (.int .u32 c.sum) ∧ W.cell? ⟨g, 9, none⟩ = some (.int .i64 c.seg) ∧ W.cell? ⟨g, 10, none⟩ = some (.int .i64 c.keep) ∧ W.cell? ⟨g, 11, none⟩ = some (.int .i64 c.age) ∧ W.cell? ⟨g, 12, none⟩ = some (.int .i64 c.grace) := by
  refine ⟨?_, ?_, ?_, ?_, ?_, ?_, ?_, ?_, ?_, ?_, ?_, ?_, ?_⟩ <;> simp [World.cell?, h, cmdO]
theorem cmd_new (w : World) (v : Value) (c : Cmd) : (w.alloc (cmdO v c)).heap[w.heap.size]? = some (cmdO v c) := by
  show (w.heap.push _)[w.heap.size]? = _
  simp
theorem block_keep {w W : World} {g : Nat} {o : Obj} (h : w.heap[g]? = some o) (hb : Below w.heap.size w W) : W.heap[g]? = some o := (hb.block g (Array.getElem?_eq_some_iff.1 h).1).trans h
end Go.Proofs.YtiglignfjegilaaDoor
