/- How marks lie in memory. No statement of the program is proved here. -/
import Derived.Test.YtffmfgbjlijpeaaDoorNums
import Derived.Test.YtffmfgbjlijpeaaDoorRep
namespace Go.Proofs.YtffmfgbjlijpeaaDoor
open Go.RowKit

def markCells (m : MarkM) : List Value := [.int .i64 m.off, .int .i64 m.time, .int .i64 m.pos]
theorem markCells_one (m : MarkM) : ∀ u ∈ markCells m, u.oneCell' = true := by
  intro u hu
  simp only [markCells, List.mem_cons, List.not_mem_nil, or_false] at hu
  rcases hu with rfl | rfl | rfl <;> rfl
def markRep : Rep MarkM := Rep.flat 3 (by decide) markCells (fun _ => rfl) markCells_one
theorem mark_cells {w : World} {S : Nat → Prop} {b o : Nat} {m : MarkM} (h : RowAt markRep w S b o m) : w.cell? ⟨b, o, none⟩ = some (.int .i64 m.off) ∧ w.cell? ⟨b, o + 1, none⟩ = some (.int .i64 m.time) ∧ w.cell? ⟨b, o + 2, none⟩ = some (.int .i64 m.pos) := by
  obtain ⟨cs, rfl, h2⟩ := h
  exact ⟨h2 0 _ rfl, h2 1 _ rfl, h2 2 _ rfl⟩
theorem MarksLie.at_ {w : World} {S : Nat → Prop} {A : Option Addr} {ms : List MarkM} {cap : Nat} (h : RowsLie markRep w S A ms cap) {i : Nat} (hi : i < ms.length) :
    ∃ b off, A = some ⟨b, off, none⟩ ∧ b < w.heap.size ∧ S b ∧ w.cell? ⟨b, off + i * 3, none⟩ = some (.int .i64 ms[i].off) ∧ w.cell? ⟨b, off + i * 3 + 1, none⟩ = some (.int .i64 ms[i].time) ∧ w.cell? ⟨b, off + i * 3 + 2, none⟩ = some (.int .i64 ms[i].pos) := by
  obtain ⟨b, off, e, hb, hs, hr⟩ := h.more hi
  exact ⟨b, off, e, hb, hs, mark_cells hr⟩
/-- No blocks at all. -/
def noB : Nat → Prop := fun _ => False
/-- A list of marks of the call's own. -/
def OwnM (t : TypeId) (w : World) (base : Nat) (v : Value) (ms : List MarkM) : Prop := OwnS markRep t w noB base v ms
end Go.Proofs.YtffmfgbjlijpeaaDoor
