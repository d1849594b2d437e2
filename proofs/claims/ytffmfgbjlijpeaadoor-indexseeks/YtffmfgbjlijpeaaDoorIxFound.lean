/- What a search answers, in one form: a record (an empty one if there is none) and whether there is one. -/
import Derived.Test.YtffmfgbjlijpeaaDoorIxProg
namespace Go.Proofs.YtffmfgbjlijpeaaDoor
open Go.RowKit

def recBox (r : Rec) : Array Value := #[.int .i64 r.off, .int .i64 r.time, .string r.key, .string r.val, .bool r.dead]
theorem found_form {o : Option Rec} {w w' : World} {e : Ending} (h : TellsFound o w e w') : e = .returned (.tuple #[.agg #[.int .i64 (o.getD zeroR).off, .int .i64 (o.getD zeroR).time, .string (o.getD zeroR).key, .string (o.getD zeroR).val, .bool (o.getD zeroR).dead], .bool o.isSome]) ∧ Below w.heap.size w w' := by
  obtain ⟨h, hb⟩ := h
  rcases h with ⟨rfl, rfl⟩ | ⟨xo, xt, xk, xv, xd, rfl, rfl⟩
  · exact ⟨rfl, hb⟩
  · exact ⟨rfl, hb⟩
/-- The cells of a block that was made, later. -/
theorem new_cells {w W : World} {cs : Array Value} {t : TypeId} (hb : Below (w.alloc (.cells cs t)).heap.size (w.alloc (.cells cs t)) W) (j : Nat) : W.cell? ⟨w.heap.size, j, none⟩ = cs[j]? := by
  have : W.heap[w.heap.size]? = some (.cells cs t) := by
    rw [hb.block _ (by simp)]
    show (w.heap.push _)[w.heap.size]? = _
    simp
  unfold World.cell?
  rw [this]
  rfl
theorem new_rec {w W : World} {r : Rec} {t : TypeId} (hb : Below (w.alloc (.cells #[.int .i64 r.off, .int .i64 r.time, .string r.key, .string r.val, .bool r.dead] t)).heap.size (w.alloc (.cells #[.int .i64 r.off, .int .i64 r.time, .string r.key, .string r.val, .bool r.dead] t)) W) : RecAt W w.heap.size 0 r :=
  ⟨new_cells hb 0, new_cells hb 1, new_cells hb 2, new_cells hb 3, new_cells hb 4⟩
/-- What holds in all later worlds holds in those behind a call and a block that was made. -/
theorem keep_new {P : World → Prop} {wp w2 : World} {o : Obj} (h : ∀ W, Below wp.heap.size wp W → P W) (hb : Below wp.heap.size wp w2) : ∀ W, Below (w2.alloc o).heap.size (w2.alloc o) W → P W := fun W hW =>
  h W ((hb.trans (((Below.refl w2.heap.size w2).alloc (Nat.le_refl _) o).mono hb.size)).trans (hW.mono (Nat.le_trans hb.size (by simp))))
end Go.Proofs.YtffmfgbjlijpeaaDoor
