/- A record's block: its cells, and what stores of all of them leave. No statement of the program is proved here. -/
import Derived.Test.YtiglignfjegilaaDoorRecBase
import Derived.Laws.Rows
namespace Go.Proofs.YtiglignfjegilaaDoor
open Go.RowKit

def recO (r : Rec) : Obj := .cells #[.int .i64 r.off, .int .i64 r.time, .string r.key, .string r.val, .bool r.dead] 39 (0, 0)
theorem obj_cells {w : World} {g : Nat} {r : Rec} (h : w.heap[g]? = some (recO r)) :
    (w.cell? ⟨g, 0, none⟩ = some (.int .i64 r.off) ∧ w.cell? ⟨g, 1, none⟩ = some (.int .i64 r.time) ∧ w.cell? ⟨g, 2, none⟩ = some (.string r.key) ∧ w.cell? ⟨g, 3, none⟩ = some (.string r.val) ∧ w.cell? ⟨g, 4, none⟩ = some (.bool r.dead)) ∧ ∀ j, w.frozen? ⟨g, j, none⟩ = false :=
  ⟨⟨by simp [World.cell?, h, recO], by simp [World.cell?, h, recO], by simp [World.cell?, h, recO], by simp [World.cell?, h, recO], by simp [World.cell?, h, recO]⟩, fun j => by simp [World.frozen?, h, recO]⟩

theorem five_cells {w : World} {g : Nat} {r : Rec} (h : w.heap[g]? = some (recO r)) (v0 v1 v2 v3 v4 : Value) :
    (w.setCell ⟨g, 0, none⟩ v0).cell? ⟨g, 0, none⟩ = some v0 ∧ ((w.setCell ⟨g, 0, none⟩ v0).setCell ⟨g, 1, none⟩ v1).cell? ⟨g, 1, none⟩ = some v1 ∧
    (((w.setCell ⟨g, 0, none⟩ v0).setCell ⟨g, 1, none⟩ v1).setCell ⟨g, 2, none⟩ v2).cell? ⟨g, 2, none⟩ = some v2 ∧
    ((((w.setCell ⟨g, 0, none⟩ v0).setCell ⟨g, 1, none⟩ v1).setCell ⟨g, 2, none⟩ v2).setCell ⟨g, 3, none⟩ v3).cell? ⟨g, 3, none⟩ = some v3 ∧
    (((((w.setCell ⟨g, 0, none⟩ v0).setCell ⟨g, 1, none⟩ v1).setCell ⟨g, 2, none⟩ v2).setCell ⟨g, 3, none⟩ v3).setCell ⟨g, 4, none⟩ v4).cell? ⟨g, 4, none⟩ = some v4 := by
  have h0 := heap_setCell_same w g 0 _ _ v0 h
  have h1 := heap_setCell_same _ g 1 _ _ v1 h0
  have h2 := heap_setCell_same _ g 2 _ _ v2 h1
  have h3 := heap_setCell_same _ g 3 _ _ v3 h2
  have h4 := heap_setCell_same _ g 4 _ _ v4 h3
  exact ⟨by simp [World.cell?, h0], by simp [World.cell?, h1], by simp [World.cell?, h2], by simp [World.cell?, h3], by simp [World.cell?, h4]⟩

theorem five_cells_more {w : World} {g : Nat} {r : Rec} (h : w.heap[g]? = some (recO r)) (v0 v1 v2 v3 v4 : Value) (o : Obj) :
    ∀ W, W = ((((((w.setCell ⟨g, 0, none⟩ v0).setCell ⟨g, 1, none⟩ v1).setCell ⟨g, 2, none⟩ v2).setCell ⟨g, 3, none⟩ v3).setCell ⟨g, 4, none⟩ v4).alloc o) →
    W.cell? ⟨g, 0, none⟩ = some v0 ∧ W.cell? ⟨g, 1, none⟩ = some v1 ∧ W.cell? ⟨g, 2, none⟩ = some v2 ∧ W.cell? ⟨g, 3, none⟩ = some v3 ∧ W.cell? ⟨g, 4, none⟩ = some v4 := by
  intro W hW
  have h0 := heap_setCell_same w g 0 _ _ v0 h
  have h1 := heap_setCell_same _ g 1 _ _ v1 h0
  have h2 := heap_setCell_same _ g 2 _ _ v2 h1
  have h3 := heap_setCell_same _ g 3 _ _ v3 h2
  have h4 := heap_setCell_same _ g 4 _ _ v4 h3
  have h5 := (congrArg (fun x : World => x.heap[g]?) hW).trans ((Below.heap_alloc _ _ _ (Array.getElem?_eq_some_iff.1 h4).1).trans h4)
  exact ⟨by simp [World.cell?, h5], by simp [World.cell?, h5], by simp [World.cell?, h5], by simp [World.cell?, h5], by simp [World.cell?, h5]⟩
end Go.Proofs.YtiglignfjegilaaDoor
