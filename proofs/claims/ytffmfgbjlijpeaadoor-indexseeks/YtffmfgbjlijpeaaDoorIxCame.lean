/- From an argument as a row reads it to the words of my own: a list of marks that came in. -/
import Derived.Test.YtffmfgbjlijpeaaDoorMarks
namespace Go.Proofs.YtffmfgbjlijpeaaDoor
open Go.RowKit Go.ChangeShapes Go.WideShapes

def MarkM.wf (m : MarkM) : Prop := (-9223372036854775808 ≤ m.off ∧ m.off ≤ 9223372036854775807) ∧ (-9223372036854775808 ≤ m.time ∧ m.time ≤ 9223372036854775807) ∧ (-9223372036854775808 ≤ m.pos ∧ m.pos ≤ 9223372036854775807)
section
variable {H : Type} {enc : TypeId × Value → H} {w : World} {base : Nat} {spare : Nat → Bool} {held : Bool}
theorem mark_came {S : Nat → Prop} {fuel : Nat} {cs : List Value} {x : DataW H × List MemPlace} (h : DataW.trod enc Tryd.prog w base spare held fuel 46 cs = some x) :
    ∃ m : MarkM, markRep.holds w S m cs ∧ m.wf := by
  obtain ⟨ys, n, _, _, hlen, hyl, hf⟩ := DataW.trod_struct Tryd.underlying46 h
  have hc3 : Tryd.prog.cellsOf 46 = 3 := by kernel_rfl
  rw [hc3] at hlen
  have hy3 : ys.length = 3 := hyl
  obtain ⟨v0, v1, v2, rfl⟩ : ∃ v0 v1 v2, cs = [v0, v1, v2] := by
    match cs, hlen with
    | [v0, v1, v2], _ => exact ⟨v0, v1, v2, rfl⟩
  have c3 : Tryd.prog.cellsOf 3 = 1 := by kernel_rfl
  have at_ : ∀ (j : Nat) (t : TypeId) (v : Value), j < 3 → (([v0, v1, v2] : List Value).drop j).take 1 = [v] → DataW.trod enc Tryd.prog w base spare held n t ((([v0, v1, v2] : List Value).drop j).take 1) = ys[j]? → ∃ y, DataW.trod enc Tryd.prog w base spare held n t [v] = some y := by
    intro j t v hj hv h
    rw [hv, List.getElem?_eq_getElem (by omega)] at h
    exact ⟨_, h⟩
  have g0 : DataW.trod enc Tryd.prog w base spare held n 3 ((([v0, v1, v2] : List Value).drop 0).take (Tryd.prog.cellsOf 3)) = ys[0]? := hf 0 _ rfl
  rw [c3] at g0
  have g1 : DataW.trod enc Tryd.prog w base spare held n 3 ((([v0, v1, v2] : List Value).drop 1).take (Tryd.prog.cellsOf 3)) = ys[1]? := hf 1 _ rfl
  rw [c3] at g1
  have g2 : DataW.trod enc Tryd.prog w base spare held n 3 ((([v0, v1, v2] : List Value).drop 2).take (Tryd.prog.cellsOf 3)) = ys[2]? := hf 2 _ rfl
  rw [c3] at g2
  obtain ⟨y0, k0⟩ := at_ 0 3 v0 (by omega) rfl g0
  obtain ⟨y1, k1⟩ := at_ 1 3 v1 (by omega) rfl g1
  obtain ⟨y2, k2⟩ := at_ 2 3 v2 (by omega) rfl g2
  obtain ⟨a, e0, _, w0⟩ := DataW.trod_int Tryd.underlying3 k0
  obtain ⟨b, e1, _, w1⟩ := DataW.trod_int Tryd.underlying3 k1
  obtain ⟨c, e2, _, w2⟩ := DataW.trod_int Tryd.underlying3 k2
  refine ⟨⟨a, b, c⟩, ?_, bounds_i64 w0, bounds_i64 w1, bounds_i64 w2⟩
  simp only [List.cons.injEq, and_true] at e0 e1 e2
  show _ = markCells _
  rw [e0, e1, e2]
  rfl
/-- A list of marks that came in. -/
theorem marks_came {r0 : Reach} {b0 : Nat} {v : Value} {d : DataW H} {p : List MemPlace} (hv : Value.okWide Tryd.prog w r0 b0 27 v) (h : DataW.Trod enc Tryd.prog w base spare held 27 v d p) :
    ∃ (A : Option Addr) (cap : Nat) (ms : List MarkM), v = .slice A ms.length cap ∧ RowsLie markRep w (fun b => b < w.heap.size) A ms cap ∧ ∀ m ∈ ms, m.wf := by
  obtain ⟨a, len, cap, rfl⟩ := okWide_slice Tryd.underlying27 hv
  obtain ⟨fuel, hf⟩ := h
  have hf' : DataW.trod enc Tryd.prog w base spare held fuel 27 [.slice a len cap] = some (d, p) := hf
  exact rows_came_cells (R := markRep) (S := fun b => b < w.heap.size) 27 46 MarkM.wf Tryd.underlying27 (by kernel_rfl) (fun _ h => h) (fun ht => mark_came ht) hf'
end
end Go.Proofs.YtffmfgbjlijpeaaDoor
