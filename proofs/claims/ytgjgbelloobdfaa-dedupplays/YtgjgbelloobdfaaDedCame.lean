/- From an argument as a row reads it to the words of my own: a list of three numbers each that came in. No statement of the program is proved here. -/
import Derived.Test.YtgjgbelloobdfaaRPid
import Derived.Laws.IdiomArrays
namespace Go.Proofs.Ytgjgbelloobdfaa
open Go.RowKit Go.ChangeShapes Go.WideShapes
section
variable {H : Type} {enc : TypeId × Value → H} {w : World} {base : Nat} {spare : Nat → Bool} {held : Bool}
theorem trip_came {S : Nat → Prop} {fuel : Nat} {cs : List Value} {x : DataW H × List MemPlace} (h : DataW.trod enc Try.prog w base spare held fuel 35 cs = some x) :
    ∃ m : PidM, pidRep.holds w S m cs ∧ m.wf := by
  obtain ⟨ys, n, _, _, hlen, _, _⟩ := DataW.trod_array Try.underlying35 h
  have hc3 : Try.prog.cellsOf 35 = 3 := by kernel_rfl
  rw [hc3] at hlen
  obtain ⟨v0, v1, v2, rfl⟩ : ∃ v0 v1 v2, cs = [v0, v1, v2] := by
    match cs, hlen with
    | [v0, v1, v2], _ => exact ⟨v0, v1, v2, rfl⟩
  have c3 : Try.prog.cellsOf 3 = 1 := by kernel_rfl
  obtain ⟨y0, y1, y2, m, _, k0, k1, k2⟩ := trod_array3 Try.underlying35 c3 h
  obtain ⟨a, e0, _, w0⟩ := DataW.trod_int Try.underlying3 k0
  obtain ⟨b, e1, _, w1⟩ := DataW.trod_int Try.underlying3 k1
  obtain ⟨c, e2, _, w2⟩ := DataW.trod_int Try.underlying3 k2
  refine ⟨⟨a, b, c⟩, ?_, bounds_i64 w0, bounds_i64 w1, bounds_i64 w2⟩
  simp only [List.cons.injEq, and_true] at e0 e1 e2
  show _ = pidCells _
  rw [e0, e1, e2]
  rfl
/-- A list of threes that came in. -/
theorem trips_came {r0 : Reach} {b0 : Nat} {v : Value} {d : DataW H} {p : List MemPlace} (hv : Value.okWide Try.prog w r0 b0 22 v) (h : DataW.Trod enc Try.prog w base spare held 22 v d p) :
    ∃ (A : Option Addr) (cap : Nat) (ms : List PidM), v = .slice A ms.length cap ∧ RowsLie pidRep w (fun b => b < w.heap.size) A ms cap ∧ ∀ m ∈ ms, m.wf := by
  obtain ⟨a, len, cap, rfl⟩ := okWide_slice Try.underlying22 hv
  obtain ⟨fuel, hf⟩ := h
  have hf' : DataW.trod enc Try.prog w base spare held fuel 22 [.slice a len cap] = some (d, p) := hf
  exact rows_came_cells (R := pidRep) (S := fun b => b < w.heap.size) 22 35 PidM.wf Try.underlying22 (by kernel_rfl) (fun _ h => h) (fun ht => trip_came ht) hf'
end
end Go.Proofs.Ytgjgbelloobdfaa
