/- From an argument as a row reads it to the words of my own: a list of calls that came in. No statement of the program is proved here. -/
import Derived.Test.YtmghlfhdjdlkbaaDoorRPlace
namespace Go.Proofs.YtmghlfhdjdlkbaaDoor
open Go.RowKit Go.ChangeShapes Go.WideShapes
section
variable {H : Type} {enc : TypeId × Value → H} {w : World} {base : Nat} {spare : Nat → Bool} {held : Bool}
theorem gact_came {S : Nat → Prop} {fuel : Nat} {cs : List Value} {x : DataW H × List MemPlace} (h : DataW.trod enc Tryd.prog w base spare held fuel 33 cs = some x) :
    ∃ m : PlaceM, placeRep.holds w S m cs ∧ m.wf := by
  obtain ⟨ys, n, _, _, hlen, hyl, hf⟩ := DataW.trod_struct Tryd.underlying33 h
  have hc2 : Tryd.prog.cellsOf 33 = 2 := by kernel_rfl
  rw [hc2] at hlen
  have hy2 : ys.length = 2 := hyl
  obtain ⟨v0, v1, rfl⟩ : ∃ v0 v1, cs = [v0, v1] := by
    match cs, hlen with
    | [v0, v1], _ => exact ⟨v0, v1, rfl⟩
  have c3 : Tryd.prog.cellsOf 3 = 1 := by kernel_rfl
  have c9 : Tryd.prog.cellsOf 9 = 1 := by kernel_rfl
  have at_ : ∀ (j : Nat) (t : TypeId) (v : Value), j < 2 → (([v0, v1] : List Value).drop j).take 1 = [v] → DataW.trod enc Tryd.prog w base spare held n t ((([v0, v1] : List Value).drop j).take 1) = ys[j]? → ∃ y, DataW.trod enc Tryd.prog w base spare held n t [v] = some y := by
    intro j t v hj hv h
    rw [hv, List.getElem?_eq_getElem (by omega)] at h
    exact ⟨_, h⟩
  have g0 : DataW.trod enc Tryd.prog w base spare held n 9 ((([v0, v1] : List Value).drop 0).take (Tryd.prog.cellsOf 9)) = ys[0]? := hf 0 _ rfl
  rw [c9] at g0
  have g1 : DataW.trod enc Tryd.prog w base spare held n 3 ((([v0, v1] : List Value).drop 1).take (Tryd.prog.cellsOf 3)) = ys[1]? := hf 1 _ rfl
  rw [c3] at g1
  obtain ⟨y0, k0⟩ := at_ 0 9 v0 (by omega) rfl g0
  obtain ⟨y1, k1⟩ := at_ 1 3 v1 (by omega) rfl g1
  obtain ⟨b, e1, _, w1⟩ := DataW.trod_int Tryd.underlying3 k1
  obtain ⟨a, e0, _, w0⟩ := DataW.trod_string Tryd.underlying9 k0
  have hbb := bounds_i64 w1
  refine ⟨⟨a, b⟩, ?_, ?_, hbb.1, hbb.2⟩
  · simp only [List.cons.injEq, and_true] at e0 e1
    show _ = placeCells _
    rw [e0, e1]
    rfl
  · unfold maxLen at w0
    show a.size ≤ _
    omega
/-- A list of calls that came in. -/
theorem gacts_came {r0 : Reach} {b0 : Nat} {v : Value} {d : DataW H} {p : List MemPlace} (hv : Value.okWide Tryd.prog w r0 b0 22 v) (h : DataW.Trod enc Tryd.prog w base spare held 22 v d p) :
    ∃ (A : Option Addr) (cap : Nat) (ms : List PlaceM), v = .slice A ms.length cap ∧ RowsLie placeRep w (fun b => b < w.heap.size) A ms cap ∧ ∀ m ∈ ms, m.wf := by
  obtain ⟨a, len, cap, rfl⟩ := okWide_slice Tryd.underlying22 hv
  obtain ⟨fuel, hf⟩ := h
  have hf' : DataW.trod enc Tryd.prog w base spare held fuel 22 [.slice a len cap] = some (d, p) := hf
  exact rows_came_cells (R := placeRep) (S := fun b => b < w.heap.size) 22 33 PlaceM.wf Tryd.underlying22 (by kernel_rfl) (fun _ h => h) (fun ht => gact_came ht) hf'
end
end Go.Proofs.YtmghlfhdjdlkbaaDoor
