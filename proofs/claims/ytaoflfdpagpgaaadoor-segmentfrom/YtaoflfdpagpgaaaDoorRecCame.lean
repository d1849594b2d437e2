/- From an argument as a row reads it to the words of my own: a record that came in, and a list of them. -/
import Derived.Test.YtaoflfdpagpgaaaDoorRecWords
import Derived.ChangeArms
import Derived.OpenShut
import Derived.Deep.Slices
namespace Go.Proofs.YtaoflfdpagpgaaaDoor
open Go.RowKit Go.ChangeShapes Go.WideShapes

section
variable {H : Type} {enc : TypeId × Value → H} {w : World} {base : Nat} {spare : Nat → Bool} {held : Bool}

/-- The cells of a record. -/
theorem rec_cells {fuel : Nat} {cs : List Value} {x : DataW H × List MemPlace} (h : DataW.trod enc Tryd.prog w base spare held fuel 38 cs = some x) :
    ∃ r : Rec, cs = [.int .i64 r.off, .int .i64 r.time, .string r.key, .string r.val, .bool r.dead] ∧ r.wf := by
  obtain ⟨ys, n, _, _, hlen, hyl, hf⟩ := DataW.trod_struct Tryd.underlying38 h
  have hc5 : Tryd.prog.cellsOf 38 = 5 := by kernel_rfl
  rw [hc5] at hlen
  have hy5 : ys.length = 5 := hyl
  obtain ⟨v0, v1, v2, v3, v4, rfl⟩ : ∃ v0 v1 v2 v3 v4, cs = [v0, v1, v2, v3, v4] := by
    match cs, hlen with
    | [v0, v1, v2, v3, v4], _ => exact ⟨v0, v1, v2, v3, v4, rfl⟩
  have c3 : Tryd.prog.cellsOf 3 = 1 := by kernel_rfl
  have c9 : Tryd.prog.cellsOf 9 = 1 := by kernel_rfl
  have c4 : Tryd.prog.cellsOf 4 = 1 := by kernel_rfl
  have at_ : ∀ (j : Nat) (t : TypeId) (v : Value), j < 5 → (([v0, v1, v2, v3, v4] : List Value).drop j).take 1 = [v] → DataW.trod enc Tryd.prog w base spare held n t ((([v0, v1, v2, v3, v4] : List Value).drop j).take 1) = ys[j]? → ∃ y, DataW.trod enc Tryd.prog w base spare held n t [v] = some y := by
    intro j t v hj hv h
    rw [hv, List.getElem?_eq_getElem (by omega)] at h
    exact ⟨_, h⟩
  have g0 : DataW.trod enc Tryd.prog w base spare held n 3 ((([v0, v1, v2, v3, v4] : List Value).drop 0).take (Tryd.prog.cellsOf 3)) = ys[0]? := hf 0 _ rfl
  rw [c3] at g0
  have g1 : DataW.trod enc Tryd.prog w base spare held n 3 ((([v0, v1, v2, v3, v4] : List Value).drop 1).take (Tryd.prog.cellsOf 3)) = ys[1]? := hf 1 _ rfl
  rw [c3] at g1
  have g2 : DataW.trod enc Tryd.prog w base spare held n 9 ((([v0, v1, v2, v3, v4] : List Value).drop 2).take (Tryd.prog.cellsOf 9)) = ys[2]? := hf 2 _ rfl
  rw [c9] at g2
  have g3 : DataW.trod enc Tryd.prog w base spare held n 9 ((([v0, v1, v2, v3, v4] : List Value).drop 3).take (Tryd.prog.cellsOf 9)) = ys[3]? := hf 3 _ rfl
  rw [c9] at g3
  have g4 : DataW.trod enc Tryd.prog w base spare held n 4 ((([v0, v1, v2, v3, v4] : List Value).drop 4).take (Tryd.prog.cellsOf 4)) = ys[4]? := hf 4 _ rfl
  rw [c4] at g4
  obtain ⟨y0, k0⟩ := at_ 0 3 v0 (by omega) rfl g0
  obtain ⟨y1, k1⟩ := at_ 1 3 v1 (by omega) rfl g1
  obtain ⟨y2, k2⟩ := at_ 2 9 v2 (by omega) rfl g2
  obtain ⟨y3, k3⟩ := at_ 3 9 v3 (by omega) rfl g3
  obtain ⟨y4, k4⟩ := at_ 4 4 v4 (by omega) rfl g4
  obtain ⟨a, e0, _, w0⟩ := DataW.trod_int Tryd.underlying3 k0
  obtain ⟨b, e1, _, w1⟩ := DataW.trod_int Tryd.underlying3 k1
  obtain ⟨s, e2, _, w2⟩ := DataW.trod_string Tryd.underlying9 k2
  obtain ⟨t, e3, _, w3⟩ := DataW.trod_string Tryd.underlying9 k3
  obtain ⟨d, e4, _⟩ := DataW.trod_bool Tryd.underlying4 k4
  have b0 := bounds_i64 w0
  have b1 := bounds_i64 w1
  refine ⟨⟨a, b, s, t, d⟩, ?_, ⟨b0.1, b0.2, b1.1, b1.2, w2, w3⟩⟩
  simp only [List.cons.injEq, and_true] at e0 e1 e2 e3 e4
  rw [e0, e1, e2, e3, e4]

/-- A record that came in. -/
theorem rec_came {r0 : Reach} {b0 : Nat} {v : Value} {d : DataW H} {p : List MemPlace} (hv : Value.okWide Tryd.prog w r0 b0 38 v) (h : DataW.Trod enc Tryd.prog w base spare held 38 v d p) : ∃ r : Rec, v = recV r ∧ r.wf := by
  obtain ⟨cs, rfl, _⟩ := okWide_struct Tryd.underlying38 hv
  obtain ⟨fuel, hf⟩ := h
  obtain ⟨r, hr, hw⟩ := rec_cells hf
  refine ⟨r, ?_, hw⟩
  simp only [Value.cells] at hr
  unfold recV
  congr 1
  exact Array.toList_inj.1 hr
end
end Go.Proofs.YtaoflfdpagpgaaaDoor
