/- From an argument as a row reads it to the words of my own: a list of segments that came in. -/
import Derived.Test.YtoienjlpncphgaaSegLie
import Derived.Test.YtoienjlpncphgaaConfCame
namespace Go.Proofs.Ytoienjlpncphgaa
open Go.RowKit Go.ChangeShapes Go.WideShapes

section
variable {H : Type} {enc : TypeId × Value → H} {w : World} {base : Nat} {spare : Nat → Bool} {held : Bool}
theorem seg_came {fuel : Nat} {cs : List Value} {x : DataW H × List MemPlace} (h : DataW.trod enc Try.prog w base spare held fuel 31 cs = some x) :
    ∃ s : LSeg, segRep.holds w (fun b => b < w.heap.size) s cs ∧ s.wf := by
  obtain ⟨ys, n, _, _, hlen, hyl, hf⟩ := DataW.trod_struct Try.underlying31 h
  have hc10 : Try.prog.cellsOf 31 = 10 := by kernel_rfl
  rw [hc10] at hlen
  have hy10 : ys.length = 10 := hyl
  obtain ⟨v0, v1, v2, v3, v4, v5, v6, v7, v8, v9, rfl⟩ : ∃ v0 v1 v2 v3 v4 v5 v6 v7 v8 v9, cs = [v0, v1, v2, v3, v4, v5, v6, v7, v8, v9] := by
    match cs, hlen with
    | [v0, v1, v2, v3, v4, v5, v6, v7, v8, v9], _ => exact ⟨v0, v1, v2, v3, v4, v5, v6, v7, v8, v9, rfl⟩
  have c3 : Try.prog.cellsOf 3 = 1 := by kernel_rfl
  have c4 : Try.prog.cellsOf 4 = 1 := by kernel_rfl
  have cR : Try.prog.cellsOf 28 = 1 := by kernel_rfl
  have cU : Try.prog.cellsOf 29 = 1 := by kernel_rfl
  have at_ : ∀ (i : Nat) (t : TypeId) (l : List Value), i < 10 → DataW.trod enc Try.prog w base spare held n t l = ys[i]? → ∃ y, DataW.trod enc Try.prog w base spare held n t l = some y := by
    intro i t l hi h
    rw [List.getElem?_eq_getElem (by omega)] at h
    exact ⟨_, h⟩
  have g0 : DataW.trod enc Try.prog w base spare held n 3 ((([v0, v1, v2, v3, v4, v5, v6, v7, v8, v9] : List Value).drop 0).take (Try.prog.cellsOf 3)) = ys[0]? := hf 0 _ rfl
  rw [c3] at g0
  obtain ⟨y0, k0⟩ := at_ 0 3 [v0] (by omega) g0
  have g1 : DataW.trod enc Try.prog w base spare held n 3 ((([v0, v1, v2, v3, v4, v5, v6, v7, v8, v9] : List Value).drop 1).take (Try.prog.cellsOf 3)) = ys[1]? := hf 1 _ rfl
  rw [c3] at g1
  obtain ⟨y1, k1⟩ := at_ 1 3 [v1] (by omega) g1
  have g2 : DataW.trod enc Try.prog w base spare held n 3 ((([v0, v1, v2, v3, v4, v5, v6, v7, v8, v9] : List Value).drop 2).take (Try.prog.cellsOf 3)) = ys[2]? := hf 2 _ rfl
  rw [c3] at g2
  obtain ⟨y2, k2⟩ := at_ 2 3 [v2] (by omega) g2
  have g3 : DataW.trod enc Try.prog w base spare held n 3 ((([v0, v1, v2, v3, v4, v5, v6, v7, v8, v9] : List Value).drop 3).take (Try.prog.cellsOf 3)) = ys[3]? := hf 3 _ rfl
  rw [c3] at g3
  obtain ⟨y3, k3⟩ := at_ 3 3 [v3] (by omega) g3
  have g4 : DataW.trod enc Try.prog w base spare held n 28 ((([v0, v1, v2, v3, v4, v5, v6, v7, v8, v9] : List Value).drop 4).take (Try.prog.cellsOf 28)) = ys[4]? := hf 4 _ rfl
  rw [cR] at g4
  obtain ⟨y4, k4⟩ := at_ 4 28 [v4] (by omega) g4
  have g5 : DataW.trod enc Try.prog w base spare held n 4 ((([v0, v1, v2, v3, v4, v5, v6, v7, v8, v9] : List Value).drop 5).take (Try.prog.cellsOf 4)) = ys[5]? := hf 5 _ rfl
  rw [c4] at g5
  obtain ⟨y5, k5⟩ := at_ 5 4 [v5] (by omega) g5
  have g6 : DataW.trod enc Try.prog w base spare held n 4 ((([v0, v1, v2, v3, v4, v5, v6, v7, v8, v9] : List Value).drop 6).take (Try.prog.cellsOf 4)) = ys[6]? := hf 6 _ rfl
  rw [c4] at g6
  obtain ⟨y6, k6⟩ := at_ 6 4 [v6] (by omega) g6
  have g7 : DataW.trod enc Try.prog w base spare held n 4 ((([v0, v1, v2, v3, v4, v5, v6, v7, v8, v9] : List Value).drop 7).take (Try.prog.cellsOf 4)) = ys[7]? := hf 7 _ rfl
  rw [c4] at g7
  obtain ⟨y7, k7⟩ := at_ 7 4 [v7] (by omega) g7
  have g8 : DataW.trod enc Try.prog w base spare held n 3 ((([v0, v1, v2, v3, v4, v5, v6, v7, v8, v9] : List Value).drop 8).take (Try.prog.cellsOf 3)) = ys[8]? := hf 8 _ rfl
  rw [c3] at g8
  obtain ⟨y8, k8⟩ := at_ 8 3 [v8] (by omega) g8
  have g9 : DataW.trod enc Try.prog w base spare held n 29 ((([v0, v1, v2, v3, v4, v5, v6, v7, v8, v9] : List Value).drop 9).take (Try.prog.cellsOf 29)) = ys[9]? := hf 9 _ rfl
  rw [cU] at g9
  obtain ⟨y9, k9⟩ := at_ 9 29 [v9] (by omega) g9
  obtain ⟨a0, e0, _, w0⟩ := DataW.trod_int Try.underlying3 k0
  obtain ⟨a1, e1, _, w1⟩ := DataW.trod_int Try.underlying3 k1
  obtain ⟨a2, e2, _, w2⟩ := DataW.trod_int Try.underlying3 k2
  obtain ⟨a3, e3, _, w3⟩ := DataW.trod_int Try.underlying3 k3
  obtain ⟨A, cap, rs, rfl, hrs⟩ := recs_trod k4
  obtain ⟨a5, e5, _⟩ := DataW.trod_bool Try.underlying4 k5
  obtain ⟨a6, e6, _⟩ := DataW.trod_bool Try.underlying4 k6
  obtain ⟨a7, e7, _⟩ := DataW.trod_bool Try.underlying4 k7
  obtain ⟨a8, e8, _, w8⟩ := DataW.trod_int Try.underlying3 k8
  obtain ⟨a9, e9, _, w9⟩ := DataW.trod_int Try.underlying29 k9
  simp only [List.cons.injEq, and_true] at e0 e1 e2 e3 e5 e6 e7 e8 e9
  refine ⟨⟨a0, a1, a2, a3, rs, a5, a6, a7, a8, a9⟩, ⟨A, cap, ?_, hrs, fun hn => ?_⟩, ⟨bounds_i64 w0, bounds_i64 w1, bounds_i64 w2, bounds_i64 w3, bounds_i64 w8, bounds_u32 w9⟩⟩
  · rw [e0, e1, e2, e3, e5, e6, e7, e8, e9]
    rfl
  · obtain ⟨b, off, e, hb, _⟩ := hrs.1 hn
    exact ⟨b, off, e, hb⟩
/-- A list of segments that came in. -/
theorem segs_came {r0 : Reach} {b0 : Nat} {v : Value} {d : DataW H} {p : List MemPlace} (hv : Value.okWide Try.prog w r0 b0 22 v) (h : DataW.Trod enc Try.prog w base spare held 22 v d p) :
    ∃ (A : Option Addr) (cap : Nat) (ss : List LSeg), v = .slice A ss.length cap ∧ RowsLie segRep w (fun b => b < w.heap.size) A ss cap ∧ ∀ s ∈ ss, s.wf := by
  obtain ⟨a, len, cap, rfl⟩ := okWide_slice Try.underlying22 hv
  obtain ⟨fuel, hf⟩ := h
  have hf' : DataW.trod enc Try.prog w base spare held fuel 22 [.slice a len cap] = some (d, p) := hf
  exact rows_came_cells (R := segRep) (S := fun b => b < w.heap.size) 22 31 LSeg.wf Try.underlying22 (by kernel_rfl) (fun _ h => h) (fun ht => seg_came ht) hf'
end
end Go.Proofs.Ytoienjlpncphgaa
