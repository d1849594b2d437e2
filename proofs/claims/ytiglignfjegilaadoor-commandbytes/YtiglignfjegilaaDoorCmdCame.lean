/- From an argument as a row reads it to the words of my own: a command that came in. -/
import Derived.Test.YtiglignfjegilaaDoorCmdBase
namespace Go.Proofs.YtiglignfjegilaaDoor
open Go.RowKit Go.ChangeShapes Go.WideShapes

section
variable {H : Type} {enc : TypeId × Value → H} {w : World} {base : Nat} {spare : Nat → Bool} {held : Bool}
/-- A list of records, by its cell. -/
theorem recs_trod {fuel : Nat} {v : Value} {x : DataW H × List MemPlace} (h : DataW.trod enc Tryd.prog w base spare held fuel 22 [v] = some x) :
    ∃ (A : Option Addr) (cap : Nat) (rs : List Rec), v = .slice A rs.length cap ∧ RecsLie w A rs cap := by
  have hv : ∃ a len cap, v = .slice a len cap := by
    rcases Go.Deep.open_slice Tryd.underlying22 h with ⟨hcs, _⟩ | ⟨x, l, c, m, n, D, Pl, hcs, _⟩
    · simp only [List.cons.injEq, and_true] at hcs
      exact ⟨_, _, _, hcs⟩
    · simp only [List.cons.injEq, and_true] at hcs
      exact ⟨_, _, _, hcs⟩
  obtain ⟨a, len, cap, rfl⟩ := hv
  exact recs_came_of (v := .slice a len cap) ⟨a, len, cap, rfl⟩ ⟨fuel, h⟩
theorem bounds_u32 {n : Int} (h : (Lit.int .u32 n).wf = true) : 0 ≤ n ∧ n ≤ 4294967295 := by
  simp [Lit.wf, IntKind.min, IntKind.max, IntKind.signed, IntKind.bits] at h
  omega
/-- Four numbers. -/
theorem conf_cells {fuel : Nat} {cs : List Value} {x : DataW H × List MemPlace} (h : DataW.trod enc Tryd.prog w base spare held fuel 25 cs = some x) :
    ∃ a b c d : Int, cs = [.int .i64 a, .int .i64 b, .int .i64 c, .int .i64 d] ∧ (-9223372036854775808 ≤ a ∧ a ≤ 9223372036854775807) ∧ (-9223372036854775808 ≤ b ∧ b ≤ 9223372036854775807) ∧ (-9223372036854775808 ≤ c ∧ c ≤ 9223372036854775807) ∧ (-9223372036854775808 ≤ d ∧ d ≤ 9223372036854775807) := by
  obtain ⟨ys, n, _, _, hlen, hyl, hf⟩ := DataW.trod_struct Tryd.underlying25 h
  have hc4 : Tryd.prog.cellsOf 25 = 4 := by kernel_rfl
  rw [hc4] at hlen
  have hy4 : ys.length = 4 := hyl
  obtain ⟨v0, v1, v2, v3, rfl⟩ : ∃ v0 v1 v2 v3, cs = [v0, v1, v2, v3] := by
    match cs, hlen with
    | [v0, v1, v2, v3], _ => exact ⟨v0, v1, v2, v3, rfl⟩
  have c3 : Tryd.prog.cellsOf 3 = 1 := by kernel_rfl
  have at_ : ∀ (j : Nat) (t : TypeId) (v : Value), j < 4 → (([v0, v1, v2, v3] : List Value).drop j).take 1 = [v] → DataW.trod enc Tryd.prog w base spare held n t ((([v0, v1, v2, v3] : List Value).drop j).take 1) = ys[j]? → ∃ y, DataW.trod enc Tryd.prog w base spare held n t [v] = some y := by
    intro j t v hj hv h
    rw [hv, List.getElem?_eq_getElem (by omega)] at h
    exact ⟨_, h⟩
  have g0 : DataW.trod enc Tryd.prog w base spare held n 3 ((([v0, v1, v2, v3] : List Value).drop 0).take (Tryd.prog.cellsOf 3)) = ys[0]? := hf 0 _ rfl
  rw [c3] at g0
  have g1 : DataW.trod enc Tryd.prog w base spare held n 3 ((([v0, v1, v2, v3] : List Value).drop 1).take (Tryd.prog.cellsOf 3)) = ys[1]? := hf 1 _ rfl
  rw [c3] at g1
  have g2 : DataW.trod enc Tryd.prog w base spare held n 3 ((([v0, v1, v2, v3] : List Value).drop 2).take (Tryd.prog.cellsOf 3)) = ys[2]? := hf 2 _ rfl
  rw [c3] at g2
  have g3 : DataW.trod enc Tryd.prog w base spare held n 3 ((([v0, v1, v2, v3] : List Value).drop 3).take (Tryd.prog.cellsOf 3)) = ys[3]? := hf 3 _ rfl
  rw [c3] at g3
  obtain ⟨y0, k0⟩ := at_ 0 3 v0 (by omega) rfl g0
  obtain ⟨y1, k1⟩ := at_ 1 3 v1 (by omega) rfl g1
  obtain ⟨y2, k2⟩ := at_ 2 3 v2 (by omega) rfl g2
  obtain ⟨y3, k3⟩ := at_ 3 3 v3 (by omega) rfl g3
  obtain ⟨a0, e0, _, w0⟩ := DataW.trod_int Tryd.underlying3 k0
  obtain ⟨a1, e1, _, w1⟩ := DataW.trod_int Tryd.underlying3 k1
  obtain ⟨a2, e2, _, w2⟩ := DataW.trod_int Tryd.underlying3 k2
  obtain ⟨a3, e3, _, w3⟩ := DataW.trod_int Tryd.underlying3 k3
  simp only [List.cons.injEq, and_true] at e0 e1 e2 e3
  exact ⟨a0, a1, a2, a3, by rw [e0, e1, e2, e3], bounds_i64 w0, bounds_i64 w1, bounds_i64 w2, bounds_i64 w3⟩
/-- The cells of a command. -/
theorem cmd_cells {fuel : Nat} {cs : List Value} {x : DataW H × List MemPlace} (h : DataW.trod enc Tryd.prog w base spare held fuel 27 cs = some x) :
    ∃ (A : Option Addr) (cap : Nat) (c : Cmd), cs = cmdCells (.slice A c.recs.length cap) c ∧ RecsLie w A c.recs cap ∧ c.wf := by
  obtain ⟨ys, n, _, _, hlen, hyl, hf⟩ := DataW.trod_struct Tryd.underlying27 h
  have hc13 : Tryd.prog.cellsOf 27 = 13 := by kernel_rfl
  rw [hc13] at hlen
  have hy10 : ys.length = 10 := hyl
  obtain ⟨v0, v1, v2, v3, v4, v5, v6, v7, v8, v9, v10, v11, v12, rfl⟩ : ∃ v0 v1 v2 v3 v4 v5 v6 v7 v8 v9 v10 v11 v12, cs = [v0, v1, v2, v3, v4, v5, v6, v7, v8, v9, v10, v11, v12] := by
    match cs, hlen with
    | [v0, v1, v2, v3, v4, v5, v6, v7, v8, v9, v10, v11, v12], _ => exact ⟨v0, v1, v2, v3, v4, v5, v6, v7, v8, v9, v10, v11, v12, rfl⟩
  have c3 : Tryd.prog.cellsOf 3 = 1 := by kernel_rfl
  have c9 : Tryd.prog.cellsOf 9 = 1 := by kernel_rfl
  have cR : Tryd.prog.cellsOf 22 = 1 := by kernel_rfl
  have cU : Tryd.prog.cellsOf 23 = 1 := by kernel_rfl
  have cF : Tryd.prog.cellsOf 25 = 4 := by kernel_rfl
  have at_ : ∀ (i : Nat) (t : TypeId) (l : List Value), i < 10 → DataW.trod enc Tryd.prog w base spare held n t l = ys[i]? → ∃ y, DataW.trod enc Tryd.prog w base spare held n t l = some y := by
    intro i t l hi h
    rw [List.getElem?_eq_getElem (by omega)] at h
    exact ⟨_, h⟩
  have g0 : DataW.trod enc Tryd.prog w base spare held n 3 ((([v0, v1, v2, v3, v4, v5, v6, v7, v8, v9, v10, v11, v12] : List Value).drop 0).take (Tryd.prog.cellsOf 3)) = ys[0]? := hf 0 _ rfl
  rw [c3] at g0
  obtain ⟨y0, k0⟩ := at_ 0 3 [v0] (by omega) g0
  have g1 : DataW.trod enc Tryd.prog w base spare held n 3 ((([v0, v1, v2, v3, v4, v5, v6, v7, v8, v9, v10, v11, v12] : List Value).drop 1).take (Tryd.prog.cellsOf 3)) = ys[1]? := hf 1 _ rfl
  rw [c3] at g1
  obtain ⟨y1, k1⟩ := at_ 1 3 [v1] (by omega) g1
  have g2 : DataW.trod enc Tryd.prog w base spare held n 3 ((([v0, v1, v2, v3, v4, v5, v6, v7, v8, v9, v10, v11, v12] : List Value).drop 2).take (Tryd.prog.cellsOf 3)) = ys[2]? := hf 2 _ rfl
  rw [c3] at g2
  obtain ⟨y2, k2⟩ := at_ 2 3 [v2] (by omega) g2
  have g3 : DataW.trod enc Tryd.prog w base spare held n 22 ((([v0, v1, v2, v3, v4, v5, v6, v7, v8, v9, v10, v11, v12] : List Value).drop 3).take (Tryd.prog.cellsOf 22)) = ys[3]? := hf 3 _ rfl
  rw [cR] at g3
  obtain ⟨y3, k3⟩ := at_ 3 22 [v3] (by omega) g3
  have g4 : DataW.trod enc Tryd.prog w base spare held n 9 ((([v0, v1, v2, v3, v4, v5, v6, v7, v8, v9, v10, v11, v12] : List Value).drop 4).take (Tryd.prog.cellsOf 9)) = ys[4]? := hf 4 _ rfl
  rw [c9] at g4
  obtain ⟨y4, k4⟩ := at_ 4 9 [v4] (by omega) g4
  have g5 : DataW.trod enc Tryd.prog w base spare held n 3 ((([v0, v1, v2, v3, v4, v5, v6, v7, v8, v9, v10, v11, v12] : List Value).drop 5).take (Tryd.prog.cellsOf 3)) = ys[5]? := hf 5 _ rfl
  rw [c3] at g5
  obtain ⟨y5, k5⟩ := at_ 5 3 [v5] (by omega) g5
  have g6 : DataW.trod enc Tryd.prog w base spare held n 3 ((([v0, v1, v2, v3, v4, v5, v6, v7, v8, v9, v10, v11, v12] : List Value).drop 6).take (Tryd.prog.cellsOf 3)) = ys[6]? := hf 6 _ rfl
  rw [c3] at g6
  obtain ⟨y6, k6⟩ := at_ 6 3 [v6] (by omega) g6
  have g7 : DataW.trod enc Tryd.prog w base spare held n 3 ((([v0, v1, v2, v3, v4, v5, v6, v7, v8, v9, v10, v11, v12] : List Value).drop 7).take (Tryd.prog.cellsOf 3)) = ys[7]? := hf 7 _ rfl
  rw [c3] at g7
  obtain ⟨y7, k7⟩ := at_ 7 3 [v7] (by omega) g7
  have g8 : DataW.trod enc Tryd.prog w base spare held n 23 ((([v0, v1, v2, v3, v4, v5, v6, v7, v8, v9, v10, v11, v12] : List Value).drop 8).take (Tryd.prog.cellsOf 23)) = ys[8]? := hf 8 _ rfl
  rw [cU] at g8
  obtain ⟨y8, k8⟩ := at_ 8 23 [v8] (by omega) g8
  have g9 : DataW.trod enc Tryd.prog w base spare held n 25 ((([v0, v1, v2, v3, v4, v5, v6, v7, v8, v9, v10, v11, v12] : List Value).drop 9).take (Tryd.prog.cellsOf 25)) = ys[9]? := hf 9 _ rfl
  rw [cF] at g9
  obtain ⟨y9, k9⟩ := at_ 9 25 [v9, v10, v11, v12] (by omega) g9
  obtain ⟨a0, e0, _, w0⟩ := DataW.trod_int Tryd.underlying3 k0
  obtain ⟨a1, e1, _, w1⟩ := DataW.trod_int Tryd.underlying3 k1
  obtain ⟨a2, e2, _, w2⟩ := DataW.trod_int Tryd.underlying3 k2
  obtain ⟨A, cap, rs, rfl, hrs⟩ := recs_trod k3
  obtain ⟨a4, e4, _, w4⟩ := DataW.trod_string Tryd.underlying9 k4
  obtain ⟨a5, e5, _, w5⟩ := DataW.trod_int Tryd.underlying3 k5
  obtain ⟨a6, e6, _, w6⟩ := DataW.trod_int Tryd.underlying3 k6
  obtain ⟨a7, e7, _, w7⟩ := DataW.trod_int Tryd.underlying3 k7
  obtain ⟨a8, e8, _, w8⟩ := DataW.trod_int Tryd.underlying23 k8
  obtain ⟨s0, s1, s2, s3, e9, w90, w91, w92, w93⟩ := conf_cells k9
  simp only [List.cons.injEq, and_true] at e0 e1 e2 e4 e5 e6 e7 e8 e9
  obtain ⟨e9, e10, e11, e12⟩ := e9
  refine ⟨A, cap, ⟨a0, a1, a2, rs, a4, a5, a6, a7, a8, s0, s1, s2, s3⟩, ?_, hrs, ⟨bounds_i64 w0, bounds_i64 w1, bounds_i64 w2, hrs.2.2.2, ?_, bounds_i64 w5, bounds_i64 w6, bounds_i64 w7, bounds_u32 w8, w90, w91, w92, w93⟩⟩
  · rw [e0, e1, e2, e4, e5, e6, e7, e8, e9, e10, e11, e12]
    rfl
  · unfold maxLen at w4
    exact w4
/-- A command that came in. -/
theorem cmd_came {r0 : Reach} {b0 : Nat} {v : Value} {d : DataW H} {p : List MemPlace} (hv : Value.okWide Tryd.prog w r0 b0 27 v) (h : DataW.Trod enc Tryd.prog w base spare held 27 v d p) :
    ∃ (A : Option Addr) (cap : Nat) (c : Cmd), v = cmdV (.slice A c.recs.length cap) c ∧ RecsLie w A c.recs cap ∧ c.wf := by
  obtain ⟨cs, rfl, _⟩ := okWide_struct Tryd.underlying27 hv
  obtain ⟨fuel, hf⟩ := h
  obtain ⟨A, cap, c, hc, hl, hw⟩ := cmd_cells hf
  refine ⟨A, cap, c, ?_, hl, hw⟩
  simp only [Value.cells] at hc
  unfold cmdV
  congr 1
  exact Array.toList_inj.1 hc
end
end Go.Proofs.YtiglignfjegilaaDoor
