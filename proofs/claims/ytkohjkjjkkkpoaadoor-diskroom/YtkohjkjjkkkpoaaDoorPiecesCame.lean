/- From an argument as a row reads it to the words of my own: a list of slices of bytes that came in. -/
import Derived.Test.YtkohjkjjkkkpoaaDoorPieces
import Derived.OpenShut
import Derived.Deep.Slices
import Derived.ChangeArms
import Derived.ChangeSame
namespace Go.Proofs.YtkohjkjjkkkpoaaDoor
open Go.RowKit Go.ChangeShapes Go.WideShapes

theorem list_at (n : Nat) (Q : Nat → List Int → Prop) (h : ∀ i, i < n → ∃ r, Q i r) : ∃ rs : List (List Int), rs.length = n ∧ ∀ i (hi : i < rs.length), Q i rs[i] := by
  induction n with
  | zero => exact ⟨[], rfl, fun i hi => by simp at hi⟩
  | succ n ih =>
    obtain ⟨rs, hl, hq⟩ := ih fun i hi => h i (by omega)
    obtain ⟨r, hr⟩ := h n (by omega)
    refine ⟨rs ++ [r], by simp [hl], fun i hi => ?_⟩
    by_cases hin : i < rs.length
    · rw [List.getElem_append_left hin]
      exact hq i hin
    · have : i = n := by simp at hi; omega
      subst this
      rw [List.getElem_append_right (by omega)]
      simpa [hl] using hr

section
variable {H : Type} {enc : TypeId × Value → H} {w : World} {base : Nat} {held : Bool}
/-- The cell of a slice of bytes. -/
theorem bytes_cell {fuel : Nat} {cs : List Value} {x : DataW H × List MemPlace} (h : DataW.trod enc Tryd.prog w base (fun _ => true) held fuel 31 cs = some x) :
    ∃ A c, ∃ xs : List Int, cs = [.slice A xs.length c] ∧ Lies .u8 w w.heap.size A xs ∧ xs.length ≤ c ∧ c ≤ maxLen ∧ (A = none → c = 0) ∧ IsBytes xs := by
  rcases open_ints Tryd.underlying31 Tryd.underlying5 (by kernel_rfl) h with ⟨hcs, _⟩ | ⟨x, l, c, zs, hcs, _, hl, hm, hz, _, hcell, hwz⟩
  · exact ⟨none, 0, [], hcs, Lies.nil, by simp, by simp [maxLen], fun _ => rfl, fun _ h => by cases h⟩
  · obtain ⟨xs, hlen, h1, h2, h3, h4, h5⟩ := row_came (k := .u8) (w := w) (a := some x) (len := l) (cap := c) (zs := zs) (.inr ⟨x, rfl, hl, hm, by simpa using hz, hcell, hwz⟩)
    exact ⟨some x, c, xs, by rw [hcs, hlen], h3, h1, h2, h5, fun n hn => bounds_u8 (h4 n hn)⟩
set_option maxRecDepth 100000 in
/-- A list of slices of bytes that came in. -/
theorem pieces_came {r0 : Reach} {b0 : Nat} {v : Value} {d : DataW H} {p : List MemPlace} (hv : Value.okWide Tryd.prog w r0 b0 45 v) (h : DataW.Trod enc Tryd.prog w base (fun _ => true) held 45 v d p) :
    ∃ (A : Option Addr) (cap : Nat) (ps : List (List Int)), v = .slice A ps.length cap ∧ PiecesLie w A ps ∧ ps.length ≤ cap ∧ cap ≤ maxLen ∧ ∀ q ∈ ps, IsBytes q := by
  obtain ⟨a, len, cap, rfl⟩ := okWide_slice Tryd.underlying45 hv
  obtain ⟨fuel, hf⟩ := h
  have hc1 : Tryd.prog.cellsOf 31 = 1 := by kernel_rfl
  rcases Go.Deep.open_slice Tryd.underlying45 hf with ⟨hcs, _⟩ | ⟨x, l, c, m, n, D, Pl, hcs, _, hl, hm, hmm, _, hi⟩
  · simp [Value.cells] at hcs
    obtain ⟨rfl, rfl, rfl⟩ := hcs
    exact ⟨none, 0, [], rfl, fun h => absurd rfl h, by simp, by simp [maxLen], fun _ h => by cases h⟩
  · simp [Value.cells] at hcs
    obtain ⟨rfl, rfl, rfl⟩ := hcs
    have hml : len ≤ m := by rw [hmm]; split <;> omega
    have each : ∀ i, i < len → ∃ xs : List Int, (∃ Ai ci, w.cell? (x.add i) = some (.slice Ai xs.length ci) ∧ Lies .u8 w w.heap.size Ai xs ∧ xs.length ≤ ci ∧ ci ≤ maxLen ∧ (Ai = none → ci = 0)) ∧ IsBytes xs := by
      intro i hil
      obtain ⟨cs', hcell, ht⟩ := hi i (by omega)
      rw [hc1] at hcell
      obtain ⟨Ai, ci, xs, rfl, h1, h2, h3, h4, h5⟩ := bytes_cell ht
      obtain ⟨_, _, hat⟩ := World.cells?_some hcell
      have := hat 0 (by omega)
      rw [Go.Deep.add_add] at this
      refine ⟨xs, ⟨Ai, ci, ?_, h1, h2, h3, h4⟩, h5⟩
      simpa using this
    obtain ⟨ps, rfl, hq⟩ := list_at len _ each
    refine ⟨some x, cap, ps, rfl, fun hn => ?_, hl, hm, fun q hq' => ?_⟩
    · have hp : 0 < ps.length := List.length_pos_iff.2 hn
      obtain ⟨b, off, spot⟩ := x
      obtain ⟨⟨A0, c0, h0, _⟩, _⟩ := hq 0 hp
      have hs : spot = none := by simpa [Addr.add] using World.cell?_spot h0
      subst hs
      refine ⟨b, off, rfl, ?_, fun i hi => ?_⟩
      · rw [add_lit] at h0
        exact cell_block_lt h0
      · obtain ⟨Ai, ci, h1, h2⟩ := (hq i hi).1
        rw [add_lit] at h1
        exact ⟨Ai, ci, h1, h2⟩
    · obtain ⟨i, hi, rfl⟩ := List.getElem_of_mem hq'
      exact (hq i hi).2
end
end Go.Proofs.YtkohjkjjkkkpoaaDoor
