/- From an argument as a row reads it to the words of my own: a slice of integers that came in. -/
import Derived.Test.YtoienjlpncphgaaBase
import Derived.OpenShut
namespace Go.Proofs.Ytoienjlpncphgaa
open Go.RowKit

theorem cell_block_lt {w : World} {b o : Nat} {u : Value} (h : w.cell? ⟨b, o, none⟩ = some u) : b < w.heap.size := by
  rcases Nat.lt_or_ge b w.heap.size with h1 | h1
  · exact h1
  · simp [World.cell?, Array.getElem?_eq_none h1] at h

/-- A slice of integers that came in: what it holds, where it lies. -/
theorem row_came {k : IntKind} {w : World} {a : Option Addr} {len cap : Nat} {zs : List Int}
    (h : (a = none ∧ len = 0 ∧ cap = 0 ∧ zs = []) ∨ ∃ x, a = some x ∧ len ≤ cap ∧ cap ≤ maxLen ∧ zs.length = cap ∧ (∀ i, i < zs.length → w.cell? (x.add i) = some (.int k (zs.getD i 0))) ∧ ∀ n ∈ zs, (Lit.int k n).wf = true) :
    ∃ xs : List Int, len = xs.length ∧ xs.length ≤ cap ∧ cap ≤ maxLen ∧ Lies k w w.heap.size a xs ∧ (∀ n ∈ xs, (Lit.int k n).wf = true) ∧ (a = none → cap = 0) := by
  rcases h with ⟨rfl, rfl, rfl, rfl⟩ | ⟨x, rfl, hl, hm, hz, hcell, hwf⟩
  · exact ⟨[], rfl, by simp, by simp [maxLen], Lies.nil, by simp, fun _ => rfl⟩
  · refine ⟨zs.take len, by simp; omega, by simp; omega, hm, fun hn => ?_, fun n hn => hwf n (List.mem_of_mem_take hn), by simp⟩
    have hp : 0 < len := by
      rcases Nat.eq_zero_or_pos len with h0 | h0
      · subst h0; simp at hn
      · exact h0
    obtain ⟨b, off, spot⟩ := x
    have h0 := hcell 0 (by omega)
    have hs : spot = none := by simpa [Addr.add] using World.cell?_spot h0
    subst hs
    refine ⟨b, off, rfl, ?_, fun j hj => ?_⟩
    · rw [add_lit] at h0; exact cell_block_lt h0
    · have hj' : j < zs.length := by simp at hj; omega
      have := hcell j hj'
      rw [add_lit] at this
      rw [this]
      simp [hj']
end Go.Proofs.Ytoienjlpncphgaa
