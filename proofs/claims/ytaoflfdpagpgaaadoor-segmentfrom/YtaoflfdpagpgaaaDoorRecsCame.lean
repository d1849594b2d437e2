/- From an argument as a row reads it to the words of my own: a list of records that came in. -/
import Derived.Test.YtaoflfdpagpgaaaDoorRecCame
import Derived.Test.YtaoflfdpagpgaaaDoorCame
import Derived.ChangeSame
namespace Go.Proofs.YtaoflfdpagpgaaaDoor
open Go.RowKit Go.ChangeShapes Go.WideShapes

/-- The record lies from cell o of block b on. -/
def RecAt (w : World) (b o : Nat) (r : Rec) : Prop :=
  w.cell? ⟨b, o, none⟩ = some (.int .i64 r.off) ∧ w.cell? ⟨b, o + 1, none⟩ = some (.int .i64 r.time) ∧ w.cell? ⟨b, o + 2, none⟩ = some (.string r.key) ∧ w.cell? ⟨b, o + 3, none⟩ = some (.string r.val) ∧ w.cell? ⟨b, o + 4, none⟩ = some (.bool r.dead)
theorem RecAt.keep {w w' : World} {b o : Nat} {r : Rec} (h : RecAt w b o r) (hk : ∀ j, w'.cell? ⟨b, j, none⟩ = w.cell? ⟨b, j, none⟩) : RecAt w' b o r :=
  ⟨(hk _).trans h.1, (hk _).trans h.2.1, (hk _).trans h.2.2.1, (hk _).trans h.2.2.2.1, (hk _).trans h.2.2.2.2⟩
/-- The records rs lie one behind the other from A on. -/
def RecsLie (w : World) (A : Option Addr) (rs : List Rec) (cap : Nat) : Prop :=
  (rs ≠ [] → ∃ b off, A = some ⟨b, off, none⟩ ∧ b < w.heap.size ∧ ∀ i (h : i < rs.length), RecAt w b (off + i * 5) rs[i]) ∧ rs.length ≤ cap ∧ cap ≤ maxLen ∧ ∀ r ∈ rs, r.wf
theorem RecsLie.below {w w' : World} {A : Option Addr} {rs : List Rec} {cap B : Nat} (h : RecsLie w A rs cap) (hb : Below B w w') (hB : w.heap.size ≤ B) : RecsLie w' A rs cap := by
  refine ⟨fun hn => ?_, h.2⟩
  obtain ⟨b, off, he, hlt, hc⟩ := h.1 hn
  have := hb.size
  exact ⟨b, off, he, by omega, fun i hi => (hc i hi).keep fun j => hb.cell (by show b < B; omega)⟩

theorem list_of (n : Nat) (Q : Nat → Rec → Prop) (h : ∀ i, i < n → ∃ r, Q i r) : ∃ rs : List Rec, rs.length = n ∧ ∀ i (hi : i < rs.length), Q i rs[i] := by
  induction n with
  | zero => exact ⟨[], rfl, fun i hi => by simp at hi⟩
  | succ n ih =>
    obtain ⟨rs, hl, hq⟩ := ih fun i hi => h i (by omega)
    obtain ⟨r, hr⟩ := h n (by omega)
    refine ⟨rs ++ [r], by simp [hl], fun i hi => ?_⟩
    by_cases hin : i < rs.length
    · rw [List.getElem_append_left hin]
      exact hq i hin
    · have : i = n := by simp at hi; omega
      subst this
      rw [List.getElem_append_right (by omega)]
      simpa [hl] using hr

section
variable {H : Type} {enc : TypeId × Value → H} {w : World} {base : Nat} {spare : Nat → Bool} {held : Bool}
/-- A list of records that came in. -/
theorem recs_came {r0 : Reach} {b0 : Nat} {v : Value} {d : DataW H} {p : List MemPlace} (hv : Value.okWide Tryd.prog w r0 b0 22 v) (h : DataW.Trod enc Tryd.prog w base spare held 22 v d p) :
    ∃ (A : Option Addr) (cap : Nat) (rs : List Rec), v = .slice A rs.length cap ∧ RecsLie w A rs cap := by
  obtain ⟨a, len, cap, rfl⟩ := okWide_slice Tryd.underlying22 hv
  obtain ⟨fuel, hf⟩ := h
  have hc5 : Tryd.prog.cellsOf 38 = 5 := by kernel_rfl
  rcases Go.Deep.open_slice Tryd.underlying22 hf with ⟨hcs, _⟩ | ⟨x, l, c, m, n, D, Pl, hcs, _, hl, hm, hmm, _, hi⟩
  · simp [Value.cells] at hcs
    obtain ⟨rfl, rfl, rfl⟩ := hcs
    exact ⟨none, 0, [], rfl, fun h => absurd rfl h, by simp, by simp [maxLen], fun _ h => by cases h⟩
  · simp [Value.cells] at hcs
    obtain ⟨rfl, rfl, rfl⟩ := hcs
    have hml : len ≤ m := by rw [hmm]; split <;> omega
    have each : ∀ i, i < len → ∃ r : Rec, (∀ j u, ([.int .i64 r.off, .int .i64 r.time, .string r.key, .string r.val, .bool r.dead] : List Value)[j]? = some u → w.cell? (x.add (i * 5 + j)) = some u) ∧ r.wf := by
      intro i hil
      obtain ⟨cs', hcell, ht⟩ := hi i (by omega)
      rw [hc5] at hcell
      obtain ⟨r, rfl, hw⟩ := rec_cells ht
      obtain ⟨_, _, hat⟩ := World.cells?_some hcell
      refine ⟨r, fun j u hu => ?_, hw⟩
      have hj : j < 5 := by
        rcases Nat.lt_or_ge j 5 with h | h
        · exact h
        · rw [List.getElem?_eq_none (by simpa using h)] at hu; cases hu
      have := hat j hj
      rw [Go.Deep.add_add] at this
      rw [this, hu]
    obtain ⟨rs, rfl, hq⟩ := list_of len _ each
    refine ⟨some x, cap, rs, rfl, fun hn => ?_, hl, hm, fun r hr => ?_⟩
    · have hp : 0 < rs.length := List.length_pos_iff.2 hn
      obtain ⟨b, off, spot⟩ := x
      have h0 := (hq 0 hp).1 0 _ rfl
      have hs : spot = none := by simpa [Addr.add] using World.cell?_spot h0
      subst hs
      refine ⟨b, off, rfl, ?_, fun i hi => ?_⟩
      · rw [add_lit] at h0
        exact cell_block_lt h0
      · have q := (hq i hi).1
        have f : ∀ j u, ([.int .i64 rs[i].off, .int .i64 rs[i].time, .string rs[i].key, .string rs[i].val, .bool rs[i].dead] : List Value)[j]? = some u → w.cell? ⟨b, off + i * 5 + j, none⟩ = some u := fun j u hu => by
          have := q j u hu
          rw [add_lit] at this
          rw [Nat.add_assoc]
          exact this
        exact ⟨f 0 _ rfl, f 1 _ rfl, f 2 _ rfl, f 3 _ rfl, f 4 _ rfl⟩
    · obtain ⟨i, hi, rfl⟩ := List.getElem_of_mem hr
      exact (hq i hi).2
end
end Go.Proofs.YtaoflfdpagpgaaaDoor
