/- What IndexFinds asks, as plain mathematics: records at rising offsets with gaps, and which of a list is the first that is so, one by one. -/
import Derived.Test.YtffmfgbjlijpeaaDoorNums
import Derived.Test.YtffmfgbjlijpeaaDoorSegTorn
namespace Go.Proofs.YtffmfgbjlijpeaaDoor

def gapO (gs : List Int) : Nat → Int
  | 0 => 0
  | i + 1 => gapO gs i + 1 + (gs.getD i 0) % 8
theorem gapO_bound (gs : List Int) (i : Nat) : 0 ≤ gapO gs i ∧ gapO gs i ≤ 8 * i := by
  induction i with
  | zero => exact ⟨Int.le_refl _, Int.le_refl _⟩
  | succ i ih =>
    unfold gapO
    have h1 := Int.emod_nonneg (gs.getD i 0) (show (8 : Int) ≠ 0 by decide)
    have h2 := Int.emod_lt_of_pos (gs.getD i 0) (show (0 : Int) < 8 by decide)
    omega
theorem gapO_step (gs : List Int) (i : Nat) (h : i < gs.length) : gapO gs (i + 1) = gapO gs i + 1 + gs[i] % 8 := by
  conv => lhs; unfold gapO
  rw [List.getD_eq_getElem?_getD, List.getElem?_eq_getElem h]
  rfl
/-- The right ones of records, at rising offsets. -/
def gapG (gs : List Int) (l : List Rec) : Nat → List Rec
  | 0 => []
  | i + 1 => gapG gs l i ++ (if h : i < l.length then (if (numbered l[i] (gapO gs (i + 1))).right then [numbered l[i] (gapO gs (i + 1))] else []) else [])
theorem gapG_snoc (gs : List Int) (l : List Rec) (i : Nat) (h : i < l.length) (hr : (numbered l[i] (gapO gs (i + 1))).right) : gapG gs l (i + 1) = gapG gs l i ++ [numbered l[i] (gapO gs (i + 1))] := by
  conv => lhs; unfold gapG
  rw [dif_pos h, if_pos hr]
theorem gapG_skip (gs : List Int) (l : List Rec) (i : Nat) (h : i < l.length) (hr : ¬ (numbered l[i] (gapO gs (i + 1))).right) : gapG gs l (i + 1) = gapG gs l i := by
  conv => lhs; unfold gapG
  rw [dif_pos h, if_neg hr, List.append_nil]
theorem gapG_facts (gs : List Int) (l : List Rec) (n : Nat) : (∀ r ∈ gapG gs l n, r.right ∧ r.off ≤ gapO gs n) ∧ Rises (gapG gs l n) ∧ (gapG gs l n).length ≤ n := by
  induction n with
  | zero => exact ⟨fun r h => (by simp [gapG] at h), List.Pairwise.nil, Nat.le_refl _⟩
  | succ n ih =>
    obtain ⟨h1, h2, h3⟩ := ih
    have hg : gapO gs n < gapO gs (n + 1) := by
      conv => rhs; unfold gapO
      have := Int.emod_nonneg (gs.getD n 0) (show (8 : Int) ≠ 0 by decide)
      omega
    unfold gapG
    by_cases hn : n < l.length
    · rw [dif_pos hn]
      by_cases hr : (numbered l[n] (gapO gs (n + 1))).right
      · rw [if_pos hr]
        refine ⟨fun r hm => ?_, ?_, by rw [List.length_append, List.length_singleton]; omega⟩
        · rcases List.mem_append.1 hm with hm | hm
          · exact ⟨(h1 r hm).1, by have := (h1 r hm).2; omega⟩
          · rw [List.mem_singleton.1 hm]; exact ⟨hr, Int.le_refl _⟩
        · refine List.pairwise_append.2 ⟨h2, List.pairwise_singleton .., fun a ha b hb => ?_⟩
          rw [List.mem_singleton.1 hb]
          have := (h1 a ha).2
          show a.off < gapO gs (n + 1)
          omega
      · rw [if_neg hr, List.append_nil]
        exact ⟨fun r hm => ⟨(h1 r hm).1, by have := (h1 r hm).2; omega⟩, h2, by omega⟩
    · rw [dif_neg hn, List.append_nil]
      exact ⟨fun r hm => ⟨(h1 r hm).1, by have := (h1 r hm).2; omega⟩, h2, by omega⟩
/-- Is none of the first i so? -/
def yet (p : Rec → Bool) (l : List Rec) (i : Nat) : Bool := ((l.take i).find? p).isNone
theorem yet_zero (p : Rec → Bool) (l : List Rec) : yet p l 0 = true := rfl
theorem yet_end (p : Rec → Bool) (l : List Rec) : (l.find? p).isSome = !yet p l l.length := by
  unfold yet
  rw [List.take_length]
  cases l.find? p <;> rfl
theorem yet_next (p : Rec → Bool) (l : List Rec) (i : Nat) (h : i < l.length) : yet p l (i + 1) = (yet p l i && !p l[i]) := by
  unfold yet
  rw [List.take_succ_eq_append_getElem h, List.find?_append]
  cases (l.take i).find? p with
  | some r => rfl
  | none =>
    by_cases hp : p l[i] = true
    · simp [hp]
    · simp [hp]
theorem yet_hit (p : Rec → Bool) (l : List Rec) (i : Nat) (h : i < l.length) (hy : yet p l i = true) (hp : p l[i] = true) : l.find? p = some l[i] := by
  refine find_here h ?_ hp
  unfold yet at hy
  simpa using hy
end Go.Proofs.YtffmfgbjlijpeaaDoor
