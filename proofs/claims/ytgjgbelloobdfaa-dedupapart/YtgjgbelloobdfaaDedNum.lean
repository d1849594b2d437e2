/- The rows that chapter 11's statements make: plain mathematics. No program is spoken of here. -/
import Derived.Test.YtgjgbelloobdfaaPidAt
namespace Go.Proofs.Ytgjgbelloobdfaa

/-- So many producers, one behind the other. -/
def rowsN (k : Nat) : List PidM := (List.range k).map fun j : Nat => ⟨(j : Int), 0, (j : Int)⟩
theorem rowsN_length (k : Nat) : (rowsN k).length = k := by simp [rowsN]
theorem rowsN_succ (k : Nat) : rowsN (k + 1) = rowsN k ++ [⟨(k : Int), 0, (k : Int)⟩] := by simp [rowsN, List.range_succ]
theorem rowsN_lt {k : Nat} {x : PidM} (h : x ∈ rowsN k) : 0 ≤ x.pid ∧ x.pid < (k : Int) := by
  unfold rowsN at h
  obtain ⟨j, hj, rfl⟩ := List.mem_map.1 h
  have := List.mem_range.1 hj
  dsimp only
  omega
theorem rowsN_ahead {k : Nat} {p : Int} (h : (k : Int) ≤ p) : Ahead (rowsN k) p k := by
  refine ⟨by rw [rowsN_length]; exact Nat.le_refl _, fun x hx => ?_⟩
  have := rowsN_lt (List.mem_of_mem_take hx)
  omega
theorem rowsN_sorted : ∀ k, SortedP (rowsN k)
  | 0 => List.Pairwise.nil
  | k + 1 => by
    rw [rowsN_succ]
    refine List.pairwise_append.2 ⟨rowsN_sorted k, List.pairwise_singleton .., fun x hx y hy => ?_⟩
    rw [List.mem_singleton.1 hy]
    exact (rowsN_lt hx).2
theorem rowsN_none {k : Nat} {p : Int} (h : (k : Int) ≤ p) : hasP (rowsN k) p = false :=
  has_between (rowsN_sorted k) (rowsN_ahead h) fun hk => by rw [rowsN_length] at hk; exact absurd hk (Nat.lt_irrefl _)
theorem rowsN_set {k : Nat} (h : k < 100) : setP (rowsN k) ⟨(k : Int), 0, (k : Int)⟩ = (rowsN (k + 1), 0) := by
  unfold setP
  rw [if_neg fun hh => by rw [rowsN_length] at hh; omega, rowsN_succ, put_between (rowsN_ahead (Int.le_refl _)) fun hk => by rw [rowsN_length] at hk; exact absurd hk (Nat.lt_irrefl _)]
  rw [List.take_of_length_le (by rw [rowsN_length]; exact Nat.le_refl _), List.drop_of_length_le (by rw [rowsN_length]; exact Nat.le_refl _)]
theorem rowsN_full {k : Nat} (h : 100 ≤ k) : setP (rowsN 100) ⟨(k : Int), 0, (k : Int)⟩ = (rowsN 100, 7) :=
  if_pos ⟨rowsN_none (by show ((100 : Nat) : Int) ≤ (k : Int); omega), by rw [rowsN_length]; exact Nat.le_refl _⟩
theorem rowsN_has {k : Nat} (h : 0 < k) : hasP (rowsN k) 0 = true := List.any_eq_true.2 ⟨⟨0, 0, 0⟩, List.mem_map.2 ⟨0, List.mem_range.2 h, rfl⟩, rfl⟩
theorem rowsN_again {k : Nat} (h : 0 < k) : setP (rowsN k) ⟨0, 1, 77⟩ = (putP ⟨0, 1, 77⟩ (rowsN k), 0) := if_neg fun hh => by rw [rowsN_has h] at hh; exact absurd hh.1 (by decide)
theorem rowsN_asked (k : Nat) : askP (putP ⟨0, 1, 77⟩ (rowsN k)) 0 1 = (1, 77) := ask_put_same (x := ⟨0, 1, 77⟩) (s := 1)
/-- One producer's row, after so many numbers one behind the other. -/
def rowT (p : Int) (i : Nat) : List PidM := if i = 0 then [] else [⟨p, (i : Int) - 1, 10 * ((i : Int) - 1)⟩]
theorem rowT_succ (p : Int) (i : Nat) : rowT p (i + 1) = [⟨p, (i : Int), 10 * (i : Int)⟩] := by
  unfold rowT
  rw [if_neg (by omega), show ((i + 1 : Nat) : Int) - 1 = (i : Int) by omega]
theorem rowT_ask (p : Int) (i : Nat) : askP (rowT p i) p (i : Int) = (0, 0) := by
  cases i with
  | zero => rfl
  | succ i =>
    rw [rowT_succ]
    show (if p = p then askRow ⟨p, (i : Int), 10 * (i : Int)⟩ ((i + 1 : Nat) : Int) else _) = _
    rw [if_pos rfl]
    unfold askRow
    rw [if_neg (by dsimp only; omega), if_pos (by dsimp only; omega)]
theorem rowT_set (p : Int) (i : Nat) : setP (rowT p i) ⟨p, (i : Int), 10 * (i : Int)⟩ = (rowT p (i + 1), 0) := by
  rw [rowT_succ]
  cases i with
  | zero => rfl
  | succ i =>
    rw [rowT_succ]
    unfold setP
    rw [if_neg (by simp)]
    simp [putP]
theorem rowT_asked (p : Int) (n : Nat) (s : Int) : askP (rowT p (n + 1)) p s = if s = (n : Int) then (1, 10 * (n : Int)) else if s = (n : Int) + 1 then (0, 0) else (2, 0) := by
  rw [rowT_succ]
  show (if p = p then askRow ⟨p, (n : Int), 10 * (n : Int)⟩ s else _) = _
  rw [if_pos rfl]
  unfold askRow
  dsimp only
  by_cases h1 : s = (n : Int)
  · rw [if_pos h1.symm, if_pos h1]
  · rw [if_neg (fun e => h1 e.symm), if_neg h1]
    by_cases h2 : s = (n : Int) + 1
    · rw [if_pos h2.symm, if_pos h2]
    · rw [if_neg (fun e => h2 e.symm), if_neg h2]
end Go.Proofs.Ytgjgbelloobdfaa
