/- The rows that chapter 12's statements make: plain mathematics. No program is spoken of here. -/
import Derived.Test.YtmghlfhdjdlkbaaDoorPlaceNum
namespace Go.Proofs.YtmghlfhdjdlkbaaDoor

def digG : ByteArray := ⟨#[48, 49, 50, 51, 52, 53, 54, 55, 56, 57, 97, 98, 99, 100, 101, 102, 103, 104, 105, 106]⟩
def letG : ByteArray := ⟨#[107, 108, 109, 110, 111, 112, 113]⟩
/-- The i-th name. -/
def nmG (i : Nat) : ByteArray := (⟨#[103]⟩ ++ digG.extract (i % 20) (i % 20 + 1)) ++ letG.extract (i / 20) (i / 20 + 1)
set_option maxRecDepth 100000 in
theorem nm_parts : ∀ i, i < 120 → (digG.extract (i % 20) (i % 20 + 1)).size ≤ 100 ∧ (letG.extract (i / 20) (i / 20 + 1)).size ≤ 100 ∧ ((⟨#[103]⟩ : ByteArray) ++ digG.extract (i % 20) (i % 20 + 1)).size ≤ 200 ∧ (nmG i).size ≤ 300 := by decide +kernel
set_option maxRecDepth 100000 in
theorem nm_valid : ∀ i, i < 120 → validS (nmG i) = true := by decide +kernel
set_option maxRecDepth 100000 in
theorem nm_bytes : ∀ i, i < 120 → ∀ j, j < i → ((nmG j).data.toList == (nmG i).data.toList) = false := by decide +kernel
theorem nm_ne {i j : Nat} (hi : i < 120) (hj : j < i) : nmG j ≠ nmG i := fun e => by
  have := nm_bytes i hi j hj
  rw [e] at this
  simp at this
theorem nm_first : nmG 0 = ⟨#[103, 48, 107]⟩ := by decide +kernel
theorem has_putN {x : PlaceM} {n : ByteArray} : ∀ {l : List PlaceM}, hasN (putN x l) n = (decide (x.name = n) || hasN l n)
  | [] => rfl
  | y :: l => by
    unfold putN
    split
    · rw [hasN_cons, has_putN, hasN_cons]
      cases decide (y.name = n) <;> cases decide (x.name = n) <;> rfl
    · split
      · next he => rw [hasN_cons, hasN_cons, he]; cases decide (x.name = n) <;> rfl
      · rfl
def rowsG : Nat → List PlaceM
  | 0 => []
  | i + 1 => (setN (rowsG i) ⟨nmG i, (i : Int)⟩).1
structure UpG (i k : Nat) : Prop where
  sorted : SortedN (rowsG i)
  length : (rowsG i).length = k
  names : ∀ x ∈ rowsG i, ∃ j, j < i ∧ x.name = nmG j
theorem UpG.none {i k : Nat} (h : UpG i k) (hi : i < 120) : hasN (rowsG i) (nmG i) = false := by
  unfold hasN
  rw [List.any_eq_false]
  intro x hx
  obtain ⟨j, hj, e⟩ := h.names x hx
  rw [decide_eq_true_eq, e]
  exact nm_ne hi hj
theorem rowsG_step {i k : Nat} (h : UpG i k) (hi : i < 120) (hk : k < 100) : setN (rowsG i) ⟨nmG i, (i : Int)⟩ = (putN ⟨nmG i, (i : Int)⟩ (rowsG i), 0) := by
  unfold setN
  rw [if_neg (by rw [nm_valid i hi]; decide), if_neg fun hh => by have := h.length; omega]
theorem rowsG_stop {i : Nat} (h : UpG i 100) (hi : i < 120) : setN (rowsG i) ⟨nmG i, (i : Int)⟩ = (rowsG i, 7) := by
  unfold setN
  rw [if_neg (by rw [nm_valid i hi]; decide), if_pos ⟨h.none hi, by rw [h.length]; exact Nat.le_refl _⟩]
theorem upG : ∀ i, i ≤ 120 → UpG i (min i 100)
  | 0, _ => ⟨List.Pairwise.nil, rfl, fun _ h => by cases h⟩
  | i + 1, hi => by
    have h := upG i (by omega)
    by_cases h100 : i < 100
    · have hm : min i 100 = i := by omega
      rw [hm] at h
      have e : rowsG (i + 1) = putN ⟨nmG i, (i : Int)⟩ (rowsG i) := congrArg (·.1) (rowsG_step h (by omega) h100)
      refine ⟨by rw [e]; exact putN_sorted h.sorted, ?_, fun x hx => ?_⟩
      · rw [e, putN_length h.sorted, h.none (by omega), h.length]
        simp
        omega
      · rw [e] at hx
        rcases putN_mem hx with rfl | hx
        · exact ⟨i, by omega, rfl⟩
        · obtain ⟨j, hj, e⟩ := h.names x hx
          exact ⟨j, by omega, e⟩
    · have hm : min i 100 = 100 := by omega
      rw [hm] at h
      have e : rowsG (i + 1) = rowsG i := congrArg (·.1) (rowsG_stop h (by omega))
      refine ⟨by rw [e]; exact h.sorted, by rw [e, h.length]; omega, fun x hx => ?_⟩
      rw [e] at hx
      obtain ⟨j, hj, e⟩ := h.names x hx
      exact ⟨j, by omega, e⟩
theorem rowsG_set {i : Nat} (hi : i < 100) : setN (rowsG i) ⟨nmG i, (i : Int)⟩ = (rowsG (i + 1), 0) := by
  have h := upG i (by omega)
  have hm : min i 100 = i := by omega
  rw [hm] at h
  show _ = ((setN (rowsG i) ⟨nmG i, (i : Int)⟩).1, 0)
  rw [rowsG_step h (by omega) hi]
theorem rowsG_full {i : Nat} (hi : 100 ≤ i) (hi2 : i < 120) : setN (rowsG i) ⟨nmG i, (i : Int)⟩ = (rowsG (i + 1), 7) := by
  have h := upG i (by omega)
  have hm : min i 100 = 100 := by omega
  rw [hm] at h
  show _ = ((setN (rowsG i) ⟨nmG i, (i : Int)⟩).1, 7)
  rw [rowsG_stop h hi2]
theorem rowsG_has : ∀ i, i < 120 → hasN (rowsG (i + 1)) (nmG 0) = true
  | 0, _ => by
    have e : rowsG 1 = putN ⟨nmG 0, ((0 : Nat) : Int)⟩ (rowsG 0) := congrArg (·.1) (rowsG_step (upG 0 (by omega)) (by omega) (by omega))
    rw [e, has_putN, decide_eq_true rfl, Bool.true_or]
  | i + 1, hi => by
    have ih := rowsG_has i (by omega)
    have h := upG (i + 1) (by omega)
    by_cases h100 : i + 1 < 100
    · have hm : min (i + 1) 100 = i + 1 := by omega
      rw [hm] at h
      have e : rowsG (i + 1 + 1) = putN ⟨nmG (i + 1), ((i + 1 : Nat) : Int)⟩ (rowsG (i + 1)) := congrArg (·.1) (rowsG_step h hi h100)
      rw [e, has_putN, ih, Bool.or_true]
    · have hm : min (i + 1) 100 = 100 := by omega
      rw [hm] at h
      have e : rowsG (i + 1 + 1) = rowsG (i + 1) := congrArg (·.1) (rowsG_stop h hi)
      rw [e, ih]
theorem rowsG_again {n : Nat} (h1 : 1 ≤ n) (h2 : n ≤ 120) (a : Int) : setN (rowsG n) ⟨⟨#[103, 48, 107]⟩, a⟩ = (putN ⟨⟨#[103, 48, 107]⟩, a⟩ (rowsG n), 0) := by
  obtain ⟨m, rfl⟩ : ∃ m, n = m + 1 := ⟨n - 1, by omega⟩
  have := rowsG_has m (by omega)
  have hv := nm_valid 0 (by omega)
  rw [nm_first] at this hv
  unfold setN
  rw [if_neg (by rw [hv]; decide), if_neg fun hh => by rw [this] at hh; exact absurd hh.1 (by decide)]
theorem rowsG_told (n : Nat) (a : Int) : getN (putN ⟨⟨#[103, 48, 107]⟩, a⟩ (rowsG n)) ⟨#[103, 48, 107]⟩ = (a, true) := get_put (x := ⟨⟨#[103, 48, 107]⟩, a⟩)
end Go.Proofs.YtmghlfhdjdlkbaaDoor
