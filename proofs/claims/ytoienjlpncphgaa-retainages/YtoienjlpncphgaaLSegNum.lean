/- Segments of a log as plain things, and how many of the first ones go (chapter 14). No statement of the program is proved here. -/
import Derived.Test.YtoienjlpncphgaaNums
namespace Go.Proofs.Ytoienjlpncphgaa

structure LSeg where
  base : Int
  next : Int
  time : Int
  gen : Int
  recs : List Rec
  shut : Bool
  clean : Bool
  remote : Bool
  size : Int
  sum : Int
def LSeg.wf (s : LSeg) : Prop := (-9223372036854775808 ≤ s.base ∧ s.base ≤ 9223372036854775807) ∧ (-9223372036854775808 ≤ s.next ∧ s.next ≤ 9223372036854775807) ∧ (-9223372036854775808 ≤ s.time ∧ s.time ≤ 9223372036854775807) ∧ (-9223372036854775808 ≤ s.gen ∧ s.gen ≤ 9223372036854775807) ∧ (-9223372036854775808 ≤ s.size ∧ s.size ≤ 9223372036854775807) ∧ (0 ≤ s.sum ∧ s.sum ≤ 4294967295)

/-- A size, of which nothing below 0 counts. -/
def plus (n : Int) : Int := if n < 0 then 0 else n
theorem plus_nonneg (n : Int) : 0 ≤ plus n := by unfold plus; split <;> omega
theorem plus_ge (n : Int) : n ≤ plus n := by unfold plus; split <;> omega
def sizesL : List LSeg → Int
  | [] => 0
  | s :: l => plus s.size + sizesL l
theorem sizesL_nonneg : ∀ l, 0 ≤ sizesL l
  | [] => Int.le_refl _
  | s :: l => by have := sizesL_nonneg l; have := plus_nonneg s.size; show 0 ≤ plus s.size + sizesL l; omega
theorem sizesL_drop {l : List LSeg} {i : Nat} (h : i < l.length) : sizesL (l.drop i) = plus l[i].size + sizesL (l.drop (i + 1)) := by
  rw [List.drop_eq_getElem_cons h]
  rfl
theorem sizesL_anti (l : List LSeg) {i j : Nat} (h : i ≤ j) : sizesL (l.drop j) ≤ sizesL (l.drop i) := by
  induction j with
  | zero => obtain rfl : i = 0 := by omega
            exact Int.le_refl _
  | succ j ih =>
    rcases Nat.lt_or_ge i (j + 1) with h1 | h1
    · have h2 := ih (by omega)
      rcases Nat.lt_or_ge j l.length with h3 | h3
      · have := sizesL_drop h3
        have := plus_nonneg l[j].size
        omega
      · rw [List.drop_eq_nil_of_le (by omega : l.length ≤ j + 1)]
        rw [List.drop_eq_nil_of_le h3] at h2
        exact h2
    · obtain rfl : i = j + 1 := by omega
      exact Int.le_refl _
/-- Is it too old? -/
def oldB (age now time : Int) : Bool := decide (0 < age) && decide (age < now - time)
/-- Are they too much together? -/
def muchB (keep : Int) (l : List LSeg) : Bool := decide (0 < keep) && decide (keep < sizesL l)
/-- Does the first of these go? -/
def goesB (keep age now : Int) (s : LSeg) (l : List LSeg) : Bool := s.shut && (oldB age now s.time || muchB keep l)
/-- How many of the first ones go. -/
def dropL (keep age now : Int) : List LSeg → Nat
  | [] => 0
  | s :: l => if goesB keep age now s (s :: l) = true then dropL keep age now l + 1 else 0
theorem dropL_le (keep age now : Int) : ∀ l, dropL keep age now l ≤ l.length
  | [] => Nat.le_refl _
  | s :: l => by
    have := dropL_le keep age now l
    unfold dropL
    split <;> simp <;> omega
theorem dropL_yes {keep age now : Int} {l : List LSeg} {i : Nat} (h : i < l.length) (hg : goesB keep age now l[i] (l.drop i) = true) : dropL keep age now (l.drop i) = dropL keep age now (l.drop (i + 1)) + 1 := by
  rw [List.drop_eq_getElem_cons h] at hg ⊢
  show (if goesB keep age now l[i] (l[i] :: l.drop (i + 1)) = true then _ else _) = _
  rw [if_pos hg]
theorem dropL_no {keep age now : Int} {l : List LSeg} {i : Nat} (h : i < l.length) (hg : goesB keep age now l[i] (l.drop i) = false) : dropL keep age now (l.drop i) = 0 := by
  rw [List.drop_eq_getElem_cons h] at hg ⊢
  show (if goesB keep age now l[i] (l[i] :: l.drop (i + 1)) = true then _ else _) = _
  rw [if_neg (by rw [hg]; simp)]
/-- What goes, and what stays. -/
theorem dropL_goes {keep age now : Int} : ∀ {l : List LSeg} {i : Nat} (_ : i < dropL keep age now l) (h : i < l.length), goesB keep age now l[i] (l.drop i) = true
  | [], i, h1, h => by simp at h
  | s :: l, i, h1, h => by
    unfold dropL at h1
    split at h1
    · next hg =>
      cases i with
      | zero => exact hg
      | succ i => exact dropL_goes (l := l) (by omega) (by simpa using h)
    · omega
theorem dropL_stays {keep age now : Int} : ∀ {l : List LSeg} (h : dropL keep age now l < l.length), goesB keep age now (l[dropL keep age now l]'h) (l.drop (dropL keep age now l)) = false
  | [], h => by simp at h
  | s :: l, h => by
    by_cases hg : goesB keep age now s (s :: l) = true
    · have e : dropL keep age now (s :: l) = dropL keep age now l + 1 := by show (if _ then _ else _) = _; rw [if_pos hg]
      have h2 : dropL keep age now l < l.length := by rw [e] at h; simpa using h
      have := dropL_stays h2
      simp only [e, List.getElem_cons_succ, List.drop_succ_cons]
      exact this
    · have e : dropL keep age now (s :: l) = 0 := by show (if _ then _ else _) = _; rw [if_neg hg]
      simp only [e, List.getElem_cons_zero, List.drop_zero]
      simpa using hg
theorem dropL_is {keep age now : Int} {l : List LSeg} {n : Nat} (hn : n ≤ l.length) (h1 : ∀ i (h : i < l.length), i < n → goesB keep age now l[i] (l.drop i) = true) (h2 : ∀ h : n < l.length, goesB keep age now l[n] (l.drop n) = false) : dropL keep age now l = n := by
  rcases Nat.lt_trichotomy (dropL keep age now l) n with h | h | h
  · have := dropL_stays (keep := keep) (age := age) (now := now) (l := l) (by omega)
    rw [h1 _ (by omega) h] at this
    cases this
  · exact h
  · have hle := dropL_le keep age now l
    have := dropL_goes h (by omega)
    rw [h2 (by omega)] at this
    cases this
end Go.Proofs.Ytoienjlpncphgaa
