/- Plain mathematics: where the last record of a key stands, and what a map of those places tells of what stays. No program is spoken of here. -/
import Derived.Test.YtjblhfhfappmoaaCleanNum
namespace Go.Proofs.Ytjblhfhfappmoaa

/-- Where the last one stands of the first m records that count and are of that key; 0 if none is. -/
def lastI (q : Rec → Bool) (l : List Rec) (k : ByteArray) : Nat → Nat
  | 0 => 0
  | m + 1 => match l[m]? with
    | some r => if (q r && decide (r.key = k)) = true then m else lastI q l k m
    | none => lastI q l k m
section
variable {q : Rec → Bool} {l : List Rec} {k : ByteArray}
theorem lastI_next {m : Nat} (h : m < l.length) : lastI q l k (m + 1) = if (q l[m] && decide (l[m].key = k)) = true then m else lastI q l k m := by
  conv => lhs; unfold lastI
  rw [List.getElem?_eq_getElem h]
theorem lastI_le : ∀ m, lastI q l k m ≤ m
  | 0 => Nat.le_refl _
  | m + 1 => by
    unfold lastI
    have := lastI_le m
    split
    · split <;> omega
    · omega
theorem lastI_is {i : Nat} (hi : i < l.length) (hq : q l[i] = true) : ∀ m, i < m → m ≤ l.length → (lastI q l l[i].key m = i ↔ ∀ j (hj : j < l.length), i < j → j < m → ¬ (l[j].key = l[i].key ∧ q l[j] = true))
  | 0, h, _ => absurd h (Nat.not_lt_zero _)
  | m + 1, h, hm => by
    rw [lastI_next (by omega)]
    rcases Nat.lt_or_ge i m with h1 | h1
    · have ih := lastI_is hi hq m h1 (by omega)
      by_cases hc : (q l[m] && decide (l[m].key = l[i].key)) = true
      · rw [if_pos hc]
        constructor
        · intro e; omega
        · intro h2
          simp only [Bool.and_eq_true, decide_eq_true_eq] at hc
          exact absurd ⟨hc.2, hc.1⟩ (h2 m (by omega) h1 (Nat.lt_succ_self _))
      · rw [if_neg hc, ih]
        constructor
        · intro h2 j hj h3 h4 h5
          rcases Nat.lt_or_ge j m with h6 | h6
          · exact h2 j hj h3 h6 h5
          · obtain rfl : j = m := by omega
            exact hc (by simp only [Bool.and_eq_true, decide_eq_true_eq]; exact ⟨h5.2, h5.1⟩)
        · intro h2 j hj h3 h4
          exact h2 j hj h3 (by omega)
    · obtain rfl : i = m := by omega
      rw [if_pos (by simp [hq])]
      exact ⟨fun _ j hj h3 h4 => by omega, fun _ => rfl⟩
theorem drop_any {f : Rec → Bool} {i : Nat} : (l.drop i).any f = true ↔ ∃ j, ∃ hj : j < l.length, i ≤ j ∧ f l[j] = true := by
  rw [List.any_eq_true]
  constructor
  · rintro ⟨x, hx, h⟩
    obtain ⟨j, hj, rfl⟩ := List.getElem_of_mem hx
    rw [List.length_drop] at hj
    rw [List.getElem_drop] at h
    exact ⟨i + j, by omega, by omega, h⟩
  · rintro ⟨j, hj, h1, h2⟩
    refine ⟨l[j], ?_, h2⟩
    have : (l.drop i)[j - i]'(by rw [List.length_drop]; omega) = l[j] := by rw [List.getElem_drop]; congr 1; omega
    rw [← this]
    exact List.getElem_mem _
/-- A record that counts is the last of its key just when no later one counts. -/
theorem last_any {i : Nat} (hi : i < l.length) (hq : q l[i] = true) : decide (lastI q l l[i].key l.length = i) = !((l.drop (i + 1)).any fun x => decide (x.key = l[i].key) && q x) := by
  rw [Bool.eq_iff_iff, decide_eq_true_eq, lastI_is hi hq l.length hi (Nat.le_refl _), Bool.not_eq_true', ← Bool.not_eq_true, drop_any]
  constructor
  · rintro h ⟨j, hj, h1, h2⟩
    simp only [Bool.and_eq_true, decide_eq_true_eq] at h2
    exact h j hj h1 hj h2
  · intro h j hj h1 _ h2
    exact h ⟨j, hj, h1, by simp only [Bool.and_eq_true, decide_eq_true_eq]; exact h2⟩
end
/-- What of cleaning a map of the last places tells. -/
theorem gone_last {point now grace : Int} {dead : Bool} {l : List Rec} {i : Nat} (hi : i < l.length) (ho : l[i].off < point) :
    goneP point now grace dead l[i] (l.drop (i + 1)) = (!decide (lastI (fun r => decide (r.off < point)) l l[i].key l.length = i) || (l[i].dead && dead && decide (grace < now - l[i].time))) := by
  unfold goneP
  rw [last_any hi (decide_eq_true ho), decide_eq_true ho, Bool.true_and, Bool.not_not]
  rfl

/-- The last record of each key that is not dead then, in their order. -/
def pickL : List Rec → List Rec
  | [] => []
  | r :: l => if (l.any (fun x => decide (x.key = r.key)) || r.dead) = true then pickL l else r :: pickL l
theorem pick_drop {l : List Rec} {i : Nat} (h : i < l.length) : pickL (l.drop i) = if ((l.drop (i + 1)).any (fun x => decide (x.key = l[i].key)) || l[i].dead) = true then pickL (l.drop (i + 1)) else l[i] :: pickL (l.drop (i + 1)) := by
  rw [List.drop_eq_getElem_cons h]
  rfl
theorem pick_last {l : List Rec} {i : Nat} (hi : i < l.length) : ((l.drop (i + 1)).any (fun x => decide (x.key = l[i].key)) || l[i].dead) = !(decide (lastI (fun _ => true) l l[i].key l.length = i) && !l[i].dead) := by
  rw [last_any hi rfl]
  simp only [Bool.and_true, Bool.not_and, Bool.not_not]
theorem pick_sub : ∀ l : List Rec, ∀ x ∈ pickL l, x ∈ l
  | [], _, h => by simp [pickL] at h
  | r :: l, x, h => by
    unfold pickL at h
    split at h
    · exact List.mem_cons_of_mem _ (pick_sub l x h)
    · rcases List.mem_cons.mp h with rfl | h
      · exact List.mem_cons_self
      · exact List.mem_cons_of_mem _ (pick_sub l x h)
theorem pick_length : ∀ l : List Rec, (pickL l).length ≤ l.length
  | [] => Nat.le_refl _
  | r :: l => by
    unfold pickL
    split
    · exact Nat.le_succ_of_le (pick_length l)
    · exact Nat.succ_le_succ (pick_length l)
theorem pick_apart : ∀ l : List Rec, (pickL l).Pairwise fun a b => a.key ≠ b.key
  | [] => List.Pairwise.nil
  | r :: l => by
    unfold pickL
    split
    · exact pick_apart l
    · next h =>
      refine List.pairwise_cons.mpr ⟨fun x hx e => h ?_, pick_apart l⟩
      rw [Bool.or_eq_true]
      exact Or.inl (List.any_eq_true.mpr ⟨x, pick_sub l x hx, decide_eq_true e.symm⟩)
theorem last_any_none {k : ByteArray} {l : List Rec} (h : ∀ x ∈ l, x.key ≠ k) : lastK k l = none := by
  cases e : lastK k l with
  | none => rfl
  | some x => exact absurd (last_key e).1 (h x (last_key e).2)
theorem pick_mem : ∀ l : List Rec, ∀ x, x ∈ pickL l ↔ lastK x.key l = some x ∧ x.dead = false
  | [], x => by simp [pickL, lastK]
  | r :: l, x => by
    have ih := pick_mem l x
    have e : lastK x.key (r :: l) = match lastK x.key l with | some y => some y | none => if r.key = x.key then some r else none := rfl
    rw [e]
    unfold pickL
    split
    · next h =>
      rw [ih]
      cases hk : lastK x.key l with
      | some y => exact Iff.rfl
      | none =>
        constructor
        · rintro ⟨h1, _⟩; cases h1
        · rintro ⟨h1, h2⟩
          by_cases hr : r.key = x.key
          · rw [if_pos hr] at h1
            cases h1
            rw [h2, Bool.or_false] at h
            obtain ⟨y, hy, hy2⟩ := List.any_eq_true.mp h
            exact absurd (of_decide_eq_true hy2) (last_none hk y hy)
          · rw [if_neg hr] at h1
            cases h1
    · next h =>
      rw [Bool.or_eq_true, not_or] at h
      have hl : ∀ y ∈ l, y.key ≠ r.key := fun y hy e => h.1 (List.any_eq_true.mpr ⟨y, hy, decide_eq_true e⟩)
      rw [List.mem_cons, ih]
      by_cases hr : r.key = x.key
      · have hk : lastK x.key l = none := last_any_none (by rw [← hr]; exact hl)
        rw [hk, if_pos hr]
        constructor
        · rintro (rfl | ⟨h1, _⟩)
          · exact ⟨rfl, by simpa using h.2⟩
          · cases h1
        · rintro ⟨h1, _⟩
          cases h1
          exact Or.inl rfl
      · rw [if_neg hr]
        constructor
        · rintro (rfl | ⟨h1, h2⟩)
          · exact absurd rfl hr
          · rw [h1]; exact ⟨rfl, h2⟩
        · rintro ⟨h1, h2⟩
          refine Or.inr ⟨?_, h2⟩
          cases hk : lastK x.key l with
          | some y => rw [hk] at h1; exact h1
          | none => rw [hk] at h1; cases h1
/-- Sorted by their keys they are what the records fold to. -/
theorem pick_sorted {l d : List Rec} (hp : d.Perm (pickL l)) (hs : d.Pairwise fun a b => ltS b.key a.key = false) : d = mapL l := by
  have ha : d.Pairwise fun a b => a.key ≠ b.key := (hp.pairwise_iff (fun {_ _} h => Ne.symm h)).2 (pick_apart l)
  refine sorted_same ?_ (map_tells l).1 fun x => ?_
  · refine (List.pairwise_and_iff.2 ⟨hs, ha⟩).imp ?_
    rintro a b ⟨h1, h2⟩
    rcases ltS_tri a.key b.key with h | h | h
    · exact h
    · exact absurd h h2
    · rw [h] at h1; cases h1
  · rw [hp.mem_iff, pick_mem, (map_tells l).2]
end Go.Proofs.Ytjblhfhfappmoaa
