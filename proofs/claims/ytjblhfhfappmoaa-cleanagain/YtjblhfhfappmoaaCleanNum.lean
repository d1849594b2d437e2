/- Plain mathematics of what of a log is wanted no more. No program is spoken of here. -/
import Derived.Test.YtjblhfhfappmoaaNameLt
namespace Go.Proofs.Ytjblhfhfappmoaa

/-- Does a record of that key lie below the point? -/
def overP (point : Int) (k : ByteArray) (l : List Rec) : Bool := l.any (fun x => decide (x.key = k) && decide (x.off < point))
/-- Is it gone, with those behind it? -/
def goneP (point now grace : Int) (dead : Bool) (r : Rec) (l : List Rec) : Bool :=
  decide (r.off < point) && (overP point r.key l || (r.dead && dead && decide (grace < now - r.time)))
def keepL (point now grace : Int) (dead : Bool) : List Rec → List Rec
  | [] => []
  | r :: l => if goneP point now grace dead r l = true then keepL point now grace dead l else r :: keepL point now grace dead l
section
variable {point now grace : Int} {dead : Bool}
theorem over_iff {k : ByteArray} {l : List Rec} : overP point k l = true ↔ ∃ x ∈ l, x.key = k ∧ x.off < point := by
  simp [overP, List.any_eq_true]
theorem keep_sub : ∀ l : List Rec, ∀ x ∈ keepL point now grace dead l, x ∈ l
  | [], _, h => by simp [keepL] at h
  | r :: l, x, h => by
    unfold keepL at h
    split at h
    · exact List.mem_cons_of_mem _ (keep_sub l x h)
    · rcases List.mem_cons.mp h with rfl | h
      · exact List.mem_cons_self
      · exact List.mem_cons_of_mem _ (keep_sub l x h)
theorem keep_length : ∀ l : List Rec, (keepL point now grace dead l).length ≤ l.length
  | [] => Nat.le_refl _
  | r :: l => by
    unfold keepL
    split
    · exact Nat.le_succ_of_le (keep_length l)
    · exact Nat.succ_le_succ (keep_length l)
/-- What was cleaned once stays. -/
theorem keep_again : ∀ l : List Rec, keepL point now grace dead (keepL point now grace dead l) = keepL point now grace dead l
  | [] => rfl
  | r :: l => by
    by_cases h : goneP point now grace dead r l = true
    · simp only [keepL, if_pos h]
      exact keep_again l
    · have h2 : ¬ goneP point now grace dead r (keepL point now grace dead l) = true := fun h2 => h (by
        simp only [goneP, Bool.and_eq_true, Bool.or_eq_true, over_iff] at h2 ⊢
        obtain ⟨h3, ⟨x, hx, h4⟩ | h4⟩ := h2
        · exact ⟨h3, Or.inl ⟨x, keep_sub l x hx, h4⟩⟩
        · exact ⟨h3, Or.inr h4⟩)
      simp only [keepL, if_neg h, if_neg h2, keep_again l]
/-- What is kept of the rest, from the i-th on. -/
theorem keep_drop {l : List Rec} {i : Nat} (h : i < l.length) : keepL point now grace dead (l.drop i) = if goneP point now grace dead l[i] (l.drop (i + 1)) = true then keepL point now grace dead (l.drop (i + 1)) else l[i] :: keepL point now grace dead (l.drop (i + 1)) := by
  rw [List.drop_eq_getElem_cons h]
  rfl
end

/-- One record more, into rows by rising keys. -/
def mapStep (r : Rec) : List Rec → List Rec
  | [] => if r.dead = true then [] else [r]
  | y :: l => if ltS y.key r.key = true then y :: mapStep r l else (if r.dead = true then [] else [r]) ++ (if y.key = r.key then l else y :: l)
def mapL (l : List Rec) : List Rec := l.foldl (fun out r => mapStep r out) []
def SortedK (l : List Rec) : Prop := l.Pairwise (fun a b => ltS a.key b.key = true)
/-- The last record of a key. -/
def lastK (k : ByteArray) : List Rec → Option Rec
  | [] => none
  | r :: l => match lastK k l with | some x => some x | none => if r.key = k then some r else none
theorem step_mem {r x : Rec} : ∀ {l : List Rec}, SortedK l → (x ∈ mapStep r l ↔ (x = r ∧ r.dead = false) ∨ (x ∈ l ∧ x.key ≠ r.key))
  | [], _ => by
    unfold mapStep
    cases r.dead <;> simp
  | y :: l, hs => by
    obtain ⟨h1, h2⟩ := List.pairwise_cons.mp hs
    unfold mapStep
    split
    · next h =>
      have hne := ltS_ne h
      rw [List.mem_cons, step_mem h2, List.mem_cons]
      constructor
      · rintro (rfl | h | h)
        · exact Or.inr ⟨Or.inl rfl, hne⟩
        · exact Or.inl h
        · exact Or.inr ⟨Or.inr h.1, h.2⟩
      · rintro (h | ⟨rfl | h, h3⟩)
        · exact Or.inr (Or.inl h)
        · exact Or.inl rfl
        · exact Or.inr (Or.inr ⟨h, h3⟩)
    · next h =>
      have hl : ∀ z ∈ l, z.key ≠ r.key := fun z hz e => by
        have := h1 z hz
        rw [e] at this
        exact h this
      rw [List.mem_append]
      have e1 : x ∈ (if r.dead = true then [] else [r]) ↔ (x = r ∧ r.dead = false) := by cases r.dead <;> simp
      rw [e1]
      by_cases hy : y.key = r.key
      · rw [if_pos hy, List.mem_cons]
        constructor
        · rintro (h3 | h3)
          · exact Or.inl h3
          · exact Or.inr ⟨Or.inr h3, hl x h3⟩
        · rintro (h3 | ⟨rfl | h3, h4⟩)
          · exact Or.inl h3
          · exact absurd hy h4
          · exact Or.inr h3
      · rw [if_neg hy]
        constructor
        · rintro (h3 | h3)
          · exact Or.inl h3
          · refine Or.inr ⟨h3, ?_⟩
            rcases List.mem_cons.mp h3 with rfl | h3
            · exact hy
            · exact hl x h3
        · rintro (h3 | ⟨h3, _⟩)
          · exact Or.inl h3
          · exact Or.inr h3
theorem step_sorted {r : Rec} : ∀ {l : List Rec}, SortedK l → SortedK (mapStep r l)
  | [], _ => by
    unfold mapStep
    split
    · exact List.Pairwise.nil
    · exact List.pairwise_singleton _ _
  | y :: l, hs => by
    obtain ⟨h1, h2⟩ := List.pairwise_cons.mp hs
    unfold mapStep
    split
    · next h =>
      refine List.pairwise_cons.mpr ⟨fun z hz => ?_, step_sorted h2⟩
      rcases (step_mem h2).mp hz with ⟨rfl, _⟩ | ⟨hz, _⟩
      · exact h
      · exact h1 z hz
    · next h =>
      have hgt : y.key ≠ r.key → ltS r.key y.key = true := fun hne => by
        rcases ltS_tri y.key r.key with h3 | h3 | h3
        · exact absurd h3 h
        · exact absurd h3 hne
        · exact h3
      have hrest : SortedK (if y.key = r.key then l else y :: l) := by split; exact h2; exact hs
      have hall : ∀ z ∈ (if y.key = r.key then l else y :: l), ltS r.key z.key = true := by
        intro z hz
        split at hz
        · next he => have := h1 z hz; rwa [he] at this
        · next he =>
          rcases List.mem_cons.mp hz with rfl | hz
          · exact hgt he
          · exact ltS_trans (hgt he) (h1 z hz)
      split
      · exact hrest
      · exact List.pairwise_cons.mpr ⟨hall, hrest⟩
theorem last_snoc {k : ByteArray} {r : Rec} : ∀ {l : List Rec}, lastK k (l ++ [r]) = if r.key = k then some r else lastK k l
  | [] => by simp [lastK]
  | y :: l => by
    rw [List.cons_append]
    by_cases h : r.key = k
    · rw [if_pos h]
      unfold lastK
      rw [last_snoc, if_pos h]
    · rw [if_neg h]
      unfold lastK
      rw [last_snoc, if_neg h]
theorem last_key {k : ByteArray} {x : Rec} : ∀ {l : List Rec}, lastK k l = some x → x.key = k ∧ x ∈ l
  | [], h => by cases h
  | y :: l, h => by
    unfold lastK at h
    split at h
    · next z hz =>
      cases h
      exact ⟨(last_key hz).1, List.mem_cons_of_mem _ (last_key hz).2⟩
    · split at h
      · next he => cases h; exact ⟨he, List.mem_cons_self⟩
      · cases h
theorem last_none {k : ByteArray} : ∀ {l : List Rec}, lastK k l = none → ∀ x ∈ l, x.key ≠ k
  | [], _, _, hx => by cases hx
  | y :: l, h, x, hx => by
    unfold lastK at h
    split at h
    · cases h
    · next hz =>
      split at h
      · cases h
      · next he =>
        rcases List.mem_cons.mp hx with rfl | hx
        · exact he
        · exact last_none hz x hx
/-- What records fold to, told whole. -/
theorem map_tells (l : List Rec) : SortedK (mapL l) ∧ ∀ x, x ∈ mapL l ↔ lastK x.key l = some x ∧ x.dead = false := by
  have : ∀ n (l : List Rec), l.length = n → SortedK (mapL l) ∧ ∀ x, x ∈ mapL l ↔ lastK x.key l = some x ∧ x.dead = false := by
    intro n
    induction n with
    | zero => intro l hl; cases l with | nil => exact ⟨List.Pairwise.nil, fun x => by simp [mapL, lastK]⟩ | cons _ _ => cases hl
    | succ n ih =>
      intro l hl
      obtain ⟨l', r, rfl⟩ : ∃ l' r, l = l' ++ [r] := ⟨l.dropLast, l.getLast (by intro e; subst e; cases hl), (List.dropLast_concat_getLast _).symm⟩
      obtain ⟨h1, h2⟩ := ih l' (by simpa using hl)
      have e : mapL (l' ++ [r]) = mapStep r (mapL l') := by unfold mapL; rw [List.foldl_append]; rfl
      rw [e]
      refine ⟨step_sorted h1, fun x => ?_⟩
      rw [step_mem h1, h2, last_snoc]
      constructor
      · rintro (⟨rfl, h⟩ | ⟨⟨h3, h4⟩, h5⟩)
        · exact ⟨if_pos rfl, h⟩
        · exact ⟨by rw [if_neg fun e => h5 e.symm]; exact h3, h4⟩
      · rintro ⟨h3, h4⟩
        by_cases hk : r.key = x.key
        · rw [if_pos hk] at h3
          cases h3
          exact Or.inl ⟨rfl, h4⟩
        · rw [if_neg hk] at h3
          exact Or.inr ⟨⟨h3, h4⟩, fun e => hk e.symm⟩
  exact this l.length l rfl
/-- Rows by rising keys that hold the same records are the same. -/
theorem sorted_same : ∀ {a b : List Rec}, SortedK a → SortedK b → (∀ x, x ∈ a ↔ x ∈ b) → a = b
  | [], [], _, _, _ => rfl
  | [], y :: b, _, _, h => absurd ((h y).mpr List.mem_cons_self) List.not_mem_nil
  | x :: a, [], _, _, h => absurd ((h x).mp List.mem_cons_self) List.not_mem_nil
  | x :: a, y :: b, ha, hb, h => by
    obtain ⟨ha1, ha2⟩ := List.pairwise_cons.mp ha
    obtain ⟨hb1, hb2⟩ := List.pairwise_cons.mp hb
    have hxy : x = y := by
      rcases List.mem_cons.mp ((h x).mp List.mem_cons_self) with h1 | h1
      · exact h1
      · rcases List.mem_cons.mp ((h y).mpr List.mem_cons_self) with h2 | h2
        · exact h2.symm
        · have := ltS_asymm (ha1 y h2)
          rw [hb1 x h1] at this
          cases this
    subst hxy
    refine congrArg (x :: ·) (sorted_same ha2 hb2 fun z => ⟨fun hz => ?_, fun hz => ?_⟩)
    · rcases List.mem_cons.mp ((h z).mp (List.mem_cons_of_mem _ hz)) with rfl | h3
      · have := ha1 z hz; rw [ltS_self] at this; cases this
      · exact h3
    · rcases List.mem_cons.mp ((h z).mpr (List.mem_cons_of_mem _ hz)) with rfl | h3
      · have := hb1 z hz; rw [ltS_self] at this; cases this
      · exact h3
def RiseO (l : List Rec) : Prop := l.Pairwise (fun a b => a.off < b.off)
section
variable {point now grace : Int} {dead : Bool}
/-- Of rising offsets: what a key's last record is when the rest was cleaned. -/
theorem last_keep {k : ByteArray} : ∀ {l : List Rec}, RiseO l →
    (lastK k (keepL point now grace dead l) = lastK k l) ∨ (lastK k (keepL point now grace dead l) = none ∧ ∃ x, lastK k l = some x ∧ x.dead = true ∧ x.off < point)
  | [], _ => Or.inl rfl
  | r :: l, hs => by
    obtain ⟨h1, h2⟩ := List.pairwise_cons.mp hs
    have ih := last_keep (k := k) h2
    by_cases hg : goneP point now grace dead r l = true
    · simp only [keepL, if_pos hg]
      rcases ih with ih | ⟨ih, x, hx, hd⟩
      · rw [ih]
        rcases hq : lastK k l with _ | x
        · by_cases hk : r.key = k
          · refine Or.inr ⟨rfl, r, by unfold lastK; rw [hq]; exact if_pos hk, ?_⟩
            simp only [goneP, Bool.and_eq_true, Bool.or_eq_true, over_iff, decide_eq_true_eq] at hg
            obtain ⟨h3, ⟨x, hx, h4, _⟩ | h4⟩ := hg
            · exact absurd (h4.trans hk) (last_none hq x hx)
            · exact ⟨h4.1.1, h3⟩
          · refine Or.inl ?_
            unfold lastK
            rw [hq]
            exact (if_neg hk).symm
        · refine Or.inl ?_
          conv => rhs; unfold lastK
          rw [hq]
      · refine Or.inr ⟨ih, x, ?_, hd⟩
        conv => lhs; unfold lastK
        rw [hx]
    · simp only [keepL, if_neg hg]
      rcases ih with ih | ⟨ih, x, hx, hd, ho⟩
      · refine Or.inl ?_
        conv => lhs; unfold lastK
        conv => rhs; unfold lastK
        rw [ih]
      · have hx2 := last_key hx
        by_cases hk : r.key = k
        · refine absurd ?_ hg
          simp only [goneP, Bool.and_eq_true, Bool.or_eq_true, over_iff, decide_eq_true_eq]
          have := h1 x hx2.2
          exact ⟨by omega, Or.inl ⟨x, hx2.2, hx2.1.trans hk.symm, ho⟩⟩
        · refine Or.inr ⟨?_, x, ?_, hd, ho⟩
          · conv => lhs; unfold lastK
            rw [ih]
            exact if_neg hk
          · conv => lhs; unfold lastK
            rw [hx]
/-- What stays folds to the same. -/
theorem map_keep {l : List Rec} (h : RiseO l) : mapL (keepL point now grace dead l) = mapL l := by
  refine sorted_same (map_tells _).1 (map_tells _).1 fun x => ?_
  rw [(map_tells _).2, (map_tells _).2]
  rcases last_keep (point := point) (now := now) (grace := grace) (dead := dead) (k := x.key) h with e | ⟨e, y, h1, h2, _⟩
  · rw [e]
  · rw [e, h1]
    constructor
    · rintro ⟨h3, _⟩; cases h3
    · rintro ⟨h3, h4⟩; cases h3; rw [h2] at h4; cases h4
end
end Go.Proofs.Ytjblhfhfappmoaa
