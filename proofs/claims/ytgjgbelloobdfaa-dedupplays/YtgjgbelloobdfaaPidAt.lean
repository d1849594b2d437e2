/- Where a row is put: by the count of those ahead of it. No program is spoken of here. -/
import Derived.Test.YtgjgbelloobdfaaPidNum
namespace Go.Proofs.Ytgjgbelloobdfaa

/-- So many rows at the front have a lesser pid. -/
def Ahead (l : List PidM) (p : Int) (k : Nat) : Prop := k ≤ l.length ∧ ∀ x ∈ l.take k, x.pid < p
theorem Ahead.zero (l : List PidM) (p : Int) : Ahead l p 0 := ⟨Nat.zero_le _, fun _ h => by simp at h⟩
theorem Ahead.next {l : List PidM} {p : Int} {k : Nat} (h : Ahead l p k) (hk : k < l.length) (hp : l[k].pid < p) : Ahead l p (k + 1) := by
  refine ⟨hk, fun x hx => ?_⟩
  rw [List.take_succ_eq_append_getElem hk] at hx
  rcases List.mem_append.1 hx with hx | hx
  · exact h.2 x hx
  · rw [List.mem_singleton.1 hx]; exact hp
theorem Ahead.tail {y : PidM} {l : List PidM} {p : Int} {k : Nat} (h : Ahead (y :: l) p (k + 1)) : y.pid < p ∧ Ahead l p k :=
  ⟨h.2 y (by simp), Nat.le_of_succ_le_succ h.1, fun x hx => h.2 x (by rw [List.take_succ_cons]; exact List.mem_cons_of_mem _ hx)⟩
/-- No row of that pid: between those ahead and those behind. -/
theorem put_between {x : PidM} : ∀ {l : List PidM} {k : Nat}, Ahead l x.pid k → (∀ h : k < l.length, x.pid < l[k].pid) → putP x l = l.take k ++ x :: l.drop k
  | [], 0, _, _ => rfl
  | [], k + 1, h, _ => by have := h.1; simp at this
  | y :: l, 0, _, h2 => by
    have h := h2 (by simp)
    rw [List.getElem_cons_zero] at h
    unfold putP
    rw [if_neg (by omega), if_neg (by omega)]
    rfl
  | y :: l, k + 1, h, h2 => by
    obtain ⟨h3, h4⟩ := h.tail
    unfold putP
    rw [if_pos h3, put_between h4 fun hk => by have := h2 (by simpa using hk); simpa using this]
    rfl
/-- One of that pid: in its place. -/
theorem put_over {x : PidM} : ∀ {l : List PidM} {k : Nat}, Ahead l x.pid k → (hk : k < l.length) → l[k].pid = x.pid → putP x l = l.take k ++ x :: l.drop (k + 1)
  | [], _, _, hk, _ => by simp at hk
  | y :: l, 0, _, _, h2 => by
    rw [List.getElem_cons_zero] at h2
    unfold putP
    rw [if_neg (by omega), if_pos h2]
    rfl
  | y :: l, k + 1, h, hk, h2 => by
    obtain ⟨h3, h4⟩ := h.tail
    unfold putP
    rw [if_pos h3, put_over h4 (by simpa using hk) (by simpa using h2)]
    rfl
theorem has_over {l : List PidM} {p : Int} {k : Nat} (hk : k < l.length) (h : l[k].pid = p) : hasP l p = true :=
  List.any_eq_true.2 ⟨l[k], List.getElem_mem hk, by simpa using h⟩
theorem has_between {p : Int} : ∀ {l : List PidM} {k : Nat}, SortedP l → Ahead l p k → (∀ h : k < l.length, p < l[k].pid) → hasP l p = false
  | [], _, _, _, _ => rfl
  | y :: l, 0, hs, _, h2 => by
    obtain ⟨h3, _⟩ := List.pairwise_cons.1 hs
    have h := h2 (by simp)
    rw [List.getElem_cons_zero] at h
    refine hasP_above fun z hz => ?_
    rcases List.mem_cons.1 hz with rfl | hz
    · exact h
    · have := h3 z hz; omega
  | y :: l, k + 1, hs, h, h2 => by
    obtain ⟨_, hs2⟩ := List.pairwise_cons.1 hs
    obtain ⟨h3, h4⟩ := h.tail
    rw [hasP_cons, has_between hs2 h4 fun hk => by have := h2 (by simpa using hk); simpa using this, Bool.or_false]
    exact beq_eq_false_iff_ne.2 (by omega)
/-- Asked row by row: the first k are others. -/
def Past (l : List PidM) (p : Int) (k : Nat) : Prop := k ≤ l.length ∧ ∀ s, askP l p s = askP (l.drop k) p s
theorem Past.zero (l : List PidM) (p : Int) : Past l p 0 := ⟨Nat.zero_le _, fun _ => rfl⟩
theorem Past.next {l : List PidM} {p : Int} {k : Nat} (h : Past l p k) (hk : k < l.length) (hp : l[k].pid ≠ p) : Past l p (k + 1) := by
  refine ⟨hk, fun s => ?_⟩
  rw [h.2 s, List.drop_eq_getElem_cons hk]
  show (if l[k].pid = p then _ else _) = _
  rw [if_neg hp]
theorem Past.here {l : List PidM} {p : Int} {k : Nat} (h : Past l p k) (hk : k < l.length) (hp : l[k].pid = p) (s : Int) : askP l p s = askRow l[k] s := by
  rw [h.2 s, List.drop_eq_getElem_cons hk]
  show (if l[k].pid = p then _ else _) = _
  rw [if_pos hp]
theorem Past.over {l : List PidM} {p : Int} {k : Nat} (h : Past l p k) (hk : l.length ≤ k) (s : Int) : askP l p s = if s = 0 then (0, 0) else (2, 0) := by
  rw [h.2 s, List.drop_of_length_le hk]
  rfl
end Go.Proofs.Ytgjgbelloobdfaa
