/- Plain mathematics of a fold of records by rising keys: where the next one goes. No program is spoken of here. -/
import Derived.Test.YtjblhfhfappmoaaCleanNum
namespace Go.Proofs.Ytjblhfhfappmoaa

def AheadK (l : List Rec) (q : ByteArray) (k : Nat) : Prop := k ≤ l.length ∧ ∀ x ∈ l.take k, ltS x.key q = true
theorem AheadK.zero (l : List Rec) (q : ByteArray) : AheadK l q 0 := ⟨Nat.zero_le _, fun x hx => by simp at hx⟩
theorem AheadK.next {l : List Rec} {q : ByteArray} {k : Nat} (h : AheadK l q k) (hk : k < l.length) (hl : ltS l[k].key q = true) : AheadK l q (k + 1) := by
  refine ⟨hk, fun x hx => ?_⟩
  rw [List.take_succ_eq_append_getElem hk] at hx
  rcases List.mem_append.mp hx with hx | hx
  · exact h.2 x hx
  · rcases List.mem_singleton.mp hx with rfl
    exact hl
def newK (r : Rec) : List Rec := if r.dead = true then [] else [r]
theorem step_here {r : Rec} : ∀ {l : List Rec} {k : Nat}, AheadK l r.key k → (hk : k < l.length) → l[k].key = r.key → mapStep r l = l.take k ++ (newK r ++ l.drop (k + 1))
  | [], k, _, hk, _ => by simp at hk
  | y :: l, 0, _, _, he => by
    have he : y.key = r.key := he
    unfold mapStep
    rw [if_neg (by rw [he, ltS_self]; decide), if_pos he]
    rfl
  | y :: l, k + 1, h, hk, he => by
    have h0 : ltS y.key r.key = true := h.2 y (by simp)
    have h1 : AheadK l r.key k := ⟨by simpa using h.1, fun x hx => h.2 x (by simp [hx])⟩
    unfold mapStep
    rw [if_pos h0, step_here h1 (by simpa using hk) (by simpa using he)]
    rfl
theorem step_between {r : Rec} : ∀ {l : List Rec} {k : Nat}, AheadK l r.key k → (∀ h : k < l.length, ltS l[k].key r.key = false ∧ l[k].key ≠ r.key) → mapStep r l = l.take k ++ (newK r ++ l.drop k)
  | [], k, h, _ => by
    have : k = 0 := by simpa using h.1
    subst this
    unfold mapStep newK
    simp
  | y :: l, 0, _, he => by
    obtain ⟨h1, h2⟩ := he (by simp)
    have h1 : ltS y.key r.key = false := h1
    have h2 : y.key ≠ r.key := h2
    unfold mapStep
    rw [if_neg (by rw [h1]; decide), if_neg h2]
    rfl
  | y :: l, k + 1, h, he => by
    have h0 : ltS y.key r.key = true := h.2 y (by simp)
    have h1 : AheadK l r.key k := ⟨by simpa using h.1, fun x hx => h.2 x (by simp [hx])⟩
    unfold mapStep
    rw [if_pos h0, step_between h1 fun hk => he (Nat.succ_lt_succ hk)]
    rfl
theorem newK_length (r : Rec) : (newK r).length ≤ 1 := by unfold newK; split <;> simp
theorem step_length {r : Rec} : ∀ {l : List Rec}, (mapStep r l).length ≤ l.length + 1
  | [] => by unfold mapStep; split <;> simp
  | y :: l => by
    unfold mapStep
    split
    · simp only [List.length_cons]
      exact Nat.succ_le_succ step_length
    · rw [List.length_append, List.length_cons]
      have h1 : (if r.dead = true then [] else [r] : List Rec).length ≤ 1 := newK_length r
      have h2 : (if y.key = r.key then l else y :: l).length ≤ l.length + 1 := by split <;> simp
      omega
theorem map_next {rs : List Rec} {i : Nat} (h : i < rs.length) : mapL (rs.take (i + 1)) = mapStep rs[i] (mapL (rs.take i)) := by
  unfold mapL
  rw [List.take_succ_eq_append_getElem h, List.foldl_append]
  rfl
theorem map_length {rs : List Rec} : ∀ i, i ≤ rs.length → (mapL (rs.take i)).length ≤ i
  | 0, _ => by simp [mapL]
  | i + 1, h => by
    rw [map_next h]
    have h1 := step_length (r := rs[i]) (l := mapL (rs.take i))
    have h2 := map_length (rs := rs) i (by omega)
    omega
theorem map_from {rs : List Rec} {i : Nat} : ∀ x ∈ mapL (rs.take i), x ∈ rs := fun x hx => by
  have := ((map_tells _).2 x).mp hx
  exact List.mem_of_mem_take (last_key this.1).2
end Go.Proofs.Ytjblhfhfappmoaa
