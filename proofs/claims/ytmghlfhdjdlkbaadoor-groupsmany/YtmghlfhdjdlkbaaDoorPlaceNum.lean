/- Plain mathematics of where groups are: rows by rising names, what is set and told. No program is spoken of here. -/
import Derived.Test.YtmghlfhdjdlkbaaDoorNameLt
namespace Go.Proofs.YtmghlfhdjdlkbaaDoor

structure PlaceM where
  name : ByteArray
  off : Int
/-- What rows tell of a name. -/
def getN : List PlaceM → ByteArray → Int × Bool
  | [], _ => (0, false)
  | x :: l, n => if x.name = n then (x.off, true) else getN l n
def hasN (l : List PlaceM) (n : ByteArray) : Bool := l.any fun x => decide (x.name = n)
/-- A row put where it belongs. -/
def putN (x : PlaceM) : List PlaceM → List PlaceM
  | [] => [x]
  | y :: l => if ltS y.name x.name = true then y :: putN x l else if y.name = x.name then x :: l else x :: y :: l
/-- Rows, and one set to them: the rows, and the error. -/
def setN (l : List PlaceM) (x : PlaceM) : List PlaceM × Int :=
  if validS x.name = false then (l, 6) else if hasN l x.name = false ∧ 100 ≤ l.length then (l, 7) else (putN x l, 0)
def SortedN (l : List PlaceM) : Prop := l.Pairwise fun x y => ltS x.name y.name = true
def PlaceM.wf (x : PlaceM) : Prop := x.name.size ≤ 9223372036854775807 ∧ -9223372036854775808 ≤ x.off ∧ x.off ≤ 9223372036854775807
/-- What holds of all rows that there ever are. -/
structure PlacesM (l : List PlaceM) : Prop where
  sorted : SortedN l
  wf : ∀ x ∈ l, x.wf
  few : l.length ≤ 100
theorem PlacesM.nil : PlacesM [] := ⟨List.Pairwise.nil, fun _ h => (by cases h), by simp⟩
theorem putN_mem {x y : PlaceM} : ∀ {l : List PlaceM}, y ∈ putN x l → y = x ∨ y ∈ l
  | [], h => .inl (by simpa [putN] using h)
  | z :: l, h => by
    unfold putN at h
    split at h
    · rcases List.mem_cons.1 h with h | h
      · exact .inr (h ▸ List.mem_cons_self ..)
      · rcases putN_mem h with h | h
        · exact .inl h
        · exact .inr (List.mem_cons_of_mem _ h)
    · split at h
      · rcases List.mem_cons.1 h with h | h
        · exact .inl h
        · exact .inr (List.mem_cons_of_mem _ h)
      · rcases List.mem_cons.1 h with h | h
        · exact .inl h
        · exact .inr h
theorem putN_sorted {x : PlaceM} : ∀ {l : List PlaceM}, SortedN l → SortedN (putN x l)
  | [], _ => List.pairwise_singleton ..
  | y :: l, h => by
    obtain ⟨h1, h2⟩ := List.pairwise_cons.1 h
    unfold putN
    split
    · next hlt =>
      refine List.pairwise_cons.2 ⟨fun z hz => ?_, putN_sorted h2⟩
      rcases putN_mem hz with rfl | hz
      · exact hlt
      · exact h1 z hz
    · next hlt =>
      split
      · next he => exact List.pairwise_cons.2 ⟨fun z hz => by rw [← he]; exact h1 z hz, h2⟩
      · next he =>
        have hxy : ltS x.name y.name = true := by
          rcases ltS_tri x.name y.name with h | h | h
          · exact h
          · exact absurd h.symm he
          · exact absurd h hlt
        refine List.pairwise_cons.2 ⟨fun z hz => ?_, h⟩
        rcases List.mem_cons.1 hz with rfl | hz
        · exact hxy
        · exact ltS_trans hxy (h1 z hz)
theorem hasN_cons (y : PlaceM) (l : List PlaceM) (n : ByteArray) : hasN (y :: l) n = (decide (y.name = n) || hasN l n) := rfl
theorem hasN_above {l : List PlaceM} {n : ByteArray} (h : ∀ z ∈ l, ltS n z.name = true) : hasN l n = false := by
  induction l with
  | nil => rfl
  | cons y l ih =>
    have := ltS_ne (h y (List.mem_cons_self ..))
    rw [hasN_cons, ih fun z hz => h z (List.mem_cons_of_mem _ hz), Bool.or_false]
    exact decide_eq_false fun e => this e.symm
theorem putN_length {x : PlaceM} : ∀ {l : List PlaceM}, SortedN l → (putN x l).length = if hasN l x.name then l.length else l.length + 1
  | [], _ => rfl
  | y :: l, h => by
    obtain ⟨h1, h2⟩ := List.pairwise_cons.1 h
    unfold putN
    rw [hasN_cons]
    split
    · next hlt =>
      rw [List.length_cons, putN_length h2, decide_eq_false (ltS_ne hlt), Bool.false_or]
      split <;> simp
    · next hlt =>
      split
      · next he => simp [he]
      · next he =>
        have hxy : ltS x.name y.name = true := by
          rcases ltS_tri x.name y.name with h | h | h
          · exact h
          · exact absurd h.symm he
          · exact absurd h hlt
        rw [hasN_above fun z hz => ltS_trans hxy (h1 z hz), decide_eq_false he]
        simp
theorem PlacesM.set {l : List PlaceM} (h : PlacesM l) {x : PlaceM} (hx : x.wf) : PlacesM (setN l x).1 := by
  unfold setN
  split
  · exact h
  · split
    · exact h
    · next hn =>
      refine ⟨putN_sorted h.sorted, fun y hy => ?_, ?_⟩
      · rcases putN_mem hy with rfl | hy
        · exact hx
        · exact h.wf y hy
      · show (putN x l).length ≤ 100
        rw [putN_length h.sorted]
        have := h.few
        split
        · exact this
        · next hh =>
          have hh' : hasN l x.name = false := by simpa using hh
          have : ¬ 100 ≤ l.length := fun h100 => hn ⟨hh', h100⟩
          omega
theorem get_put {x : PlaceM} : ∀ {l : List PlaceM}, getN (putN x l) x.name = (x.off, true)
  | [] => by simp [putN, getN]
  | y :: l => by
    unfold putN
    split
    · next hlt =>
      unfold getN
      rw [if_neg (ltS_ne hlt)]
      exact get_put
    · split <;> simp [getN]
/-- So many rows at the front are ahead of a name. -/
def AheadN (l : List PlaceM) (n : ByteArray) (k : Nat) : Prop := k ≤ l.length ∧ ∀ x ∈ l.take k, ltS x.name n = true
theorem AheadN.zero (l : List PlaceM) (n : ByteArray) : AheadN l n 0 := ⟨Nat.zero_le _, fun _ h => by simp at h⟩
theorem AheadN.next {l : List PlaceM} {n : ByteArray} {k : Nat} (h : AheadN l n k) (hk : k < l.length) (hp : ltS l[k].name n = true) : AheadN l n (k + 1) := by
  refine ⟨hk, fun x hx => ?_⟩
  rw [List.take_succ_eq_append_getElem hk] at hx
  rcases List.mem_append.1 hx with hx | hx
  · exact h.2 x hx
  · rw [List.mem_singleton.1 hx]; exact hp
theorem AheadN.tail {y : PlaceM} {l : List PlaceM} {n : ByteArray} {k : Nat} (h : AheadN (y :: l) n (k + 1)) : ltS y.name n = true ∧ AheadN l n k :=
  ⟨h.2 y (by simp), Nat.le_of_succ_le_succ h.1, fun x hx => h.2 x (by rw [List.take_succ_cons]; exact List.mem_cons_of_mem _ hx)⟩
theorem putN_between {x : PlaceM} : ∀ {l : List PlaceM} {k : Nat}, AheadN l x.name k → (∀ h : k < l.length, ltS l[k].name x.name = false ∧ l[k].name ≠ x.name) → putN x l = l.take k ++ x :: l.drop k
  | [], 0, _, _ => rfl
  | [], k + 1, h, _ => by have := h.1; simp at this
  | y :: l, 0, _, h2 => by
    have h := h2 (by simp)
    rw [List.getElem_cons_zero] at h
    unfold putN
    rw [if_neg (by rw [h.1]; decide), if_neg h.2]
    rfl
  | y :: l, k + 1, h, h2 => by
    obtain ⟨h3, h4⟩ := h.tail
    unfold putN
    rw [if_pos h3, putN_between h4 fun hk => by have := h2 (by simpa using hk); simpa using this]
    rfl
theorem putN_over {x : PlaceM} : ∀ {l : List PlaceM} {k : Nat}, AheadN l x.name k → (hk : k < l.length) → l[k].name = x.name → putN x l = l.take k ++ x :: l.drop (k + 1)
  | [], _, _, hk, _ => by simp at hk
  | y :: l, 0, _, _, h2 => by
    rw [List.getElem_cons_zero] at h2
    unfold putN
    rw [if_neg (by rw [h2, ltS_self]; decide), if_pos h2]
    rfl
  | y :: l, k + 1, h, hk, h2 => by
    obtain ⟨h3, h4⟩ := h.tail
    unfold putN
    rw [if_pos h3, putN_over h4 (by simpa using hk) (by simpa using h2)]
    rfl
theorem hasN_over {l : List PlaceM} {n : ByteArray} {k : Nat} (hk : k < l.length) (h : l[k].name = n) : hasN l n = true :=
  List.any_eq_true.2 ⟨l[k], List.getElem_mem hk, by simpa using h⟩
theorem hasN_between {n : ByteArray} : ∀ {l : List PlaceM} {k : Nat}, SortedN l → AheadN l n k → (∀ h : k < l.length, ltS l[k].name n = false ∧ l[k].name ≠ n) → hasN l n = false
  | [], _, _, _, _ => rfl
  | y :: l, 0, hs, _, h2 => by
    obtain ⟨h3, _⟩ := List.pairwise_cons.1 hs
    have h := h2 (by simp)
    rw [List.getElem_cons_zero] at h
    have hny : ltS n y.name = true := by
      rcases ltS_tri n y.name with h' | h' | h'
      · exact h'
      · exact absurd h'.symm h.2
      · rw [h.1] at h'; cases h'
    refine hasN_above fun z hz => ?_
    rcases List.mem_cons.1 hz with rfl | hz
    · exact hny
    · exact ltS_trans hny (h3 z hz)
  | y :: l, k + 1, hs, h, h2 => by
    obtain ⟨_, hs2⟩ := List.pairwise_cons.1 hs
    obtain ⟨h3, h4⟩ := h.tail
    rw [hasN_cons, hasN_between hs2 h4 fun hk => by have := h2 (by simpa using hk); simpa using this, Bool.or_false]
    exact decide_eq_false (ltS_ne h3)
/-- Asked row by row: the first k are others. -/
def PastN (l : List PlaceM) (n : ByteArray) (k : Nat) : Prop := k ≤ l.length ∧ getN l n = getN (l.drop k) n
theorem PastN.zero (l : List PlaceM) (n : ByteArray) : PastN l n 0 := ⟨Nat.zero_le _, rfl⟩
theorem PastN.next {l : List PlaceM} {n : ByteArray} {k : Nat} (h : PastN l n k) (hk : k < l.length) (hp : l[k].name ≠ n) : PastN l n (k + 1) := by
  refine ⟨hk, ?_⟩
  rw [h.2, List.drop_eq_getElem_cons hk]
  show (if l[k].name = n then _ else _) = _
  rw [if_neg hp]
theorem PastN.here {l : List PlaceM} {n : ByteArray} {k : Nat} (h : PastN l n k) (hk : k < l.length) (hp : l[k].name = n) : getN l n = (l[k].off, true) := by
  rw [h.2, List.drop_eq_getElem_cons hk]
  show (if l[k].name = n then _ else _) = _
  rw [if_pos hp]
theorem PastN.over {l : List PlaceM} {n : ByteArray} {k : Nat} (h : PastN l n k) (hk : l.length ≤ k) : getN l n = (0, false) := by
  rw [h.2, List.drop_of_length_le hk]
  rfl
end Go.Proofs.YtmghlfhdjdlkbaaDoor
