/- Plain mathematics of what producers sent: rows by rising numbers, what is asked of them, what is set. No program is spoken of here. -/
import Derived.Test.YtgjgbelloobdfaaBase
namespace Go.Proofs.Ytgjgbelloobdfaa

structure PidM where
  pid : Int
  seq : Int
  off : Int
deriving DecidableEq
/-- What a row answers. -/
def askRow (x : PidM) (s : Int) : Int × Int := if x.seq = s then (1, x.off) else if x.seq + 1 = s then (0, 0) else (2, 0)
/-- What rows answer. -/
def askP : List PidM → Int → Int → Int × Int
  | [], _, s => if s = 0 then (0, 0) else (2, 0)
  | x :: l, p, s => if x.pid = p then askRow x s else askP l p s
/-- Is there a row of p? -/
def hasP (l : List PidM) (p : Int) : Bool := l.any fun x => x.pid == p
/-- A row put where it belongs. -/
def putP (x : PidM) : List PidM → List PidM
  | [] => [x]
  | y :: l => if y.pid < x.pid then y :: putP x l else if y.pid = x.pid then x :: l else x :: y :: l
/-- Rows, and one put to them, if there is room: the rows, and the error. -/
def setP (l : List PidM) (x : PidM) : List PidM × Int := if hasP l x.pid = false ∧ 100 ≤ l.length then (l, 7) else (putP x l, 0)
/-- Rows by rising numbers. -/
def SortedP (l : List PidM) : Prop := l.Pairwise fun x y => x.pid < y.pid
def PidM.wf (x : PidM) : Prop := (-9223372036854775808 ≤ x.pid ∧ x.pid ≤ 9223372036854775807) ∧ (-9223372036854775808 ≤ x.seq ∧ x.seq ≤ 9223372036854775807) ∧ (-9223372036854775808 ≤ x.off ∧ x.off ≤ 9223372036854775807)
/-- What holds of all rows that there ever are. -/
structure TabM (l : List PidM) : Prop where
  sorted : SortedP l
  wf : ∀ x ∈ l, x.wf
  few : l.length ≤ 100
theorem TabM.nil : TabM [] := ⟨List.Pairwise.nil, fun _ h => (by cases h), by simp⟩
theorem putP_mem {x y : PidM} : ∀ {l : List PidM}, y ∈ putP x l → y = x ∨ y ∈ l
  | [], h => .inl (by simpa [putP] using h)
  | z :: l, h => by
    unfold putP at h
    split at h
    · rcases List.mem_cons.1 h with h | h
      · exact .inr (h ▸ List.mem_cons_self ..)
      · rcases putP_mem h with h | h
        · exact .inl h
        · exact .inr (List.mem_cons_of_mem _ h)
    · split at h
      · rcases List.mem_cons.1 h with h | h
        · exact .inl h
        · exact .inr (List.mem_cons_of_mem _ h)
      · rcases List.mem_cons.1 h with h | h
        · exact .inl h
        · exact .inr h
theorem putP_sorted {x : PidM} : ∀ {l : List PidM}, SortedP l → SortedP (putP x l)
  | [], _ => List.pairwise_singleton ..
  | y :: l, h => by
    obtain ⟨h1, h2⟩ := List.pairwise_cons.1 h
    unfold putP
    split
    · next hlt =>
      refine List.pairwise_cons.2 ⟨fun z hz => ?_, putP_sorted h2⟩
      rcases putP_mem hz with rfl | hz
      · exact hlt
      · exact h1 z hz
    · next hlt =>
      split
      · next he => exact List.pairwise_cons.2 ⟨fun z hz => by have := h1 z hz; omega, h2⟩
      · next he =>
        refine List.pairwise_cons.2 ⟨fun z hz => ?_, h⟩
        rcases List.mem_cons.1 hz with rfl | hz
        · omega
        · have := h1 z hz; omega
theorem hasP_cons (y : PidM) (l : List PidM) (p : Int) : hasP (y :: l) p = (y.pid == p || hasP l p) := rfl
theorem hasP_above {l : List PidM} {p : Int} (h : ∀ z ∈ l, p < z.pid) : hasP l p = false := by
  induction l with
  | nil => rfl
  | cons y l ih =>
    have := h y (List.mem_cons_self ..)
    rw [hasP_cons, ih fun z hz => h z (List.mem_cons_of_mem _ hz), Bool.or_false]
    exact beq_eq_false_iff_ne.2 (by omega)
theorem putP_length {x : PidM} : ∀ {l : List PidM}, SortedP l → (putP x l).length = if hasP l x.pid then l.length else l.length + 1
  | [], _ => rfl
  | y :: l, h => by
    obtain ⟨h1, h2⟩ := List.pairwise_cons.1 h
    unfold putP
    rw [hasP_cons]
    split
    · next hlt =>
      rw [List.length_cons, putP_length h2, beq_eq_false_iff_ne.2 (show y.pid ≠ x.pid by omega), Bool.false_or]
      split <;> simp
    · next hlt =>
      split
      · next he => simp [he]
      · next he =>
        rw [hasP_above fun z hz => by have := h1 z hz; omega, beq_eq_false_iff_ne.2 he]
        simp
theorem TabM.set {l : List PidM} (h : TabM l) {x : PidM} (hx : x.wf) : TabM (setP l x).1 := by
  unfold setP
  split
  · exact h
  · next hn =>
    refine ⟨putP_sorted h.sorted, fun y hy => ?_, ?_⟩
    · rcases putP_mem hy with rfl | hy
      · exact hx
      · exact h.wf y hy
    · show (putP x l).length ≤ 100
      rw [putP_length h.sorted]
      have := h.few
      split
      · exact this
      · next hh =>
        have hh' : hasP l x.pid = false := by simpa using hh
        have : ¬ 100 ≤ l.length := fun h100 => hn ⟨hh', h100⟩
        omega
/-- Asked of a pid that was put: that row answers. -/
theorem ask_put_same {x : PidM} {s : Int} : ∀ {l : List PidM}, askP (putP x l) x.pid s = askRow x s
  | [] => by simp [putP, askP]
  | y :: l => by
    unfold putP
    split
    · next hlt =>
      unfold askP
      rw [if_neg (by omega)]
      exact ask_put_same
    · split <;> simp [askP]
/-- Asked of another one: as without it. -/
theorem ask_put_other {x : PidM} {p s : Int} (hp : x.pid ≠ p) : ∀ {l : List PidM}, askP (putP x l) p s = askP l p s
  | [] => by simp [putP, askP, hp]
  | y :: l => by
    unfold putP
    split
    · show askP (y :: putP x l) p s = _
      unfold askP
      rw [ask_put_other hp]
    · split
      · next he =>
        unfold askP
        rw [if_neg hp, if_neg (by omega)]
      · show askP (x :: y :: l) p s = _
        rw [askP, if_neg hp]
theorem ask_none {p s : Int} : ∀ {l : List PidM}, hasP l p = false → askP l p s = if s = 0 then (0, 0) else (2, 0)
  | [], _ => rfl
  | y :: l, h => by
    rw [hasP_cons, Bool.or_eq_false_iff] at h
    unfold askP
    rw [if_neg (beq_eq_false_iff_ne.1 h.1), ask_none h.2]
theorem has_put {x : PidM} {p : Int} : ∀ {l : List PidM}, hasP (putP x l) p = (x.pid == p || hasP l p)
  | [] => rfl
  | y :: l => by
    unfold putP
    split
    · rw [hasP_cons, has_put, hasP_cons]
      cases y.pid == p <;> cases x.pid == p <;> rfl
    · split
      · next he => rw [hasP_cons, hasP_cons, he]; cases x.pid == p <;> rfl
      · rfl
end Go.Proofs.Ytgjgbelloobdfaa
