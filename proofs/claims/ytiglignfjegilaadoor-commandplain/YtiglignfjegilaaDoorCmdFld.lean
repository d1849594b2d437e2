/- Plain mathematics of the fields that a kind of command names: what the program's own way of asking, writing and reading them comes to. No program is spoken of here. -/
import Derived.Test.YtiglignfjegilaaDoorCmdNum
namespace Go.Proofs.YtiglignfjegilaaDoor

/-- A field: a number in a cell, with its bounds; the records; the group; the sum. -/
inductive Fld where
  | num (k : Nat) (lo hi : Int)
  | recs
  | group
  | sum
def Cmd.num (c : Cmd) : Nat → Int
  | 0 => c.kind | 1 => c.pid | 2 => c.seq | 5 => c.off | 6 => c.max | 7 => c.now | 9 => c.seg | 10 => c.keep | 11 => c.age | 12 => c.grace | _ => 0
def Cmd.setNum (c : Cmd) (k : Nat) (x : Int) : Cmd := match k with
  | 0 => { c with kind := x } | 1 => { c with pid := x } | 2 => { c with seq := x } | 5 => { c with off := x } | 6 => { c with max := x } | 7 => { c with now := x }
  | 9 => { c with seg := x } | 10 => { c with keep := x } | 11 => { c with age := x } | 12 => { c with grace := x } | _ => c
def isNum (k : Nat) : Prop := k = 0 ∨ k = 1 ∨ k = 2 ∨ k = 5 ∨ k = 6 ∨ k = 7 ∨ k = 9 ∨ k = 10 ∨ k = 11 ∨ k = 12
/-- It stands where a number stands, and its bounds fit. -/
def Fld.good : Fld → Prop
  | .num k lo hi => isNum k ∧ -9223372036854775808 ≤ lo ∧ lo ≤ 9223372036854775807 ∧ -9223372036854775808 ≤ hi ∧ hi ≤ 9223372036854775807
  | _ => True
abbrev fOff : Fld := .num 5 0 1125899906842624
abbrev fSeq : Fld := .num 2 0 1099511627776
abbrev fNow : Fld := .num 7 (-1099511627776) 1099511627776
/-- The fields that a kind names, in order. -/
def fieldsK (k : Int) : List Fld :=
  if k = 1 then [.num 1 0 1099511627776, fSeq, .recs] else if k = 2 then [fOff, .num 6 1 100] else if k = 3 then [.group, fOff] else if k = 4 then [.group]
  else if k = 5 ∨ k = 9 then [fNow] else if k = 6 then [.num 9 1 1000, .num 10 0 1099511627776, .num 11 0 1099511627776, .num 12 0 1099511627776]
  else if k = 8 then [fOff, fNow] else if k = 11 then [fOff, fSeq, .num 6 0 1099511627776, .sum] else []
def known (k : Int) : Prop := 0 ≤ k ∧ k ≤ 11
instance (k : Int) : Decidable (known k) := inferInstanceAs (Decidable (_ ∧ _))
theorem fieldsK_cases (k : Int) : k = 0 ∨ k = 1 ∨ k = 2 ∨ k = 3 ∨ k = 4 ∨ k = 5 ∨ k = 6 ∨ k = 7 ∨ k = 8 ∨ k = 9 ∨ k = 10 ∨ k = 11 ∨ (¬ known k ∧ fieldsK k = []) := by
  rcases Cmd.kinds k with h | h | h | h | h | h | h | h | h | h | h | h | h
  all_goals first | (simp [h]; done) | skip
  refine .inr (.inr (.inr (.inr (.inr (.inr (.inr (.inr (.inr (.inr (.inr (.inr ⟨fun hk => by unfold known at hk; omega, ?_⟩)))))))))))
  unfold fieldsK
  rw [if_neg (by omega), if_neg (by omega), if_neg (by omega), if_neg (by omega), if_neg (by omega), if_neg (by omega), if_neg (by omega), if_neg (by omega)]
theorem fieldsK_good (k : Int) : ∀ f ∈ fieldsK k, f.good := by
  rcases fieldsK_cases k with h | h | h | h | h | h | h | h | h | h | h | h | ⟨_, h⟩
  all_goals (try rw [h]); simp [fieldsK, Fld.good, isNum]
theorem fieldsK_length (k : Int) : (fieldsK k).length ≤ 4 := by
  rcases fieldsK_cases k with h | h | h | h | h | h | h | h | h | h | h | h | ⟨_, h⟩
  all_goals (try rw [h]); simp [fieldsK]

/-- Is a field within its bounds? -/
def Fld.ok (c : Cmd) : Fld → Prop
  | .num k lo hi => lo ≤ c.num k ∧ c.num k ≤ hi
  | .recs => batch c.recs
  | .group => validS c.group = true
  | .sum => True
instance (c : Cmd) (f : Fld) : Decidable (f.ok c) := by cases f <;> unfold Fld.ok <;> infer_instance
def Fld.wipe (c : Cmd) : Fld → Cmd
  | .num k _ _ => c.setNum k 0
  | .recs => { c with recs := [] }
  | .group => { c with group := ⟨#[]⟩ }
  | .sum => { c with sum := 0 }
/-- All fields are within their bounds, and behind them, all wiped, nothing is left. -/
def restOk : List Fld → Cmd → Prop
  | [], c => c = { zeroCmd with kind := c.kind }
  | f :: fs, c => f.ok c ∧ restOk fs (f.wipe c)
theorem size_nil (s : ByteArray) : s.size = 0 ↔ s = ⟨#[]⟩ := by
  constructor
  · intro h
    refine bytes_eq ?_
    have : s.data.size = 0 := h
    rw [Array.size_eq_zero_iff.1 this]
  · rintro rfl
    rfl
theorem right_rest (c : Cmd) : c.right ↔ known c.kind ∧ ¬ (c.kind = 1 ∧ c.pid = 0 ∧ c.seq ≠ 0) ∧ restOk (fieldsK c.kind) c := by
  obtain ⟨k, p, q, rs, gr, o, m, n, s, a1, a2, a3, a4⟩ := c
  have hg := size_nil gr
  have hr := List.length_eq_zero_iff (l := rs)
  rcases fieldsK_cases k with h | h | h | h | h | h | h | h | h | h | h | h | ⟨hk, h⟩
  · subst h
    show _ ↔ (0 ≤ (0 : Int) ∧ (0 : Int) ≤ 11) ∧ ¬ ((0 : Int) = 1 ∧ p = 0 ∧ q ≠ 0) ∧ (⟨0, p, q, rs, gr, o, m, n, s, a1, a2, a3, a4⟩ : Cmd) = ⟨0, 0, 0, [], ⟨#[]⟩, 0, 0, 0, 0, 0, 0, 0, 0⟩
    unfold Cmd.right Cmd.plain Cmd.fits within isTime
    grind
  · subst h
    show _ ↔ (0 ≤ (1 : Int) ∧ (1 : Int) ≤ 11) ∧ ¬ ((1 : Int) = 1 ∧ p = 0 ∧ q ≠ 0) ∧ (0 ≤ p ∧ p ≤ 1099511627776) ∧ (0 ≤ q ∧ q ≤ 1099511627776) ∧ batch rs ∧ (⟨1, 0, 0, [], gr, o, m, n, s, a1, a2, a3, a4⟩ : Cmd) = ⟨1, 0, 0, [], ⟨#[]⟩, 0, 0, 0, 0, 0, 0, 0, 0⟩
    unfold Cmd.right Cmd.plain Cmd.fits within isTime
    grind
  · subst h
    show _ ↔ (0 ≤ (2 : Int) ∧ (2 : Int) ≤ 11) ∧ ¬ ((2 : Int) = 1 ∧ p = 0 ∧ q ≠ 0) ∧ (0 ≤ o ∧ o ≤ 1125899906842624) ∧ (1 ≤ m ∧ m ≤ 100) ∧ (⟨2, p, q, rs, gr, 0, 0, n, s, a1, a2, a3, a4⟩ : Cmd) = ⟨2, 0, 0, [], ⟨#[]⟩, 0, 0, 0, 0, 0, 0, 0, 0⟩
    unfold Cmd.right Cmd.plain Cmd.fits within isTime
    grind
  · subst h
    show _ ↔ (0 ≤ (3 : Int) ∧ (3 : Int) ≤ 11) ∧ ¬ ((3 : Int) = 1 ∧ p = 0 ∧ q ≠ 0) ∧ validS gr = true ∧ (0 ≤ o ∧ o ≤ 1125899906842624) ∧ (⟨3, p, q, rs, ⟨#[]⟩, 0, m, n, s, a1, a2, a3, a4⟩ : Cmd) = ⟨3, 0, 0, [], ⟨#[]⟩, 0, 0, 0, 0, 0, 0, 0, 0⟩
    unfold Cmd.right Cmd.plain Cmd.fits within isTime
    grind
  · subst h
    show _ ↔ (0 ≤ (4 : Int) ∧ (4 : Int) ≤ 11) ∧ ¬ ((4 : Int) = 1 ∧ p = 0 ∧ q ≠ 0) ∧ validS gr = true ∧ (⟨4, p, q, rs, ⟨#[]⟩, o, m, n, s, a1, a2, a3, a4⟩ : Cmd) = ⟨4, 0, 0, [], ⟨#[]⟩, 0, 0, 0, 0, 0, 0, 0, 0⟩
    unfold Cmd.right Cmd.plain Cmd.fits within isTime
    grind
  · subst h
    show _ ↔ (0 ≤ (5 : Int) ∧ (5 : Int) ≤ 11) ∧ ¬ ((5 : Int) = 1 ∧ p = 0 ∧ q ≠ 0) ∧ ((-1099511627776) ≤ n ∧ n ≤ 1099511627776) ∧ (⟨5, p, q, rs, gr, o, m, 0, s, a1, a2, a3, a4⟩ : Cmd) = ⟨5, 0, 0, [], ⟨#[]⟩, 0, 0, 0, 0, 0, 0, 0, 0⟩
    unfold Cmd.right Cmd.plain Cmd.fits within isTime
    grind
  · subst h
    show _ ↔ (0 ≤ (6 : Int) ∧ (6 : Int) ≤ 11) ∧ ¬ ((6 : Int) = 1 ∧ p = 0 ∧ q ≠ 0) ∧ (1 ≤ a1 ∧ a1 ≤ 1000) ∧ (0 ≤ a2 ∧ a2 ≤ 1099511627776) ∧ (0 ≤ a3 ∧ a3 ≤ 1099511627776) ∧ (0 ≤ a4 ∧ a4 ≤ 1099511627776) ∧ (⟨6, p, q, rs, gr, o, m, n, s, 0, 0, 0, 0⟩ : Cmd) = ⟨6, 0, 0, [], ⟨#[]⟩, 0, 0, 0, 0, 0, 0, 0, 0⟩
    unfold Cmd.right Cmd.plain Cmd.fits within isTime
    grind
  · subst h
    show _ ↔ (0 ≤ (7 : Int) ∧ (7 : Int) ≤ 11) ∧ ¬ ((7 : Int) = 1 ∧ p = 0 ∧ q ≠ 0) ∧ (⟨7, p, q, rs, gr, o, m, n, s, a1, a2, a3, a4⟩ : Cmd) = ⟨7, 0, 0, [], ⟨#[]⟩, 0, 0, 0, 0, 0, 0, 0, 0⟩
    unfold Cmd.right Cmd.plain Cmd.fits within isTime
    grind
  · subst h
    show _ ↔ (0 ≤ (8 : Int) ∧ (8 : Int) ≤ 11) ∧ ¬ ((8 : Int) = 1 ∧ p = 0 ∧ q ≠ 0) ∧ (0 ≤ o ∧ o ≤ 1125899906842624) ∧ ((-1099511627776) ≤ n ∧ n ≤ 1099511627776) ∧ (⟨8, p, q, rs, gr, 0, m, 0, s, a1, a2, a3, a4⟩ : Cmd) = ⟨8, 0, 0, [], ⟨#[]⟩, 0, 0, 0, 0, 0, 0, 0, 0⟩
    unfold Cmd.right Cmd.plain Cmd.fits within isTime
    grind
  · subst h
    show _ ↔ (0 ≤ (9 : Int) ∧ (9 : Int) ≤ 11) ∧ ¬ ((9 : Int) = 1 ∧ p = 0 ∧ q ≠ 0) ∧ ((-1099511627776) ≤ n ∧ n ≤ 1099511627776) ∧ (⟨9, p, q, rs, gr, o, m, 0, s, a1, a2, a3, a4⟩ : Cmd) = ⟨9, 0, 0, [], ⟨#[]⟩, 0, 0, 0, 0, 0, 0, 0, 0⟩
    unfold Cmd.right Cmd.plain Cmd.fits within isTime
    grind
  · subst h
    show _ ↔ (0 ≤ (10 : Int) ∧ (10 : Int) ≤ 11) ∧ ¬ ((10 : Int) = 1 ∧ p = 0 ∧ q ≠ 0) ∧ (⟨10, p, q, rs, gr, o, m, n, s, a1, a2, a3, a4⟩ : Cmd) = ⟨10, 0, 0, [], ⟨#[]⟩, 0, 0, 0, 0, 0, 0, 0, 0⟩
    unfold Cmd.right Cmd.plain Cmd.fits within isTime
    grind
  · subst h
    show _ ↔ (0 ≤ (11 : Int) ∧ (11 : Int) ≤ 11) ∧ ¬ ((11 : Int) = 1 ∧ p = 0 ∧ q ≠ 0) ∧ (0 ≤ o ∧ o ≤ 1125899906842624) ∧ (0 ≤ q ∧ q ≤ 1099511627776) ∧ (0 ≤ m ∧ m ≤ 1099511627776) ∧ True ∧ (⟨11, p, 0, rs, gr, 0, 0, n, 0, a1, a2, a3, a4⟩ : Cmd) = ⟨11, 0, 0, [], ⟨#[]⟩, 0, 0, 0, 0, 0, 0, 0, 0⟩
    unfold Cmd.right Cmd.plain Cmd.fits within isTime
    grind
  · refine ⟨fun hr => absurd ?_ hk, fun hr => absurd hr.1 hk⟩
    have := hr.2
    unfold Cmd.fits at this
    dsimp only at this
    show 0 ≤ k ∧ k ≤ 11
    omega

/-- The bytes of a field. -/
def Fld.bytes (c : Cmd) : Fld → List Int
  | .num k _ _ => putL (foldI (c.num k))
  | .sum => putL c.sum
  | .group => putL c.group.size ++ ints c.group
  | .recs => putL c.recs.length ++ c.recs.flatMap putR
/-- The bytes of a command, as the program writes them. -/
def cmdB (c : Cmd) : List Int := if c.right then putL (foldI c.kind) ++ (fieldsK c.kind).flatMap (Fld.bytes c) else []
/-- So many records that bytes begin with, and what is behind them. -/
def getRecs : Nat → List Int → Option (List Rec × List Int)
  | 0, xs => some ([], xs)
  | n + 1, xs => if (getRec xs).2.2 = 0 then (getRecs n (xs.drop (getRec xs).2.1.toNat)).map fun p => ((getRec xs).1 :: p.1, p.2) else none
/-- A field that bytes begin with, put into a command, and what is behind it. -/
def takeF (c : Cmd) (xs : List Int) (f : Fld) : Option (Cmd × List Int) :=
  if (getR xs).2.2 ≠ 0 then none else match f with
  | .num k _ _ => some (c.setNum k (unfoldI (getR xs).1), xs.drop (getR xs).2.1.toNat)
  | .sum => if (getR xs).1 ≤ 4294967295 then some ({ c with sum := (getR xs).1 }, xs.drop (getR xs).2.1.toNat) else none
  | .group => if (getR xs).1 ≤ ((xs.drop (getR xs).2.1.toNat).length : Int) then some ({ c with group := textOf ((xs.drop (getR xs).2.1.toNat).take (getR xs).1.toNat) }, (xs.drop (getR xs).2.1.toNat).drop (getR xs).1.toNat) else none
  | .recs => if 50 < (getR xs).1 then none else (getRecs (getR xs).1.toNat (xs.drop (getR xs).2.1.toNat)).map fun p => ({ c with recs := c.recs ++ p.1 }, p.2)
def readFs : List Fld → Cmd → List Int → Option (Cmd × List Int)
  | [], c, xs => some (c, xs)
  | f :: fs, c, xs => (takeF c xs f).bind fun p => readFs fs p.1 p.2
/-- A command, if it is right and nothing is behind it. -/
def whole (p : Cmd × List Int) : Option Cmd := if p.2 = [] ∧ p.1.right then some p.1 else none
/-- The command that bytes are, as the program reads them. -/
def cmdR (xs : List Int) : Option Cmd := (takeF zeroCmd xs (.num 0 0 0)).bind fun p => (readFs (fieldsK p.1.kind) p.1 p.2).bind whole

theorem cmdB_wrong {c : Cmd} (h : ¬ c.right) : cmdB c = [] := if_neg h
theorem cmdB_right {c : Cmd} (h : c.right) : cmdB c = putL (foldI c.kind) ++ (fieldsK c.kind).flatMap (Fld.bytes c) := if_pos h
theorem cmdB_some {c : Cmd} (h : c.right) : 0 < (cmdB c).length := by
  rw [cmdB_right h, List.length_append]
  have := (putL_length (foldI c.kind)).1
  omega
theorem cmdR_right {xs : List Int} {c : Cmd} (h : cmdR xs = some c) : c.right := by
  unfold cmdR at h
  obtain ⟨p, _, h⟩ := Option.bind_eq_some_iff.1 h
  obtain ⟨q, _, h⟩ := Option.bind_eq_some_iff.1 h
  unfold whole at h
  split at h
  · next hq => cases h; exact hq.2
  · cases h
theorem putRs_range (rs : List Rec) : ∀ c ∈ rs.flatMap putR, 0 ≤ c ∧ c ≤ 255 := by
  intro x hx
  obtain ⟨r, _, hr⟩ := List.mem_flatMap.1 hx
  exact putR_range r x hr
theorem putRs_length (rs : List Rec) : (rs.flatMap putR).length ≤ 2300 * rs.length := by
  induction rs with
  | nil => simp
  | cons r rs ih =>
    have := putR_length r
    rw [List.flatMap_cons, List.length_append, List.length_cons]
    omega
/-- What a field's bytes want of its command. -/
def Fld.fit (c : Cmd) : Fld → Prop
  | .num k _ _ => -9223372036854775808 ≤ c.num k ∧ c.num k ≤ 9223372036854775807
  | .sum => 0 ≤ c.sum ∧ c.sum ≤ 4294967295
  | .group => c.group.size ≤ 160
  | .recs => c.recs.length ≤ 50 ∧ ∀ r ∈ c.recs, r.right
theorem Fld.bytes_range {c : Cmd} {f : Fld} (h : f.fit c) : ∀ x ∈ f.bytes c, 0 ≤ x ∧ x ≤ 255 := by
  cases f with
  | num k lo hi =>
    have := fold_range _ h.1 h.2
    exact putL_range _ this.1 this.2
  | sum => exact putL_range _ h.1 (by have := h.2; omega)
  | group =>
    have h' : c.group.size ≤ 160 := h
    intro x hx
    rcases List.mem_append.1 hx with hx | hx
    · exact putL_range _ (by omega) (by omega) x hx
    · exact ints_range _ x hx
  | recs =>
    have := h.1
    intro x hx
    rcases List.mem_append.1 hx with hx | hx
    · exact putL_range _ (by omega) (by omega) x hx
    · exact putRs_range _ x hx
theorem Fld.bytes_length {c : Cmd} {f : Fld} (h : f.fit c) : (f.bytes c).length ≤ 120000 := by
  cases f with
  | num k lo hi =>
    have := putL_length (foldI (c.num k))
    show (putL _).length ≤ _
    omega
  | sum =>
    have := putL_length c.sum
    show (putL _).length ≤ _
    omega
  | group =>
    have h' : c.group.size ≤ 160 := h
    have := putL_length (c.group.size : Int)
    show (putL _ ++ ints _).length ≤ _
    rw [List.length_append, ints_length]
    omega
  | recs =>
    have h' := h.1
    have h1 := putL_length (c.recs.length : Int)
    have h2 := putRs_length c.recs
    show (putL _ ++ _).length ≤ _
    rw [List.length_append]
    omega
end Go.Proofs.YtiglignfjegilaaDoor
