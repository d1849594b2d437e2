/- Plain mathematics of commands: which are right, what each kind comes to. No program is spoken of here. -/
import Derived.Test.YtiglignfjegilaaDoorRecWords
import Derived.Test.YtiglignfjegilaaDoorRuneNum
namespace Go.Proofs.YtiglignfjegilaaDoor

structure Cmd where
  kind : Int
  pid : Int
  seq : Int
  recs : List Rec
  group : ByteArray
  off : Int
  max : Int
  now : Int
  sum : Int
  seg : Int
  keep : Int
  age : Int
  grace : Int
def zeroCmd : Cmd := ⟨0, 0, 0, [], ⟨#[]⟩, 0, 0, 0, 0, 0, 0, 0, 0⟩
/-- Is a number from 0 to this? -/
def within (n most : Int) : Prop := 0 ≤ n ∧ n ≤ most
instance (n most : Int) : Decidable (within n most) := inferInstanceAs (Decidable (_ ∧ _))
def isTime (n : Int) : Prop := -1099511627776 ≤ n ∧ n ≤ 1099511627776
instance (n : Int) : Decidable (isTime n) := inferInstanceAs (Decidable (_ ∧ _))
/-- The records of a batch. -/
def batch (l : List Rec) : Prop := 1 ≤ l.length ∧ l.length ≤ 50 ∧ ∀ r ∈ l, r.off = 0 ∧ r.right
instance (l : List Rec) : Decidable (batch l) := inferInstanceAs (Decidable (_ ∧ _))
/-- Just the fields that its kind names are not zero. -/
def Cmd.plain (c : Cmd) : Prop :=
  (c.kind = 1 ∨ c.pid = 0 ∧ c.recs.length = 0) ∧ (c.kind = 1 ∨ c.kind = 11 ∨ c.seq = 0) ∧ (c.kind = 3 ∨ c.kind = 4 ∨ c.group.size = 0) ∧
  (c.kind = 2 ∨ c.kind = 3 ∨ c.kind = 8 ∨ c.kind = 11 ∨ c.off = 0) ∧ (c.kind = 2 ∨ c.kind = 11 ∨ c.max = 0) ∧ (c.kind = 5 ∨ c.kind = 8 ∨ c.kind = 9 ∨ c.now = 0) ∧ (c.kind = 11 ∨ c.sum = 0) ∧
  (c.kind = 6 ∨ c.seg = 0 ∧ c.keep = 0 ∧ c.age = 0 ∧ c.grace = 0)
instance (c : Cmd) : Decidable c.plain := by unfold Cmd.plain; infer_instance
/-- The same in the order in which the document's own answer asks. -/
def Cmd.bad1 (c : Cmd) : Prop := ¬ c.kind = 1 ∧ (c.pid ≠ 0 ∨ 0 < c.recs.length) ∨ ¬ c.kind = 1 ∧ ¬ c.kind = 11 ∧ c.seq ≠ 0 ∨ ¬ (c.kind = 3 ∨ c.kind = 4) ∧ ¬ c.group.size = 0
def Cmd.bad2 (c : Cmd) : Prop := ¬ (c.kind = 2 ∨ c.kind = 3 ∨ c.kind = 8 ∨ c.kind = 11) ∧ c.off ≠ 0 ∨ c.kind ≠ 2 ∧ ¬ c.kind = 11 ∧ c.max ≠ 0 ∨ ¬ (c.kind = 5 ∨ c.kind = 8 ∨ c.kind = 9) ∧ c.now ≠ 0 ∨ ¬ c.kind = 11 ∧ c.sum ≠ 0
theorem or_of_imp {p q : Prop} (h : ¬ p → q) : p ∨ q := (Classical.em p).elim .inl fun hp => .inr (h hp)
theorem Cmd.plain_iff (c : Cmd) : c.plain ↔ ¬ c.bad1 ∧ ¬ c.bad2 ∧ (c.kind = 6 ∨ c.seg = 0 ∧ c.keep = 0 ∧ c.age = 0 ∧ c.grace = 0) := by
  constructor
  · rintro ⟨h1, h2, h3, h4, h5, h6, h7, h8⟩
    refine ⟨?_, ?_, h8⟩
    · rintro (⟨k, h⟩ | ⟨k, l, h⟩ | ⟨k, h⟩)
      · rcases h1 with h1 | ⟨h1, h1'⟩
        · exact k h1
        · rcases h with h | h
          · exact h h1
          · omega
      · rcases h2 with h2 | h2 | h2
        · exact k h2
        · exact l h2
        · exact h h2
      · rcases h3 with h3 | h3 | h3
        · exact k (.inl h3)
        · exact k (.inr h3)
        · exact h h3
    · rintro (⟨k, h⟩ | ⟨k, l, h⟩ | ⟨k, h⟩ | ⟨k, h⟩)
      · rcases h4 with h4 | h4 | h4 | h4 | h4
        · exact k (.inl h4)
        · exact k (.inr (.inl h4))
        · exact k (.inr (.inr (.inl h4)))
        · exact k (.inr (.inr (.inr h4)))
        · exact h h4
      · rcases h5 with h5 | h5 | h5
        · exact k h5
        · exact l h5
        · exact h h5
      · rcases h6 with h6 | h6 | h6 | h6
        · exact k (.inl h6)
        · exact k (.inr (.inl h6))
        · exact k (.inr (.inr h6))
        · exact h h6
      · rcases h7 with h7 | h7
        · exact k h7
        · exact h h7
  · rintro ⟨h1, h2, h8⟩
    unfold Cmd.bad1 at h1
    unfold Cmd.bad2 at h2
    refine ⟨or_of_imp fun k => ⟨?_, ?_⟩, or_of_imp fun k => or_of_imp fun l => ?_, or_of_imp fun k => or_of_imp fun l => ?_, or_of_imp fun a => or_of_imp fun b => or_of_imp fun d => or_of_imp fun e => ?_, or_of_imp fun a => or_of_imp fun b => ?_, or_of_imp fun a => or_of_imp fun b => or_of_imp fun d => ?_, or_of_imp fun a => ?_, h8⟩
    · exact Classical.byContradiction fun h => h1 (.inl ⟨k, .inl h⟩)
    · exact Classical.byContradiction fun h => h1 (.inl ⟨k, .inr (Nat.pos_of_ne_zero h)⟩)
    · exact Classical.byContradiction fun h => h1 (.inr (.inl ⟨k, l, h⟩))
    · exact Classical.byContradiction fun h => h1 (.inr (.inr ⟨fun q => q.elim k l, h⟩))
    · exact Classical.byContradiction fun h => h2 (.inl ⟨fun q => q.elim a fun q => q.elim b fun q => q.elim d e, h⟩)
    · exact Classical.byContradiction fun h => h2 (.inr (.inl ⟨a, b, h⟩))
    · exact Classical.byContradiction fun h => h2 (.inr (.inr (.inl ⟨fun q => q.elim a fun q => q.elim b d, h⟩)))
    · exact Classical.byContradiction fun h => h2 (.inr (.inr (.inr ⟨a, h⟩)))
/-- What its kind asks of the fields that it names. -/
def Cmd.fits (c : Cmd) : Prop :=
  (c.kind = 0 ∨ c.kind = 7 ∨ c.kind = 10) ∨
  (c.kind = 1 ∧ within c.pid 1099511627776 ∧ within c.seq 1099511627776 ∧ (c.pid = 0 → c.seq = 0) ∧ batch c.recs) ∨
  (c.kind = 2 ∧ within c.off 1125899906842624 ∧ 1 ≤ c.max ∧ c.max ≤ 100) ∨
  (c.kind = 3 ∧ within c.off 1125899906842624 ∧ validS c.group = true) ∨
  (c.kind = 4 ∧ validS c.group = true) ∨
  ((c.kind = 5 ∨ c.kind = 9) ∧ isTime c.now) ∨
  (c.kind = 8 ∧ isTime c.now ∧ within c.off 1125899906842624) ∨
  (c.kind = 6 ∧ 1 ≤ c.seg ∧ c.seg ≤ 1000 ∧ within c.keep 1099511627776 ∧ within c.age 1099511627776 ∧ within c.grace 1099511627776) ∨
  (c.kind = 11 ∧ within c.off 1125899906842624 ∧ within c.seq 1099511627776 ∧ within c.max 1099511627776)
instance (c : Cmd) : Decidable c.fits := by unfold Cmd.fits; infer_instance
def Cmd.right (c : Cmd) : Prop := c.plain ∧ c.fits
instance (c : Cmd) : Decidable c.right := by unfold Cmd.right; infer_instance
/-- What comes in as a command is within its types. -/
structure Cmd.wf (c : Cmd) : Prop where
  kind : -9223372036854775808 ≤ c.kind ∧ c.kind ≤ 9223372036854775807
  pid : -9223372036854775808 ≤ c.pid ∧ c.pid ≤ 9223372036854775807
  seq : -9223372036854775808 ≤ c.seq ∧ c.seq ≤ 9223372036854775807
  recs : ∀ r ∈ c.recs, r.wf
  group : c.group.size ≤ 9223372036854775807
  off : -9223372036854775808 ≤ c.off ∧ c.off ≤ 9223372036854775807
  max : -9223372036854775808 ≤ c.max ∧ c.max ≤ 9223372036854775807
  now : -9223372036854775808 ≤ c.now ∧ c.now ≤ 9223372036854775807
  sum : 0 ≤ c.sum ∧ c.sum ≤ 4294967295
  seg : -9223372036854775808 ≤ c.seg ∧ c.seg ≤ 9223372036854775807
  keep : -9223372036854775808 ≤ c.keep ∧ c.keep ≤ 9223372036854775807
  age : -9223372036854775808 ≤ c.age ∧ c.age ≤ 9223372036854775807
  grace : -9223372036854775808 ≤ c.grace ∧ c.grace ≤ 9223372036854775807
/-- Which kind: one of the twelve, or none. -/
theorem Cmd.kinds (k : Int) : k = 0 ∨ k = 1 ∨ k = 2 ∨ k = 3 ∨ k = 4 ∨ k = 5 ∨ k = 6 ∨ k = 7 ∨ k = 8 ∨ k = 9 ∨ k = 10 ∨ k = 11 ∨ (k < 0 ∨ 11 < k) := by omega
end Go.Proofs.YtiglignfjegilaaDoor
