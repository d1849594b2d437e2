/- Words for what the program's own functions on commands answer. No statement of the program is proved here. -/
import Derived.Test.YtiglignfjegilaaDoorCmdBase
import Derived.Test.YtiglignfjegilaaDoorUtf8Laid
namespace Go.Proofs.YtiglignfjegilaaDoor
open Go.RowKit

/-- What a reading of a command answers: none, and an error; or a command whose records are new. -/
def TellsCmd (o : Option Cmd) (w : World) (e : Ending) (w' : World) : Prop :=
  Below w.heap.size w w' ∧ ((o = none ∧ e = .returned (.tuple #[cmdV (.slice none 0 0) zeroCmd, .int .i64 2])) ∨ ∃ c v, o = some c ∧ e = .returned (.tuple #[cmdV v c, .int .i64 0]) ∧ OwnR w' w.heap.size v c.recs)
theorem Cmd.right.recs {c : Cmd} (h : c.right) : ∀ r ∈ c.recs, r.right := by
  intro r hr
  by_cases hk : c.kind = 1
  · rcases h.2 with h | h | h | h | h | h | h | h | h
    · omega
    · exact (h.2.2.2.2.2.2 r hr).2
    all_goals omega
  · have hz : c.recs.length = 0 := by
      rcases h.1.1 with h | h
      · exact absurd h hk
      · exact h.2
    rw [List.eq_nil_of_length_eq_zero hz] at hr
    cases hr
theorem RecsLie.none (w : World) : RecsLie w Option.none [] 0 := ⟨fun h => absurd rfl h, Nat.le_refl _, by simp [maxLen], fun _ h => by cases h⟩
theorem zeroCmd_wf : zeroCmd.wf := ⟨by decide, by decide, by decide, fun _ h => (by cases h), by decide, by decide, by decide, by decide, by decide, by decide, by decide, by decide, by decide⟩
/-- A name is short. -/
theorem cnt_four (s : ByteArray) : ∀ n p, cntFrom s p ≤ n → s.size ≤ p + 4 * n
  | 0, p, h => by
    have := cnt_zero (Nat.le_zero.1 h)
    omega
  | n + 1, p, h => by
    by_cases hp : p < s.size
    · rw [cnt_step s p hp] at h
      have h1 := cnt_four s n _ (by omega : cntFrom s (p + (Utf8.decode s p).2) ≤ n)
      have h2 := decode_four s p
      omega
    · omega
theorem name_size {s : ByteArray} (h : validS s = true) : s.size ≤ 160 := by
  unfold validS at h
  simp only [Bool.and_eq_true, decide_eq_true_eq] at h
  have := cnt_four s 40 0 h.2
  omega
theorem right_group {c : Cmd} (h : c.right) : c.group.size ≤ maxLen := by
  have hle : c.group.size ≤ 160 := by
    rcases h.1.2.2.1 with hk | hk | hk
    · rcases h.2 with h | h | h | h | h | h | h | h | h
      · omega
      · omega
      · omega
      · exact name_size h.2.2
      all_goals omega
    · rcases h.2 with h | h | h | h | h | h | h | h | h
      · omega
      · omega
      · omega
      · omega
      · exact name_size h.2
      all_goals omega
    · omega
  unfold maxLen
  omega
/-- The records of a command that was read lie somewhere. -/
theorem own_lie {w : World} {base : Nat} {v : Value} {rs : List Rec} (h : OwnR w base v rs) (hw : ∀ r ∈ rs, r.wf) : ∃ A cap, v = .slice A rs.length cap ∧ RecsLie w A rs cap := by
  obtain ⟨A, c, e, hl, _⟩ := h.parts hw
  exact ⟨A, c, e, hl⟩
end Go.Proofs.YtiglignfjegilaaDoor
