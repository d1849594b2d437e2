/- A right name is short. No program is spoken of here. -/
import Derived.Test.YtmghlfhdjdlkbaaDoorRuneNum
import Derived.Test.YtmghlfhdjdlkbaaDoorNums
namespace Go.Proofs.YtmghlfhdjdlkbaaDoor
/-- A name is short. -/
theorem cnt_four (s : ByteArray) : ∀ n p, cntFrom s p ≤ n → s.size ≤ p + 4 * n
  | 0, p, h => by
    have := cnt_zero (Nat.le_zero.1 h)
    omega
  | n + 1, p, h => by
    by_cases hp : p < s.size
    · rw [cnt_step s p hp] at h
      have h1 := cnt_four s n _ (by omega : cntFrom s (p + (Utf8.decode s p).2) ≤ n)
      have h2 := decode_four s p
      omega
    · omega
theorem name_size {s : ByteArray} (h : validS s = true) : s.size ≤ 160 := by
  unfold validS at h
  simp only [Bool.and_eq_true, decide_eq_true_eq] at h
  have := cnt_four s 40 0 h.2
  omega
end Go.Proofs.YtmghlfhdjdlkbaaDoor
