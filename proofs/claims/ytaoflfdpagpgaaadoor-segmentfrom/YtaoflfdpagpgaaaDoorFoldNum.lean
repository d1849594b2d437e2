/- Plain mathematics of ints turned into numbers without a sign, and back. -/
import Derived.Test.YtaoflfdpagpgaaaDoorBase
import Derived.Test.YtaoflfdpagpgaaaDoorNum
namespace Go.Proofs.YtaoflfdpagpgaaaDoor
open Go.RowKit

def foldI (n : Int) : Int := if n < 0 then -2 * n - 1 else 2 * n
def unfoldI (x : Int) : Int := if x % 2 = 1 then -(x / 2) - 1 else x / 2

theorem nat_xor_max (a : Nat) (h : a < 2 ^ 64) : a ^^^ (2 ^ 64 - 1) = 2 ^ 64 - (a + 1) := by
  apply Nat.eq_of_testBit_eq
  intro i
  rw [Nat.testBit_xor, Nat.testBit_two_pow_sub_one, Nat.testBit_two_pow_sub_succ h]
  by_cases hi : i < 64
  · simp [hi]
  · have : a.testBit i = false := Nat.testBit_lt_two_pow (Nat.lt_of_lt_of_le h (Nat.pow_le_pow_right (by decide) (by omega)))
    simp [hi, this]
theorem xor_max (y : Int) (h0 : 0 ≤ y) (h1 : y ≤ 18446744073709551615) : bits .xor .u64 IntKind.u64.max y = 18446744073709551615 - y := by
  obtain ⟨a, rfl⟩ := Int.eq_ofNat_of_zero_le h0
  have e : IntKind.u64.max = ((18446744073709551615 : Nat) : Int) := by decide
  rw [e, u64_xor_nat _ _ (by decide) (by omega), Nat.xor_comm]
  have h : a ^^^ 18446744073709551615 = 18446744073709551616 - (a + 1) := nat_xor_max a (by omega)
  omega

theorem fold_range (n : Int) (h0 : -9223372036854775808 ≤ n) (h1 : n ≤ 9223372036854775807) : 0 ≤ foldI n ∧ foldI n ≤ 18446744073709551615 := by
  unfold foldI; split <;> omega
theorem unfold_range (x : Int) (h0 : 0 ≤ x) (h1 : x ≤ 18446744073709551615) : -9223372036854775808 ≤ unfoldI x ∧ unfoldI x ≤ 9223372036854775807 := by
  unfold unfoldI; split <;> omega
theorem unfold_fold (n : Int) : unfoldI (foldI n) = n := by
  unfold unfoldI foldI; split <;> split <;> omega
theorem fold_unfold (x : Int) (h0 : 0 ≤ x) : foldI (unfoldI x) = x := by
  unfold unfoldI foldI; split <;> split <;> omega

theorem ret_int {k : IntKind} {a b : Int} {w : World} (h : a = b) : Ending.returned (.int k a) = .returned (.int k b) ∧ w = w := ⟨by rw [h], rfl⟩

end Go.Proofs.YtaoflfdpagpgaaaDoor
